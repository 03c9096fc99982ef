import PyProof.Rows.All
import Wide.All
import OpenK.AllK
import Wide.FinOn
import Lean
import PyProof.EqAt
import PyProof.EqKinds
import PyProof.TupleCall
import PyProof.StrWalks
import PyProof.ConsumeWalk
import PyProof.TupleKey
import PyProof.DictFindH
import PyProof.P3Eq
import PyProof.DictRoadsH
import PyProof.Rows.TupTab
import KE.KSortTup
import PyProof.ZipIter
import PyProof.Draws
import PyProof.WalksMore
import PyProof.ListMulRoad
import PyProof.AutoListH
import PyProof.FactsAll.tuple_2
import PyProof.FactsAll.tuple
import PyProof.TupleIter
import PyProof.AttrMissHeap
import PyProof.DictIter
import PyProof.DictWalks
import KE.KDictSum
import KE.KDictOf
import PyProof.EnumMake
import PySem.Challenge.RW_lastloser_k12_all_that_is_reached
set_option tactic.hygienic false
local macro_rules|`(tactic|omega)=>`(tactic|lia)
set_option Elab.async false
set_option linter.all false
set_option maxRecDepth 100000
set_option maxHeartbeats 4000000
open List
def a0:=@PyProof.Rows.slot_tuple_getitem
def a8:=@PySem.wpAny_typeNameOfWhole_keyiter
def a9:=@PySem.F.slot_dict_keyiterator_next
def c9:=@PyProof.Rows.callWith_type1
def e6:=@PySem.F.slot_tuple_iterator_next
def e7:=@getElem?_append_right
def e9:=@getD_eq_getElem?_getD
def g9:=@getElem?_append_left
def i0:=@Array.getElem?_eq_getElem
def i4:=@drop_eq_getElem_cons
def i5:=@List.getElem?_eq_some_iff
def i6:=@List.getElem?_eq_none_iff
def i7:=@PySem.F.slot_list_append
def i8:=@getElem?_eq_getElem
def i9:=@PySem.F.type_list_append
def j0:=@PySem.F.plainAttrs_list
def j4:=@getElem?_replicate
def j5:=@PySem.wpAny_callSpecial?_slot
def j6:=@length_eq_zero_iff
def j7:=@take_of_length_le
def j8:=@reverse_singleton
def j9:=@drop_eq_nil_of_le
def k3:=@Array.getElem?_eq_none
def k4:=@PySem.Heap.get?_push_of_some
def k5:=@PySem.Heap.get?_update_other
def k7:=@PySem.Heap.get?_update_self
def k8:=@mem_append_right
def k9:=@length_singleton
def l6:=@Array.getElem?_toList
def l7:=@length_replicate
def l8:=@getElem?_eq_none
def l9:=@pairwise_append
def m3:=@mem_cons_of_mem
def m5:=@mem_of_getElem?
def m6:=@mem_append_left
def m7:=@mem_iff_getElem
def m8:=@PySem.Around.under_plainId
def m9:=@PySem.Heap.SameBut.update
def n0:=@getElem?_range
def n5:=@PySem.mem_of_lookup
def n6:=@replicate_succ
def n9:=@Array.length_toList
def o7:=@PySem.Heap.get?_push_size
def o8:=@mem_cons_self
def o9:=@Bool.false_ne_true
def p5:=@length_append
def p6:=@Bool.false_eq_true
def p7:=@Int.emod_lt_of_pos
def p8:=@PySem.wpAny_setField_rec
def p9:=@Nat.lt_of_le_of_lt
def q8:=@Nat.lt_of_lt_of_le
def q9:=@mem_singleton
def r6:=@PySem.wpAny_Call_Name_kw
def r9:=@getElem?_map
def s9:=@decide_eq_true_eq
def u4:=@Int.toNat_natCast
def u5:=@PySem.wpAny_newObj_type
def u6:=@flatten_cons
def u7:=@append_assoc
def u9:=@PySem.wpAny_truthy_bool
def w5:=@PySem.wpAny_pyIter_list
def w6:=@length_range
def w9:=@Option.isSome_map
def x4:=@List.size_toArray
def x5:=@PySem.SeqAt.eqAt_reads
def x6:=@lookup_cons
def x8:=@Nat.le_of_not_lt
def x9:=@length_cons
def y0:=@Nat.lt_of_not_le
def y6:=@length_drop
def y7:=@mem_reverse
def y8:=@take_length
def y9:=@PySem.wpAny_call_entry
def z3:=@PySem.F.plain_max_loop
def z9:=@Bool.and_eq_true
def A0:=@length_take
def A1:=@getElem_mem
def A2:=@Bool.eq_iff_iff
def A3:=@append_nil
def A4:=@nil_append
def A5:=@find?_cons
def A6:=@decide_eq_false
def A7:=@PySem.wpAny_loadPart'
def A8:=@Int.emod_nonneg
def A9:=@Option.some.inj
def B0:=@PySem.PassesOwn.never
def B1:=@PySem.wpAny_passesOwn
def B2:=@PySem.codeAny_builtin
def B3:=@PySem.W.kia_one
def B4:=@length_map
def B5:=@mem_append
def B6:=@map_append
def B7:=@Nat.le_antisymm
def B8:=@decide_eq_true
def B9:=@PySem.wpAny_seqItems
def C0:=@PySem.Heap.size_push
def C1:=@PySem.wpAny_tryCatch
def C2:=@PySem.wpAny_holding
def C3:=@PySem.wpAny_attempt
def C4:=@PySem.Paired.length
def C5:=@Nat.lt_irrefl
def C6:=@map_cons
def C7:=@mem_cons
def C8:=@PySem.plainId_quiet
def C9:=@Int.zero_add
def D1:=@Nat.ne_of_lt
def D3:=@PySem.Heap.lt_size
def D4:=@mem_map
def D8:=@List.map_map
def D9:=@Nat.le_trans
def E1:=@Nat.le_refl
def E2:=@PySem.sizeLine_eq
def E3:=@Nat.zero_le
def E4:=@PySem.wpAny_field
def E8:=@PySem.wpAny_letGo
def E9:=@PySem.wpAny_bind
def G0:=@PySem.wpAny_pure
def G5:=@PySem.wpAny_rule
def G6:=@PySem.call_meets
def G7:=@PySem.wpAny_mono
def G8:=@bind_congr
def G9:=@ite_congr
def H0:=@PyProof.Rows.wpS_bind
def H9:=@if_false
def J0:=@PyProof.Rows.wpS_pure
def J1:=@congrArg
def J3:=@Ne.symm
def J4:=@if_pos
def J5:=@if_neg
namespace L2
open PySem PySem.Spec PyProof.Rows
abbrev Key:=Sum Int Str
def oH:Key->Value->Bool
 | .inl k,v=>Value.isInt k v
 | .inr x,v=>Value.isStrOf x v
def SH(w:World):Key->Int
 | .inl k=>hashInt k
 | .inr x=>hashStr w x
theorem bP:∀{k:Key} {v:Value},oH k v=true->(∃i t,k=Sum.inl i/\v=Value.int i t)\/(∃x t,k=Sum.inr x/\v=Value.str x t)
 | .inl i,v,h=>by
  obtain⟨t,e⟩:=Value.isInt_shape (k:=i) (v:=v) h
  exact .inl ⟨i,t,rfl,e⟩
 | .inr x,v,h=>by
  obtain⟨t,e⟩:=Value.isStrOf_shape (x:=x) (v:=v) h
  exact .inr ⟨x,t,rfl,e⟩
theorem yX(i:Int)(t:Tok):oH (.inl i) (.int i t)=true:=by simp[oH,Value.isInt]
theorem yW(x:Str)(t:Tok):oH (.inr x) (.str x t)=true:=by simp[oH,Value.isStrOf]
theorem Ll(a b:Int):decide ((Sum.inl a:Key)=Sum.inl b)=(a==b):=by
 by_cases e:a=b
 ·subst e;simp
 ·have h:¬(Sum.inl a:Key)=Sum.inl b:=λ q=>e (Sum.inl.inj q)
  rw[A6 h]
  exact(beq_eq_false_iff_ne.mpr e).symm
theorem Li(a b:Str):decide ((Sum.inr a:Key)=Sum.inr b)=decide (a=b):=by
 by_cases e:a=b
 ·subst e;simp
 ·have h:¬(Sum.inr a:Key)=Sum.inr b:=λ q=>e (Sum.inr.inj q)
  rw[A6 h,A6 e]
theorem Lk(a:Int)(b:Str):decide ((Sum.inl a:Key)=Sum.inr b)=false:=A6 (λ q=>nomatch q)
theorem Lj(a:Str)(b:Int):decide ((Sum.inr a:Key)=Sum.inl b)=false:=A6 (λ q=>nomatch q)
def cm(prog:Program)(w:World):PySem.KeyKind prog w Key where
 is:=oH
 hash:=SH w
 inj:=λ v a b ha hb=>by
  rcases bP ha with⟨i,t,rfl,rfl⟩|⟨x,t,rfl,rfl⟩
  ·rcases bP hb with⟨j,u,rfl,e⟩|⟨y,u,rfl,e⟩
   ·injection e with e1 _;rw[e1]
   ·exact nomatch e
  ·rcases bP hb with⟨j,u,rfl,e⟩|⟨y,u,rfl,e⟩
   ·exact nomatch e
   ·injection e with e1 _;rw[e1]
 byValue:=λ k v h=>by
  rcases bP h with⟨i,t,rfl,rfl⟩|⟨x,t,rfl,rfl⟩ <;> rfl
 pyHash:=λ hv h=>by
  rcases bP hv with⟨i,t,rfl,rfl⟩|⟨x,t,rfl,rfl⟩
  ·exact wpAny_pyHash_int h
  ·exact wpAny_pyHash_str h
 eqBool:=λ hu hv h=>by
  rcases bP hu with⟨i,t,rfl,rfl⟩|⟨x,t,rfl,rfl⟩
  ·rcases bP hv with⟨j,u,rfl,rfl⟩|⟨y,u,rfl,rfl⟩
   ·rw[Ll]at h;exact wpAny_eqBool_int h
   ·rw[Lk]at h;exact SeqAt.EqAt.int_str i t y u _ _ _ _ h
  ·rcases bP hv with⟨j,u,rfl,rfl⟩|⟨y,u,rfl,rfl⟩
   ·rw[Lj]at h;exact SeqAt.EqAt.str_int x t j u _ _ _ _ h
   ·rw[Li]at h;exact wpAny_eqBool_str h
 «strs»:=λ k x t v h=>by
  rcases bP h with⟨i,u,rfl,e⟩|⟨y,u,rfl,e⟩
  ·exact nomatch e
  ·injection e with e1 _
   subst e1
   cases v <;> rfl
theorem kg(prog:Program)(w:World)(i:Int)(t:Tok):(cm prog w).is (.inl i) (.int i t)=true:=yX i t
theorem sm(prog:Program)(w:World)(x:Str)(t:Tok):(cm prog w).is (.inr x) (.str x t)=true:=yW x t
inductive V where
 |bj|bl (b:Bool)|int (i:Int)|str (x:Str)|Dk (b:Array UInt8)|MR (b:UInt64)|ref (a:Addr)|ty (n:String)
 deriving DecidableEq
def RelV:V->Value->Prop
 | .bj,u=>u=Value.none
 | .bl b,u=>u=Value.bool b
 | .int i,u=>∃t,u=Value.int i t
 | .str x,u=>∃t,u=Value.str x t
 | .Dk b,u=>∃t,u=Value.bytes b t
 | .MR b,u=>∃t,u=Value.float b t
 | .ref a,u=>u=Value.ref a
 | .ty n,u=>u=Value.type n
abbrev Vals:List V->List Value->Prop:=Paired RelV
theorem Vals.length {xs:List V}{us:List Value}(r:Vals xs us):xs.length=us.length:=C4 r
theorem Vals.get:∀{xs:List V} {us:List Value} {i:Nat} {x:V},Vals xs us->xs[i]?=some x->∃u,us[i]?=some u/\RelV x u
 |_,_,_,_,.nil,e=>by simp at e
 |_,_,0,_,.cons r _,e=>by simp at e;subst e;exact⟨_,rfl,r⟩
 |_,_,i+1,x,.cons _ t,e=>by
  obtain⟨u,h1,h2⟩:=Vals.get (i:=i) (x:=x) t (by simpa using e)
  exact⟨u,by simpa using h1,h2⟩
theorem Vals.set {x:V}{u:Value}(r:RelV x u):∀{xs:List V} {us:List Value} (i:Nat),Vals xs us->Vals (xs.set i x) (us.set i u)
 |_,_,_,.nil=>.nil
 |_,_,0,.cons _ t=>.cons r t
 |_,_,i+1,.cons q t=>.cons q (Vals.set r i t)
theorem Vals.append:∀{xs ys:List V} {us ws:List Value},Vals xs us->Vals ys ws->Vals (xs++ys) (us++ws)
 |_,_,_,_,.nil,s=>s
 |_,_,_,_,.cons r t,s=>.cons r (Vals.append t s)
theorem Vals.take:∀{xs:List V} {us:List Value} (n:Nat),Vals xs us->Vals (xs.take n) (us.take n)
 |_,_,0,_=>.nil
 |_,_,_+1,.nil=>.nil
 |_,_,n+1,.cons r t=>.cons r (Vals.take n t)
theorem Vals.drop:∀{xs:List V} {us:List Value} (n:Nat),Vals xs us->Vals (xs.drop n) (us.drop n)
 |_,_,0,r=>r
 |_,_,_+1,.nil=>.nil
 |_,_,n+1,.cons _ t=>Vals.drop n t
theorem Vals.none_of:∀{xs:List V} {us:List Value} {i:Nat},Vals xs us->xs[i]?=none->us[i]?=none:=λ{xs us i} r e=>by
 have h1:=r.length
 have h2:xs.length<=i:=i6.mp e
 exact i6.mpr (by omega)
def js:Option V->Option Value->Prop
 |some v,some u=>RelV v u
 |none,none=>True
 |_,_=>False
def KV{κ:Type}:List (κ×V)->List (κ×Value)->Prop:=Paired λ(p:κ×V) (q:κ×Value)=>p.1=q.1/\RelV p.2 q.2
def kV:Key->V
 | .inl i=>.int i
 | .inr x=>.str x
inductive HO where
  |lst (xs:List V)
  |tup (xs:List V)
  |dK (kvs:List (Key×V))|dT (kvs:List (List Key×V))
  |set (S:Int->Bool) (n:Nat)
  |ins (C dx:Addr) (fs:List (Str×V))
  |own (x:Addr)
  |xd (fs:List (Str×V))
  |met (f x:Addr)
  |RX (lo hi:Int)
  |mY (o:Obj) (u:HO)
  |IJ (ps:Array Value)
  |ext (φ:Heap->Prop)
abbrev Hp:=Addr->Option HO
def upd(H:Hp)(a:Addr)(o:HO):Hp:=λ b=>if b=a then some o else H b
theorem br{H:Hp}{a:Addr}{o:HO}:upd H a o a=some o:=by unfold upd;rw[J4 rfl]
theorem aP{H:Hp}{a b:Addr}{o:HO}(h:b≠a):upd H a o b=H b:=by unfold upd;rw[J5 h]
theorem aZ{H:Hp}{a b:Addr}{o u:HO}(h:H a=some o)(h':H b=some u)(d:o≠u):a≠b:=by
 intro e;subst e;rw[h]at h';exact d (A9 h')
theorem ck{H:Hp}{a b:Addr}{o:HO}(h:H a=some o)(h':H b=none):a≠b:=by
 intro e;subst e;rw[h]at h';cases h'
section
variable (P:Program)(w:World)
def bL(H:Hp)(h:Heap)(a:Addr):HO->Prop
 | .lst xs=>xs.length<=sizeLine/\∃(au:List Value) (n:Nat),Vals xs au/\h.get? a=some {cls:=.type "list",data:=.seq au.toArray n}
 | .tup xs=>xs.length<=sizeLine/\∃au:List Value,Vals xs au/\IsTup h a au.toArray
 | .dK kvs=>kvs.length<=sizeLine/\(a==sysModules)=false/\∃vs,KV kvs vs/\h.DictOf (cm P w) a vs
 | .dT kvs=>kvs.length<=sizeLine/\(a==sysModules)=false/\∃xs:List (List Key×Addr×Value),
   Paired (λ(p:List Key×V) (q:List Key×Addr×Value)=>p.1=q.1/\H q.2.1=some (.tup (p.1.map kV))/\RelV p.2 q.2.2) kvs xs/\
   ∃o es ep,h.get? a=some o/\o.ExactDict/\o.data=.dict es ep/\es.toList=xs.map (entryOfKey (tupleKind (cm P w)))/\(xs.map (·.1)).Nodup
 | .set S n=>h.SetOf (intKind P w) a S n
 | .ins C dx fs=>H dx=some (.own a)/\fs.length<=1000/\dx≠a/\h.get? a=some (PySem.W.instObj C dx)/\
   ∃mA,h.Ns1 dx mA/\(∀f,js (fs.lookup f) (mA f))/\PySem.Within mA (fs.map (·.1))
 | .own _=>∃o,h.get? a=some o
 | .xd fs=>∃mA,h.Ns1 a mA/\∀f,js (fs.lookup f) (mA f)
 | .RX lo hi=>∃t u v,h.get? a=some {cls:=.type "range",data:=.fields #[.int lo t,.int hi u,.int 1 v]}
 | .mY o u=>h.get? a=some o/\bL H h a u
 | .IJ ps=>h.get? a=some {cls:=.none,data:=.fields ps}
 | .met f x=>h.get? a=some (PySem.W.methodObj (.ref f) (.ref x))
 | .ext φ=>φ h/\(∃o,h.get? a=some o)/\∀h1 h2:Heap,φ h1->(∀o,h1.get? a=some o->h2.get? a=some o)->φ h2
def iD(H:Hp)(h:Heap):Prop:=∀a o,H a=some o->bL P w H h a o
end
section
variable {P:Program}{w:World}{H H':Hp}{h h':Heap}{a:Addr}{o:HO}
theorem bL.lt (x:bL P w H h a o):a < h.objs.size:=by
 cases o with
 |lst xs=>obtain⟨_,_,_,_,e⟩:=x;exact D3 e
 |tup xs=>obtain⟨_,_,_,p⟩:=x;exact p.lt
 |dK kvs=>obtain⟨_,_,_,_,o,_,_,e,_⟩:=x;exact D3 e
 |dT kvs=>obtain⟨_,_,_,_,o,_,_,e,_⟩:=x;exact D3 e
 |set S n=>obtain⟨o,_,_,_,e,_⟩:=x;exact D3 e
 |ins C dx fs=>obtain⟨_,_,_,e,_⟩:=x;exact D3 e
 |own y=>obtain⟨_,e⟩:=x;exact D3 e
 |xd fs=>obtain⟨_,⟨_,_,_,e,_⟩,_⟩:=x;exact D3 e
 |RX lo hi=>obtain⟨_,_,_,e⟩:=x;exact D3 e
 |mY ob u=>obtain⟨e,_⟩:=x;exact D3 e
 |IJ ps=>exact D3 (show h.get? a=some _ from x)
 |met f y=>exact D3 (show h.get? a=some _ from x)
 |ext φ=>obtain⟨_,⟨_,e⟩,_⟩:=x;exact D3 e
theorem Paired.BJ {α β:Type}{F G:α->β->Prop}:∀{l₁:List α} {l₂:List β},Paired F l₁ l₂->(∀a b,F a b->G a b)->Paired G l₁ l₂
 |_,_,.nil,_=>.nil
 |_,_,.cons r t,f=>.cons (f _ _ r) (Paired.BJ t f)
theorem bL.kM (x:bL P w H h a o)(k:∀b u,(b=a\/H b=some (.own a))->h.get? b=some u->h'.get? b=some u)
  (ho:∀b,H b=some (.own a)->H' b=some (.own a)) (ht:∀b xs,H b=some (.tup xs)->H' b=some (.tup xs)):bL P w H' h' a o:=by
 induction o with
 |lst xs=>obtain⟨z,au,n,r,e⟩:=x;exact⟨z,au,n,r,k _ _ (.inl rfl) e⟩
 |tup xs=>obtain⟨z,au,r,ob,e,c⟩:=x;exact⟨z,au,r,ob,k _ _ (.inl rfl) e,c⟩
 |dK kvs=>obtain⟨z,y,vs,r,ob,es,ep,e,c⟩:=x;exact⟨z,y,vs,r,ob,es,ep,k _ _ (.inl rfl) e,c⟩
 |dT kvs=>
  obtain⟨z,y,xs,r,ob,es,ep,e,c⟩:=x
  exact⟨z,y,xs,Paired.BJ r λ p q z=>⟨z.1,ht _ _ z.2.1,z.2.2⟩,ob,es,ep,k _ _ (.inl rfl) e,c⟩
 |set S n=>obtain⟨ob,es,ep,t,e,c⟩:=x;exact⟨ob,es,ep,t,k _ _ (.inl rfl) e,c⟩
 |ins C dx fs=>
  obtain⟨d,z,ne,e,mA,⟨od,es,ep,e2,c⟩,r⟩:=x
  exact⟨ho _ d,z,ne,k _ _ (.inl rfl) e,mA,⟨od,es,ep,k _ _ (.inr d) e2,c⟩,r⟩
 |own y=>obtain⟨ob,e⟩:=x;exact⟨ob,k _ _ (.inl rfl) e⟩
 |xd fs=>obtain⟨mA,⟨od,es,ep,e,c⟩,r⟩:=x;exact⟨mA,⟨od,es,ep,k _ _ (.inl rfl) e,c⟩,r⟩
 |RX lo hi=>obtain⟨t,u,v,e⟩:=x;exact⟨t,u,v,k _ _ (.inl rfl) e⟩
 |mY ob u ih=>obtain⟨e,q⟩:=x;exact⟨k _ _ (.inl rfl) e,ih q⟩
 |IJ ps=>
  have e:h.get? a=some {cls:=.none,data:=.fields ps}:=x
  show h'.get? a=some {cls:=.none,data:=.fields ps}
  exact k a _ (.inl rfl) e
 |met f y=>
  have e:h.get? a=some (PySem.W.methodObj (.ref f) (.ref y)):=x
  show h'.get? a=some (PySem.W.methodObj (.ref f) (.ref y))
  exact k a _ (.inl rfl) e
 |ext φ=>obtain⟨p,⟨o,e⟩,st⟩:=x;exact⟨st _ _ p λ o q=>k _ _ (.inl rfl) q,⟨o,k _ _ (.inl rfl) e⟩,st⟩
theorem iD.lt (x:iD P w H h)(e:H a=some o):a < h.objs.size:=(x a o e).lt
theorem iD.fresh (x:iD P w H h)(e:h.objs.size<=a):H a=none:=by
 cases q:H a with
 |none=>rfl
 |some u=>exact absurd (q8 (x.lt q) e) (C5 _)
theorem iD.kept (x:iD P w H h)(k:∀b u,h.get? b=some u->h'.get? b=some u):iD P w H h':=λ a o e=>
 (x a o e).kM (λ b u _ q=>k b u q) (λ _ q=>q) λ _ _ q=>q
theorem iD.laid (x:iD P w H h)(k:∀b u,h.get? b=some u->h'.get? b=some u)(hp:h.objs.size<=a)(new:bL P w (upd H a o) h' a o):iD P w (upd H a o) h':=λ b u e=>by
 have hn:=x.fresh hp
 by_cases hb:b=a
 ·subst hb;rw[br]at e;cases e;exact new
 ·rw[aP hb]at e
  exact(x b u e).kM (λ c v _ q=>k c v q) (λ c q=>by rw[aP (ck q hn)];exact q) λ c xs q=>by rw[aP (ck q hn)];exact q
end
def Rd(H:Hp)(a:Addr)(u:HO):Prop:=H a=some u\/∃o,H a=some (.mY o u)
theorem Rd.ok {P:Program}{w:World}{H:Hp}{h:Heap}{a:Addr}{u:HO}(r:Rd H a u)(x:iD P w H h):bL P w H h a u:=by
 rcases r with r|⟨o,r⟩
 ·exact x a u r
 ·obtain⟨_,q⟩:=x a _ r
  exact q
def PQ:Option HO->Prop
 |some (.lst _)=>True
 |some (.dK _)=>True
 |some (.dT _)=>True
 |some (.set _ _)=>True
 |some (.ins _ _ _)=>True
 |some (.ext _)=>True
 |_=>False
section
variable {P:Program}{w:World}{H:Hp}{h h':Heap}{x e:Addr}{o':HO}
theorem iD.write (ok:iD P w H h)(mu:PQ (H x))(he:e=x\/H e=some (.own x))(k:∀b u,b≠e->h.get? b=some u->h'.get? b=some u)(MN:∃u,h'.get? e=some u)
  (new:bL P w (upd H x o') h' x o'):iD P w (upd H x o') h':=λ b u q=>by
 have Ot:∀c y,H c=some (.own y)->c≠x:=λ c y r z=>by subst z;rw[r]at mu;exact mu
 have Sx:∀c xs,H c=some (.tup xs)->c≠x:=λ c xs r z=>by subst z;rw[r]at mu;exact mu
 by_cases hb:b=x
 ·subst hb;rw[br]at q;cases q;exact new
 ·rw[aP hb]at q
  by_cases LJ:b=e
  ·have q':H b=some (.own x):=by
    rcases he with z|z
    ·exact absurd (LJ.trans z) hb
    ·rw[LJ];exact z
   rw[q]at q';cases q'
   obtain⟨v,hv⟩:=MN
   exact⟨v,by rw[LJ];exact hv⟩
  ·refine(ok b u q).kM (λ c v hc r=>k c v ?_ r) (λ c r=>by rw[aP (Ot c b r)];exact r) λ c xs r=>by rw[aP (Sx c xs r)];exact r
   rcases hc with rfl|hc
   ·exact LJ
   ·rintro rfl
    rcases he with z|z
    ·exact Ot c b hc z
    ·rw[hc]at z;cases z;exact hb rfl
end
structure Un(fs ex:List Addr)(H H':Hp)(h h':Heap):Prop where
 keep:∀b o,h.get? b=some o->H b=none->b∉fs->b∉ex->h'.get? b=some o
 slot:∀b o,h.get? b=some o->H b=none->b∈fs->b∉ex->∃sl,h'.get? b=some {o with slots:=sl}
 free:∀b o,h.get? b=some o->H b=none->b∉ex->H' b=none
 there:∀b o,h.get? b=some o->b∉ex->∃o',h'.get? b=some o'
 pb:∀b xs,H b=some (.tup xs)->H' b=some (.tup xs)
 nP:∀b o u,H b=some (.mY o u)->H' b=some (.mY o u)
 pf:∀b ps,H b=some (.IJ ps)->∃more,H' b=some (.IJ (ps++more))
section
variable {fs Wx ex X0:List Addr}{H H1 H2:Hp}{h h1 h2 h':Heap}{a x e:Addr}{o:HO}
theorem Un.any (u:Un fs ex H H1 h h1){b:Addr}{ob:Obj}(q:h.get? b=some ob)(n:H b=none)(hx:b∉ex):∃sl,h1.get? b=some {ob with slots:=sl}:=by
 by_cases hb:b∈fs
 ·exact u.slot b ob q n hb hx
 ·exact⟨ob.slots,u.keep b ob q n hb hx⟩
theorem Un.kept (k:∀b u,h.get? b=some u->h'.get? b=some u):Un fs ex H H h h':=
 ⟨λ b ob q _ _ _=>k b ob q,λ b ob q _ _ _=>⟨ob.slots,k b ob q⟩,λ _ _ _ n _=>n,λ b ob q _=>⟨ob,k b ob q⟩,λ _ _ q=>q,λ _ _ _ q=>q,λ _ ps q=>⟨#[],by rw[q];simp⟩⟩
theorem Un.refl:Un fs ex H H h h:=Un.kept λ _ _ q=>q
theorem Un.laid (k:∀b u,h.get? b=some u->h'.get? b=some u)(hp:h.objs.size<=a)(hn:H a=none):Un fs ex H (upd H a o) h h' where
 keep:=λ b u q _ _ _=>k b u q
 slot:=λ b u q _ _ _=>⟨u.slots,k b u q⟩
 free:=λ b u q n _=>by rw[aP (D1 (q8 (D3 q) hp))];exact n
 there:=λ b u q _=>⟨u,k b u q⟩
 pb:=λ b xs q=>by rw[aP (ck q hn)];exact q
 nP:=λ b u xs q=>by rw[aP (ck q hn)];exact q
 pf:=λ b ps q=>⟨#[],by rw[aP (ck q hn),q];simp⟩
theorem Un.write (mu:PQ (H x))(he:e=x\/H e=some (.own x))(k:∀b u,b≠e->h.get? b=some u->h'.get? b=some u)(MN:∃u,h'.get? e=some u):Un fs ex H (upd H x o) h h':=by
 have hx:∀b,H b=none->b≠x:=λ b n z=>by subst z;rw[n]at mu;exact mu
 have hb:∀b,H b=none->b≠e:=λ b n z=>by
  subst z
  rcases he with r|r
  ·exact hx b n r
  ·rw[n]at r;cases r
 have hm:∀b u,H b=some u->¬PQ (some u)->b≠x:=λ b u q nm z=>by subst z;rw[q]at mu;exact nm mu
 refine⟨λ b u q n _ _=>k b u (hb b n) q,λ b u q n _ _=>⟨u.slots,k b u (hb b n) q⟩,λ b u q n _=>by rw[aP (hx b n)];exact n,λ b u q _=>?_,
  λ b xs q=>by rw[aP (hm b _ q λ z=>z)];exact q,λ b u xs q=>by rw[aP (hm b _ q λ z=>z)];exact q,λ b ps q=>⟨#[],by rw[aP (hm b _ q λ z=>z),q];simp⟩⟩
 by_cases LJ:b=e
 ·subst LJ;exact MN
 ·exact⟨u,k b u LJ q⟩
end
def Qa(h:Heap)(H:Hp):List Addr:=(List.range h.objs.size).filter λ a=>(H a).isSome
def ql(h:Heap)(H:Hp):Heap:=PySem.W.hideAll h (Qa h H)
theorem zc(h:Heap)(H:Hp):(ql h H).objs.size=h.objs.size:=PySem.W.hideAll_size _ _
theorem CC{h:Heap}{H:Hp}{b:Addr}{o:Obj}(e:h.get? b=some o)(n:H b=none):(ql h H).get? b=some o:=
 PySem.W.hideAll_get _ e λ hm=>by
  have q:(H b).isSome=true:=(mem_filter.mp hm).2
  rw[n]at q;simp at q
theorem FU{h:Heap}{H:Hp}{b:Addr}{o:Obj}(e:(ql h H).get? b=some o):h.get? b=some o/\H b=none:=by
 have e':h.get? b=some o:=PySem.W.of_hideAll (Qa h H) e
 refine⟨e',?_⟩
 cases q:H b with
 |none=>rfl
 |some x=>
  have hm:b∈Qa h H:=mem_filter.mpr ⟨mem_range.mpr (D3 e'),by simp[q]⟩
  have z:(ql h H).get? b=none:=PySem.W.hideAll_none (Qa h H) hm
  rw[z]at e;cases e
structure Mod(K:PySem.W.Frag)(mg:Str->Option Value)(base:Heap):Prop where
 QY:K.In base
 glob:base.Ns mainGlobals mg
 blt:∃mb,base.Ns builtinsNs mb/\∀x:Str,x≠"__name__"->mb x=bootBuiltins x
 nolimit:base.NoLimit
structure Cx where
 prog:Program
 w:World
 K:PySem.W.Frag
 mg:Str->Option Value
 base:Heap
 A:Around
 N:List Str
 s₀:Shared
 H₀:Hp
 env:Env
 outer:List Env
 stack:List Env
 ex:List Addr
 fn:Str->Bool
 calm:Bool
 pn:List (Addr×Obj)
 xe:Value->Shared->Prop
def zi(l:List Env):List Addr:=l.filterMap (·.frame)
abbrev Cx.fs (X:Cx):List Addr:=zi X.outer
def Rp(sc:Scope)(x:Str):Prop:=sc.names.lookup x=some .local\/sc.names.lookup x=some .cell\/sc.names.lookup x=some .free
def Loc(sc:Scope)(x:Str):Prop:=sc.names.lookup x=some .local\/sc.names.lookup x=some .cell
def Look(env:Env)(h:Heap)(m:Str->Option Value)(x:Str)(u:Value):Prop:=
 (env.kindOf x=some .local/\m x=some u)\/((env.kindOf x=some .cell\/env.kindOf x=some .free)/\∃c,env.cells.lookup x=some c/\h.IsCell c (some u))
structure Cx.Ok (X:Cx):Prop where
 mod:Mod X.K X.mg X.base
 kind:X.env.scope.kind=.function
 glob:X.env.globals=mainGlobals
 blt:X.env.builtins=builtinsNs
 above:X.s₀.heap.objs.size<=X.env.locals
 inj:∀x y c,X.env.cells.lookup x=some c->X.env.cells.lookup y=some c->x=y
 has:∀x,(X.env.kindOf x=some .cell\/X.env.kindOf x=some .free)->∃c,X.env.cells.lookup x=some c
 PD:∀x c,X.fn x=true->X.env.cells.lookup x=some c->X.s₀.heap.objs.size<=c
 hd:X.calm=true->X.A.handled=none
 frames:X.A.frames=some X.stack
 Qv:X.stack=X.outer\/(X.stack=X.env::X.outer/\X.env.frame=some X.env.locals)
 UU:∀b∈X.ex,b≠X.env.locals/\∀x c,X.env.cells.lookup x=some c->c≠b
 bs:∀b o,X.base.get? b=some o->X.s₀.heap.get? b=some o/\X.H₀ b=none
 DC:X.base.objs.size<=X.s₀.heap.objs.size
 yP:∀b o,X.base.get? b=some o->b∉X.ex
 GN:∀b∈X.ex,b∉X.fs
 kZ:X.s₀.heap.FunFrames X.base X.outer
 LP:∀b∈X.fs,X.H₀ b=none
structure Inv(X:Cx)(pins:List (Addr×Obj))(σ:List (Option V))(H:Hp)(s:Shared):Prop where
 ok:X.Ok
 os:s.os=X.s₀.os
 bare:AllBare s.gens
 base:Un X.fs X.ex X.H₀ H X.s₀.heap s.heap
 loc:∃m,s.heap.Ns X.env.locals m/\∀(i:Nat) (x:Str) (v:V),X.N[i]?=some x->σ[i]?=some (some v)->Rp X.env.scope x->∃u,RelV v u/\Look X.env s.heap m x u
 cell:∀x c,X.env.cells.lookup x=some c->∃v,s.heap.IsCell c v
 free:H X.env.locals=none
 fU:∀x c,X.env.cells.lookup x=some c->H c=none
 pin:∀p∈X.pn++pins,s.heap.get? p.1=some p.2/\H p.1=none/\p.1≠X.env.locals/\p.1∉X.fs/\∀v,p.2.data≠.cell v
 bN:iD X.prog X.w H s.heap
 len:σ.length=X.N.length
section
variable {X:Cx}{pins:List (Addr×Obj)}{σ:List (Option V)}{H H':Hp}{s:Shared}{h':Heap}
theorem Cx.Ok.Sz (ok:X.Ok){b:Addr}{o:Obj}(e:X.base.get? b=some o):b∉X.fs:=λ hb=>by
 have:=(ok.kZ.mem hb).1
 rw[e]at this;cases this
theorem Inv.bs (I:Inv X pins σ H s):∀b o,X.base.get? b=some o->s.heap.get? b=some o/\H b=none:=λ b o e=>
 ⟨I.base.keep b o (I.ok.bs b o e).1 (I.ok.bs b o e).2 (I.ok.Sz e) (I.ok.yP b o e),I.base.free b o (I.ok.bs b o e).1 (I.ok.bs b o e).2 (I.ok.yP b o e)⟩
theorem Inv.bk (I:Inv X pins σ H s):∀b o,X.base.get? b=some o->s.heap.get? b=some o:=λ b o e=>(I.bs b o e).1
theorem Inv.mod (I:Inv X pins σ H s):Mod X.K X.mg X.base:=I.ok.mod
theorem Inv.nO (I:Inv X pins σ H s):X.K.In s.heap:=I.ok.mod.QY.keeps I.bk
theorem Inv.lt (I:Inv X pins σ H s):X.env.locals < s.heap.objs.size:=let⟨_,hn,_⟩:=I.loc;hn.lt
theorem Inv.sz (I:Inv X pins σ H s):X.s₀.heap.objs.size<=s.heap.objs.size:=D9 I.ok.above (Nat.le_of_lt I.lt)
theorem Inv.Sy (I:Inv X pins σ H s){a:Addr}(h:s.heap.objs.size<=a):a∉X.fs:=λ hb=>by
 obtain⟨_,o,ho,_⟩:=I.ok.kZ.mem hb
 exact absurd (q8 (D3 ho) (D9 I.sz h)) (C5 _)
theorem Inv.Mc (I:Inv X pins σ H s):∀x c,X.env.cells.lookup x=some c->c≠X.env.locals:=λ x c e z=>by
 obtain⟨v,o,ho,hd⟩:=I.cell x c e
 obtain⟨m,⟨o',es,ep,qj,jf,_⟩,_⟩:=I.loc
 rw[z,qj]at ho;cases ho;rw[jf]at hd;cases hd
theorem Inv.kZ (I:Inv X pins σ H s):s.heap.FunFrames X.base X.outer:=by
 have all:∀(l:List Env),(∀b∈zi l,b∈X.fs)->X.s₀.heap.FunFrames X.base l->s.heap.FunFrames X.base l:=by
  intro l
  induction l with
  |nil=>intro _ _;trivial
  |cons env r ih=>
   intro hs hl
   obtain⟨hk,⟨L,o,hf,hn,ho,hd⟩,hr⟩:=hl
   have hL:L∈X.fs:=hs L (by unfold zi;rw[filterMap_cons,hf];exact o8)
   obtain⟨sl,e⟩:=I.base.slot L o ho (I.ok.LP L hL) hL λ z=>I.ok.GN L z hL
   exact⟨hk,⟨L,_,hf,hn,e,hd⟩,ih (λ b hb=>hs b (by unfold zi;rw[filterMap_cons,hf];exact m3 _ hb)) hr⟩
 exact all X.outer (λ _ hb=>hb) I.ok.kZ
theorem Inv.stack (I:Inv X pins σ H s):s.heap.FunFrames X.base X.stack:=by
 rcases I.ok.Qv with e|⟨e,hf⟩
 ·rw[e];exact I.kZ
 ·rw[e]
  obtain⟨m,hn,_⟩:=I.loc
  refine .cons (by rw[I.ok.kind];decide) hf hn ?_ I.kZ
  exact Heap.get?_none_of_le (D9 I.ok.DC I.ok.above)
theorem Inv.ph (I:Inv X pins σ H s):∀b∈zi X.stack,b∈X.env.locals::X.fs:=λ b hb=>by
 rcases I.ok.Qv with e|⟨e,hf⟩
 ·rw[e]at hb;exact m3 _ hb
 ·rw[e]at hb
  unfold zi at hb
  rw[filterMap_cons,hf]at hb
  exact hb
theorem Inv.wC (I:Inv X pins σ H s):∀b∈zi X.stack,H b=none:=λ b hb=>by
 rcases C7.mp (I.ph b hb)with e|hb
 ·rw[e];exact I.free
 ·obtain⟨_,o,ho,_⟩:=I.ok.kZ.mem hb
  exact I.base.free b o ho (I.ok.LP b hb) λ z=>I.ok.GN b z hb
theorem Inv.step {g':Array GenState}{t':Nat}{d':Drawn}{ch:List Addr}(I:Inv X pins σ H s)
  (zd:∀b∈ch,(b∈X.ex\/X.s₀.heap.objs.size<=b)/\b≠X.env.locals/\(∀x c,X.env.cells.lookup x=some c->c≠b)/\∀p∈X.pn++pins,p.1≠b)
  (keep:∀b o,b≠X.env.locals->b∉X.fs->b∉ch->s.heap.get? b=some o->H b=none->h'.get? b=some o)
  (slot:∀b o,b≠X.env.locals->b∈X.fs->b∉ch->s.heap.get? b=some o->H b=none->∃sl,h'.get? b=some {o with slots:=sl}) (free:∀b o,b∉ch->s.heap.get? b=some o->H b=none->H' b=none)
  (there:∀b o,b∉ch->s.heap.get? b=some o->∃o',h'.get? b=some o')
  (pb:∀b xs,H b=some (.tup xs)->H' b=some (.tup xs)) (nP:∀b o u,H b=some (.mY o u)->H' b=some (.mY o u)) (pf:∀b ps,H b=some (.IJ ps)->∃more,H' b=some (.IJ (ps++more)))
  (ns:∀m,s.heap.Ns X.env.locals m->h'.Ns X.env.locals m) (bN:iD X.prog X.w H' h') (hg:AllBare g'):
  Inv X pins σ H' {s with heap:=h',gens:=g',drawn:=d',toks:=t'}:=by
 have Ul:∀b o,X.s₀.heap.get? b=some o->b≠X.env.locals:=λ b o e=>D1 (q8 (D3 e) I.ok.above)
 have QP:∀b o,X.s₀.heap.get? b=some o->b∉X.ex->b∉ch:=λ b o e hx hb=>by
  rcases(zd b hb).1 with z|z
  ·exact hx z
  ·exact absurd (q8 (D3 e) z) (C5 _)
 have cellK:∀x c,X.env.cells.lookup x=some c->∀v,s.heap.IsCell c v->h'.IsCell c v:=λ x c e v ⟨o,ho,hd⟩=>by
  have Ow:c∉ch:=λ z=>(zd c z).2.2.1 x c e rfl
  by_cases hc:c∈X.fs
  ·obtain⟨sl,q⟩:=slot c o (I.Mc x c e) hc Ow ho (I.fU x c e)
   exact⟨_,q,hd⟩
  ·exact⟨o,keep c o (I.Mc x c e) hc Ow ho (I.fU x c e),hd⟩
 refine⟨I.ok,I.os,hg,⟨λ b o e n hb hx=>?_,λ b o e n hb hx=>?_,λ b o e n hx=>?_,λ b o e hx=>?_,λ b xs e=>pb b xs (I.base.pb b xs e),λ b o xs e=>nP b o xs (I.base.nP b o xs e),λ b ps e=>?_⟩,?_,λ x c e=>?_,?_,λ x c e=>?_,λ p hp=>?_,bN,I.len⟩
 ·exact keep b o (Ul b o e) hb (QP b o e hx) (I.base.keep b o e n hb hx) (I.base.free b o e n hx)
 ·obtain⟨sl,e1⟩:=I.base.slot b o e n hb hx
  obtain⟨Vh,e2⟩:=slot b _ (Ul b o e) hb (QP b o e hx) e1 (I.base.free b o e n hx)
  exact⟨Vh,e2⟩
 ·obtain⟨o',e1⟩:=I.base.there b o e hx
  exact free b o' (QP b o e hx) e1 (I.base.free b o e n hx)
 ·obtain⟨o',e1⟩:=I.base.there b o e hx
  exact there b o' (QP b o e hx) e1
 ·obtain⟨m1,e1⟩:=I.base.pf b ps e
  obtain⟨m2,e2⟩:=pf b _ e1
  exact⟨m1++m2,by rw[e2,Array.append_assoc]⟩
 ·obtain⟨m,hn,hl⟩:=I.loc
  refine⟨m,ns m hn,λ i x v e1 e2 e3=>?_⟩
  obtain⟨u,r,l⟩:=hl i x v e1 e2 e3
  refine⟨u,r,?_⟩
  rcases l with l|⟨k,c,e,z⟩
  ·exact .inl l
  ·exact .inr ⟨k,c,e,cellK x c e _ z⟩
 ·obtain⟨v,z⟩:=I.cell x c e
  exact⟨v,cellK x c e v z⟩
 ·obtain⟨m,⟨o,_,_,ho,_⟩,_⟩:=I.loc
  exact free _ o (λ z=>(zd _ z).2.1 rfl) ho I.free
 ·obtain⟨v,o,ho,hd⟩:=I.cell x c e
  exact free c o (λ z=>(zd c z).2.2.1 x c e rfl) ho (I.fU x c e)
 ·obtain⟨e,n,ne,nf,d⟩:=I.pin p hp
  have Ow:p.1∉ch:=λ z=>(zd p.1 z).2.2.2 p hp rfl
  exact⟨keep p.1 p.2 ne nf Ow e n,free p.1 p.2 Ow e n,ne,nf,d⟩
theorem Inv.un {t':Nat}(I:Inv X pins σ H s)(u:Un X.fs [] H H' s.heap h')(bN:iD X.prog X.w H' h'):Inv X pins σ H' {s with heap:=h',toks:=t'}:=by
 obtain⟨m,⟨o,es,ep,ho,r⟩,_⟩:=id I.loc
 obtain⟨sl,hL⟩:=u.any ho I.free (by simp)
 exact I.step (g':=s.gens) (d':=s.drawn) (ch:=[]) (λ _ z=>nomatch z) (λ b o _ hb _ e n=>u.keep b o e n hb (by simp)) (λ b o _ hb _ e n=>u.slot b o e n hb (by simp)) (λ b o _ e n=>u.free b o e n (by simp)) (λ b o _ e=>u.there b o e (by simp)) u.pb u.nP u.pf (λ m' hm=>by
  obtain⟨o',LQ,TQ,qj,r'⟩:=hm
  rw[ho]at qj;cases qj
  exact⟨_,LQ,TQ,hL,r'⟩) bN I.bare
theorem Inv.call {g':Array GenState}{t':Nat}{d':Drawn}{ch:List Addr}(I:Inv X pins σ H s)(u:Un (zi X.stack) ch H H' s.heap h')(bN:iD X.prog X.w H' h')(hg:AllBare g')
  (zd:∀b∈ch,(b∈X.ex\/X.s₀.heap.objs.size<=b)/\b≠X.env.locals/\(∀x c,X.env.cells.lookup x=some c->c≠b)/\∀p∈X.pn++pins,p.1≠b):
  Inv X pins σ H' {s with heap:=h',gens:=g',drawn:=d',toks:=t'}:=by
 obtain⟨m,⟨o,es,ep,ho,r⟩,_⟩:=id I.loc
 obtain⟨sl,hL⟩:=u.any ho I.free λ z=>(zd _ z).2.1 rfl
 exact I.step (ch:=ch) zd (λ b o hL hb hc e n=>u.keep b o e n (λ z=>(C7.mp (I.ph b z)).elim hL hb) hc) (λ b o _ _ hc e n=>u.any e n hc) (λ b o hc e n=>u.free b o e n hc) (λ b o hc e=>u.there b o e hc) u.pb u.nP u.pf (λ m' hm=>by
  obtain⟨o',LQ,TQ,qj,r'⟩:=hm
  rw[ho]at qj;cases qj
  exact⟨_,LQ,TQ,hL,r'⟩) bN hg
theorem Inv.turned {t':Nat}{it:Addr}(I:Inv X pins σ H s)(k:∀b o,b≠it->s.heap.get? b=some o->h'.get? b=some o)(hn:H it=none)(hL:it≠X.env.locals)
  (h1:it∈X.ex\/X.s₀.heap.objs.size<=it) (h2:∀x c,X.env.cells.lookup x=some c->c≠it) (h3:∀p∈X.pn++pins,p.1≠it):Inv X pins σ H {s with heap:=h',toks:=t'}:=by
 have Ov:∀b u,H b=some u->b≠it:=λ b u e z=>by rw[z,hn]at e;cases e
 refine I.step (g':=s.gens) (d':=s.drawn) (ch:=[it]) (λ b hb=>?_) (λ b o _ _ hc e _=>k b o (λ z=>hc (by simp[z])) e) (λ b o _ _ hc e _=>⟨o.slots,k b o (λ z=>hc (by simp[z])) e⟩) (λ _ _ _ _ n=>n)
  (λ b o hc e=>⟨o,k b o (λ z=>hc (by simp[z])) e⟩) (λ _ _ e=>e) (λ _ _ _ e=>e) (λ b ps e=>⟨#[],by rw[e];simp⟩) (λ m hm=>?_) (λ b u e=>?_) I.bare
 ·have e:b=it:=by simpa using hb
  subst e
  exact⟨h1,hL,h2,h3⟩
 ·obtain⟨o,es,ep,ho,r⟩:=hm
  exact⟨o,es,ep,k _ o (J3 hL) ho,r⟩
 ·refine(I.bN b u e).kM (λ c v hc q=>k c v ?_ q) (λ _ q=>q) λ _ _ q=>q
  rcases hc with z|z
  ·rw[z];exact Ov b u e
  ·exact Ov c _ z
theorem Inv.tok (I:Inv X pins σ H s)(t:Nat):Inv X pins σ H {s with toks:=t}:=I.un (h':=s.heap) (t':=t) Un.refl I.bN
theorem Inv.kept {t':Nat}(I:Inv X pins σ H s)(k:∀b u,s.heap.get? b=some u->h'.get? b=some u):Inv X pins σ H {s with heap:=h',toks:=t'}:=I.un (Un.kept k) (I.bN.kept k)
theorem Inv.laid {a:Addr}{o:HO}{t':Nat}(I:Inv X pins σ H s)(k:∀b u,s.heap.get? b=some u->h'.get? b=some u)(hp:s.heap.objs.size<=a)(new:bL X.prog X.w (upd H a o) h' a o):
  Inv X pins σ (upd H a o) {s with heap:=h',toks:=t'}:=I.un (Un.laid k hp (I.bN.fresh hp)) (I.bN.laid k hp new)
theorem Inv.write {x e:Addr}{o:HO}{t':Nat}(I:Inv X pins σ H s)(mu:PQ (H x))(he:e=x\/H e=some (.own x))(k:∀b u,b≠e->s.heap.get? b=some u->h'.get? b=some u)(MN:∃u,h'.get? e=some u)
  (new:bL X.prog X.w (upd H x o) h' x o):Inv X pins σ (upd H x o) {s with heap:=h',toks:=t'}:=I.un (Un.write mu he k MN) (I.bN.write mu he k MN new)
theorem Inv.weak {σ':List (Option V)}(I:Inv X pins σ H s)(hl:σ'.length=σ.length)(w:∀(i:Nat) v,σ'[i]?=some (some v)->σ[i]?=some (some v)):Inv X pins σ' H s:=
 ⟨I.ok,I.os,I.bare,I.base,let⟨m,hn,sY⟩:=I.loc;⟨m,hn,λ i x v e1 e2 e3=>sY i x v e1 (w i v e2) e3⟩,I.cell,I.free,I.fU,I.pin,I.bN,hl.trans I.len⟩
theorem Inv.cG {pins':List (Addr×Obj)}(I:Inv X pins σ H s)(h:∀p∈pins',s.heap.get? p.1=some p.2/\H p.1=none/\p.1≠X.env.locals/\p.1∉X.fs/\∀v,p.2.data≠.cell v):Inv X pins' σ H s:=
 ⟨I.ok,I.os,I.bare,I.base,I.loc,I.cell,I.free,I.fU,λ p hp=>(B5.mp hp).elim (λ z=>I.pin p (m6 _ z)) (h p),I.bN,I.len⟩
theorem sg{N:List Str}(hN:N.Nodup){i j:Nat}{x:Str}(a:N[i]?=some x)(b:N[j]?=some x):i=j:=by
 obtain⟨h1,e1⟩:=i5.mp a
 obtain⟨h2,e2⟩:=i5.mp b
 exact(getElem_inj hN).mp (e1.trans e2.symm)
theorem ox{M:Model}{A:Around}{E:Value->Shared->Prop}{i:Nat}{x:Str}{v:V}{u:Value}{Q:Unit->Shared->Prop}(I:Inv X pins σ H s)(hN:X.N.Nodup)(hi:X.N[i]?=some x)(hx:Loc X.env.scope x)(r:RelV v u)
  (h:∀s',Inv X pins (σ.set i (some v)) H s'->(∃a,Heap.SameBut a s.heap s'.heap/\(a=X.env.locals\/X.env.cells.lookup x=some a))->Q () s') (hf:X.fn x=true\/X.env.scope.names.lookup x=some .local:=by first|exact .inl rfl|exact .inr rfl|assumption):wpAny M A (storeName X.env x u) Q E s:=by
 obtain⟨m,hn,hl⟩:=id I.loc
 have Tn:(X.env.scope.kind==.class||(X.env.scope.kind==.module&&X.env.locals != X.env.globals))=false:=by rw[I.ok.kind];rfl
 have UK:i < σ.length:=by rw[I.len];exact(i5.mp hi).1
 have Mc:=I.Mc
 have tracked:∀{a:Addr} {h':Heap},(∃o,s.heap.get? a=some o/\H a=none)->Heap.SameBut a s.heap h'->iD X.prog X.w H h':=λ{a h'} ha hs b ob e=>by
  obtain⟨_,_,HY⟩:=ha
  refine(I.bN b ob e).kM (λ c w' hc q=>(hs.2 c ?_).trans q) (λ _ q=>q) λ _ _ q=>q
  rintro rfl
  rcases hc with rfl|hc
  ·rw[HY]at e;cases e
  ·rw[HY]at hc;cases hc
 rcases hx with hk|hk
 ·refine wpAny_storeName_local hk hn (λ h' VX hs=>?_) Tn
  obtain⟨oL,_,_,VS,_⟩:=id hn
  refine h _ ⟨I.ok,I.os,I.bare,⟨λ b o e n hb hx=>?_,λ b o e n hb hx=>?_,I.base.free,λ b o e hx=>?_,I.base.pb,I.base.nP,I.base.pf⟩,⟨_,VX,λ j y v' e1 e2 e3=>?_⟩,λ y c e=>?_,I.free,I.fU,λ p hp=>?_,tracked ⟨oL,VS,I.free⟩ hs,by simpa using I.len⟩ ⟨_,hs,.inl rfl⟩
  ·exact(hs.2 b (D1 (q8 (D3 e) I.ok.above))).trans (I.base.keep b o e n hb hx)
  ·obtain⟨sl,e1⟩:=I.base.slot b o e n hb hx
   exact⟨sl,(hs.2 b (D1 (q8 (D3 e) I.ok.above))).trans e1⟩
  ·obtain⟨o',e1⟩:=I.base.there b o e hx
   exact⟨o',(hs.2 b (D1 (q8 (D3 e) I.ok.above))).trans e1⟩
  ·by_cases hj:j=i
   ·subst hj
    rw[hi]at e1;cases e1
    rw[getElem?_set_self UK]at e2
    cases e2
    exact⟨u,r,.inl ⟨hk,by simp⟩⟩
   ·rw[getElem?_set_ne (J3 hj)]at e2
    obtain⟨u',r',q⟩:=hl j y v' e1 e2 e3
    refine⟨u',r',?_⟩
    rcases q with⟨k,e⟩|⟨k,c,e,z⟩
    ·refine .inl ⟨k,?_⟩
     have:y≠x:=λ e=>hj (sg hN e1 (e▸hi))
     simp[this,e]
    ·exact .inr ⟨k,c,e,z.sameBut hs (Mc y c e)⟩
  ·obtain⟨w',z⟩:=I.cell y c e
   exact⟨w',z.sameBut hs (Mc y c e)⟩
  ·obtain⟨e,n,ne,nf,d⟩:=I.pin p hp
   exact⟨(hs.2 p.1 ne).trans e,n,ne,nf,d⟩
 ·have Ti:X.fn x=true:=by
   rcases hf with z|z
   ·exact z
   ·rw[z]at hk;cases hk
  obtain⟨c,hc⟩:=I.ok.has x (.inl hk)
  obtain⟨w',z⟩:=I.cell x c hc
  refine wpAny_storeName_cell I.ok.kind hk hc z (λ h' ze hs=>?_)
  obtain⟨oc,UD,S'⟩:=id z
  refine h {s with heap:=h'} ⟨I.ok,I.os,I.bare,⟨λ b o e n hb hx=>?_,λ b o e n hb hx=>?_,I.base.free,λ b o e hx=>?_,I.base.pb,I.base.nP,I.base.pf⟩,⟨m,hn.sameBut hs (J3 (Mc x c hc)),λ j y v' e1 e2 e3=>?_⟩,λ y c' e=>?_,I.free,I.fU,λ p hp=>?_,tracked ⟨oc,UD,I.fU x c hc⟩ hs,by simpa using I.len⟩ ⟨c,hs,.inr hc⟩
  ·exact(hs.2 b (D1 (q8 (D3 e) (I.ok.PD x c Ti hc)))).trans (I.base.keep b o e n hb hx)
  ·obtain⟨sl,e1⟩:=I.base.slot b o e n hb hx
   exact⟨sl,(hs.2 b (D1 (q8 (D3 e) (I.ok.PD x c Ti hc)))).trans e1⟩
  ·obtain⟨o',e1⟩:=I.base.there b o e hx
   exact⟨o',(hs.2 b (D1 (q8 (D3 e) (I.ok.PD x c Ti hc)))).trans e1⟩
  ·by_cases hj:j=i
   ·subst hj
    rw[hi]at e1;cases e1
    rw[getElem?_set_self UK]at e2
    cases e2
    exact⟨u,r,.inr ⟨.inl hk,c,hc,ze⟩⟩
   ·rw[getElem?_set_ne (J3 hj)]at e2
    obtain⟨u',r',q⟩:=hl j y v' e1 e2 e3
    refine⟨u',r',?_⟩
    rcases q with q|⟨k,c',e,z'⟩
    ·exact .inl q
    ·refine .inr ⟨k,c',e,z'.sameBut hs ?_⟩
     rintro rfl
     exact hj (sg hN e1 (I.ok.inj _ _ _ e hc▸hi))
  ·by_cases UN:c'=c
   ·subst UN;exact⟨_,ze⟩
   ·obtain⟨w2,z2⟩:=I.cell y c' e
    exact⟨w2,z2.sameBut hs UN⟩
  ·obtain⟨e,n,ne,nf,d⟩:=I.pin p hp
   refine⟨(hs.2 p.1 ?_).trans e,n,ne,nf,d⟩
   intro q
   rw[q,UD]at e
   have q':oc=p.2:=A9 e
   exact d w' (by rw[<- q'];exact S')
theorem rp{M:Model}{A:Around}{E:Value->Shared->Prop}{i:Nat}{x:Str}{v:V}{u:Value}{Q:Unit->Shared->Prop}(I:Inv X pins σ H s)(hN:X.N.Nodup)(hi:X.N[i]?=some x)(hx:Loc X.env.scope x)(r:RelV v u)
  (h:∀s',Inv X pins (σ.set i (some v)) H s'->Q () s') (hf:X.fn x=true\/X.env.scope.names.lookup x=some .local:=by first|exact .inl rfl|exact .inr rfl|assumption):wpAny M A (storeName X.env x u) Q E s:=
 ox I hN hi hx r (λ s' I' _=>h s' I') hf
theorem Inv.PC {s':Shared}{ch:List Addr}(I:Inv X pins σ H s)(ho:s'.os=s.os)(u:Un (zi X.stack) ch H H' s.heap s'.heap)(bN:iD X.prog X.w H' s'.heap)(hg:AllBare s'.gens)
  (zd:∀b∈ch,(b∈X.ex\/X.s₀.heap.objs.size<=b)/\b≠X.env.locals/\(∀x c,X.env.cells.lookup x=some c->c≠b)/\∀p∈X.pn++pins,p.1≠b):Inv X pins σ H' s':=by
 obtain⟨h',g',d',t',o'⟩:=s'
 have e:o'=s.os:=ho
 subst e
 exact I.call (g':=g') (t':=t') (d':=d') u bN hg zd
end
abbrev XK:=Value->Option Addr->Hp->Prop
abbrev St:=List (Option V)
abbrev VK:=V->Hp->Prop
abbrev TE:=St->Hp->VK->Prop
abbrev TT:=St->Hp->(Bool->Hp->Prop)->Prop
abbrev TA:=St->Hp->(List V->Hp->Prop)->Prop
structure Ends where
 nx:St->Hp->Prop
 rt:VK
 bk:St->Hp->Prop:=λ _ _=>False
 ct:St->Hp->Prop:=λ _ _=>False
abbrev TS:=Ends->St->Hp->Prop
def EP(X:Cx)(pins:List (Addr×Obj))(σ:St)(Q:VK)(u:Value)(s':Shared):Prop:=∃v H',Inv X pins σ H' s'/\RelV v u/\Q v H'
def TP(X:Cx)(pins:List (Addr×Obj))(σ:St)(Q:Bool->Hp->Prop)(b:Bool)(s':Shared):Prop:=∃H',Inv X pins σ H' s'/\Q b H'
def AP(X:Cx)(pins:List (Addr×Obj))(σ:St)(Q:List V->Hp->Prop)(us:List Value)(s':Shared):Prop:=∃vs H',Inv X pins σ H' s'/\Vals vs us/\Q vs H'
def SP(X:Cx)(pins:List (Addr×Obj))(D:Ends)(f:Flow)(s':Shared):Prop:=
 match f with
 | .next=>∃σ' H',Inv X pins σ' H' s'/\D.nx σ' H'
 | .brk=>∃σ' H',Inv X pins σ' H' s'/\D.bk σ' H'
 | .cont=>∃σ' H',Inv X pins σ' H' s'/\D.ct σ' H'
 | .ret u=>∃v σ' H',Inv X pins σ' H' s'/\RelV v u/\D.rt v H'
def PE(X:Cx)(e:Expr)(t:TE):Prop:=
 ∀(pins:List (Addr×Obj)) (s:Shared) (σ:St) (H:Hp) (Q:VK),Inv X pins σ H s->t σ H Q->wpAny (model X.prog X.w) X.A (eval e X.env) (EP X pins σ Q) X.xe s
def PT(X:Cx)(e:Expr)(t:TT):Prop:=
 ∀(pins:List (Addr×Obj)) (s:Shared) (σ:St) (H:Hp) (Q:Bool->Hp->Prop),Inv X pins σ H s->t σ H Q->wpAny (model X.prog X.w) X.A (isTrue e X.env (eval e X.env)) (TP X pins σ Q) X.xe s
def PW(X:Cx)(e:Expr)(t:TT):Prop:=
 ∀(whole:Sem Value) (pins:List (Addr×Obj)) (s:Shared) (σ:St) (H:Hp) (Q:Bool->Hp->Prop),Inv X pins σ H s->t σ H Q->wpAny (model X.prog X.w) X.A (isTrue e X.env whole) (TP X pins σ Q) X.xe s
theorem PW.pt {X:Cx}{e:Expr}{t:TT}(h:PW X e t):PT X e t:=h _
def PA(X:Cx)(es:List Expr)(t:TA):Prop:=
 ∀(pos:Pos) (pins:List (Addr×Obj)) (s:Shared) (σ:St) (H:Hp) (Q:List V->Hp->Prop),Inv X pins σ H s->t σ H Q->wpAny (model X.prog X.w) X.A (spliced (backTo pos (starEach es X.env))) (AP X pins σ Q) X.xe s
def PS(X:Cx)(st:Stmt)(t:TS):Prop:=
 ∀(pins:List (Addr×Obj)) (s:Shared) (σ:St) (H:Hp) (D:Ends),Inv X pins σ H s->t D σ H->wpAny (model X.prog X.w) X.A (exec st X.env) (SP X pins D) X.xe s
def uD(X:Cx)(st:List Stmt)(t:TS):Prop:=
 ∀(pins:List (Addr×Obj)) (s:Shared) (σ:St) (H:Hp) (D:Ends),Inv X pins σ H s->t D σ H->wpAny (model X.prog X.w) X.A (execs st X.env) (SP X pins D) X.xe s
theorem cP{α:Type}{t:Sem α}{Q Q':α->Shared->Prop}{M:Model}{A:Around}{E:Value->Shared->Prop}{s:Shared}(h:wpAny M A t Q E s)(hQ:∀a s,Q a s->Q' a s):wpAny M A t Q' E s:=G7 h hQ λ _ _ x=>x
section
variable {X:Cx}
def RG(i:Nat):TE:=λ σ H Q=>∃v,σ[i]?=some (some v)/\Q v H
def tC(v:V):TE:=λ _ H Q=>Q v H
theorem Kl{i:Nat}{x:Str}{pos:Pos}(hN:X.N[i]?=some x)(hv:Rp X.env.scope x)(hd:(x==("__debug__":Str))=false:=by decide)(hcd:(x==("__classdict__":Str))=false:=by decide):PE X (.Name x pos) (RG i):=by
 intro pins s σ H Q I h
 obtain⟨v,e,h⟩:=h
 obtain⟨m,hn,hl⟩:=I.loc
 obtain⟨u,r,l⟩:=hl i x v hN e hv
 have fin:EP X pins σ Q u s:=⟨v,H,I,r,h⟩
 rcases l with⟨hk,hm⟩|⟨hk,c,hc,H_⟩
 ·exact wpAny_Name (wpAny_loadName_local I.ok.kind hk hn hm fin) hd
 ·rcases hk with hk|hk
  ·exact wpAny_Name (wpAny_loadName_cell I.ok.kind hk hc H_ fin) hd
  ·exact wpAny_Name (wpAny_loadName_free I.ok.kind hk hc H_ fin hcd) hd
theorem vi{i j pos}:PE X (.Constant (.int i) j pos) (tC (.int i)):=λ _ _ _ H _ I h=>wpAny_Constant_int ⟨.int i,H,I.tok _,⟨_,rfl⟩,h⟩
theorem Ob{b j pos}:PE X (.Constant (.bool b) j pos) (tC (.bl b)):=λ _ _ _ H _ I h=>Constant_bool ⟨.bl b,H,I,rfl,h⟩
theorem Kp{j pos}:PE X (.Constant .none j pos) (tC .bj):=λ _ _ _ H _ I h=>Constant_none ⟨.bj,H,I,rfl,h⟩
theorem Kn{x j pos}:PE X (.Constant (.str x) j pos) (tC (.str x)):=λ _ _ _ H _ I h=>Calls.Constant_str ⟨.str x,H,I.tok _,⟨_,rfl⟩,h⟩
def Gl(X:Cx)(x:Str):Prop:=X.env.kindOf x=some .globalImplicit
theorem pX{E:Value->Shared->Prop}{pins:List (Addr×Obj)}{s:Shared}{σ:St}{H:Hp}{x:Str}{u:Value}{pos:Pos}{Q:Value->Shared->Prop}(I:Inv X pins σ H s)(hg:Gl X x)(hm:X.mg x=some u)(h:Q u s)
  (hd:(x==("__debug__":Str))=false:=by decide):wpAny (model X.prog X.w) X.A (eval (.Name x pos) X.env) Q E s:=
 Calls.Name_function_global I.ok.kind hg (Calls.loadGlobal_global (by rw[I.ok.glob];exact I.mod.glob.keeps I.bk) hm h) hd
theorem eZ{E:Value->Shared->Prop}{pins:List (Addr×Obj)}{s:Shared}{σ:St}{H:Hp}{x:Str}{u:Value}{pos:Pos}{Q:Value->Shared->Prop}(I:Inv X pins σ H s)(hg:Gl X x)(hm:X.mg x=none)(hv:bootBuiltins x=some u)(h:Q u s)
  (hn:x≠"__name__":=by decide) (hd:(x==("__debug__":Str))=false:=by decide):wpAny (model X.prog X.w) X.A (eval (.Name x pos) X.env) Q E s:=by
 obtain⟨mb,h1,h2⟩:=I.mod.blt
 exact Calls.Name_function_global I.ok.kind hg (Calls.loadGlobal_builtin (by rw[I.ok.glob];exact I.mod.glob.keeps I.bk) hm (by rw[I.ok.blt];exact h1.keeps I.bk) ((h2 x hn).trans hv) h) hd
theorem Fu{x:Str}{v:V}{u:Value}{pos:Pos}(hg:Gl X x)(hm:X.mg x=some u)(r:RelV v u)(hd:(x==("__debug__":Str))=false:=by decide):PE X (.Name x pos) (tC v):=
 λ _ _ _ H _ I h=>pX I hg hm ⟨v,H,I,r,h⟩ hd
theorem Fx{x:Str}{v:V}{u:Value}{pos:Pos}(hg:Gl X x)(hm:X.mg x=none)(hv:bootBuiltins x=some u)(r:RelV v u)(hn:x≠"__name__":=by decide)(hd:(x==("__debug__":Str))=false:=by decide):PE X (.Name x pos) (tC v):=
 λ _ _ _ H _ I h=>eZ I hg hm hv ⟨v,H,I,r,h⟩ hn hd
variable {a b:Expr}{ta tb:TE}{pos:Pos}
def tB(t:TE):TT:=λ σ H Q=>t σ H λ x H1=>∃c,x=.bl c/\Q c H1
theorem Ka{e:Expr}{t:TE}(h:PE X e t)(he:∀whole,isTrue e X.env whole=(do let v <- whole;standAt e.pos;holding [v] (truthy v)):=by intro _;rfl):PT X e (tB t):=by
 intro pins s σ H Q I hw
 refine isTrue_plain (cP (h pins s σ H _ I hw) λ v s1 ⟨x,H1,I1,r1,q1⟩=>?_) (he _)
 obtain⟨d,rfl,q⟩:=q1
 cases r1
 exact u9 ⟨H1,I1,q⟩
variable {tA Qc:TT}{rest:List Expr}
def RP(t u:TT):TT:=λ σ H Q=>t σ H λ c H1=>if c=true then u σ H1 Q else Q false H1
def Ve(t u:TT):TT:=λ σ H Q=>t σ H λ c H1=>if c=true then Q true H1 else u σ H1 Q
def RK(t:TT):TT:=λ σ H Q=>t σ H λ c H1=>Q (!c) H1
theorem Ff(ha:PT X a tA):PW X (.BoolOp .And [a] pos) tA:=by
 intro wh pins s σ H Q I h
 refine isTrue_and (cP (ha pins s σ H Q I h) λ c s1 e=>?_)
 cases c with
 |true=>exact isTrue_and_nil e
 |false=>exact e
theorem J_(ha:PT X a tA):PW X (.BoolOp .Or [a] pos) tA:=by
 intro wh pins s σ H Q I h
 refine isTrue_or (cP (ha pins s σ H Q I h) λ c s1 e=>?_)
 cases c with
 |false=>exact isTrue_or_nil e
 |true=>exact e
theorem J'(ha:PT X a tA)(hb:PW X (.BoolOp .And (b::rest) pos) Qc):PW X (.BoolOp .And (a::b::rest) pos) (RP tA Qc):=by
 intro wh pins s σ H Q I h
 refine isTrue_and (cP (ha pins s σ H _ I h) λ c s1 ⟨H1,I1,q1⟩=>?_)
 cases c with
 |true=>exact hb wh pins s1 σ H1 Q I1 q1
 |false=>exact⟨H1,I1,q1⟩
theorem N8(ha:PT X a tA)(hb:PW X (.BoolOp .Or (b::rest) pos) Qc):PW X (.BoolOp .Or (a::b::rest) pos) (Ve tA Qc):=by
 intro wh pins s σ H Q I h
 refine isTrue_or (cP (ha pins s σ H _ I h) λ c s1 ⟨H1,I1,q1⟩=>?_)
 cases c with
 |true=>exact⟨H1,I1,q1⟩
 |false=>exact hb wh pins s1 σ H1 Q I1 q1
theorem Kb(ha:PT X a tA):PT X (.UnaryOp .Not a pos) (RK tA):=by
 intro pins s σ H Q I h
 exact isTrue_not (ha pins s σ H (λ c H1=>Q (!c) H1) I h)
def Ni(ta tb:TE):TE:=λ σ H Q=>ta σ H λ x H1=>∃c,x=.bl c/\if c=true then tb σ H1 Q else Q (.bl false) H1
theorem Ko{op}{t:TE}(h:PE X a t):PE X (.BoolOp op [a] pos) t:=λ pins s σ H Q I hw=>BoolOp_one (h pins s σ H Q I hw)
theorem Kt(ha:PE X a ta)(hb:PE X (.BoolOp .And (b::rest) pos) tb):PE X (.BoolOp .And (a::b::rest) pos) (Ni ta tb):=by
 intro pins s σ H Q I h
 refine BoolOp_and (cP (ha pins s σ H _ I h) λ v s1 ⟨x,H1,I1,r1,q1⟩=>?_)
 obtain⟨c,rfl,q1⟩:=q1
 cases r1
 refine u9 ?_
 cases c with
 |true=>exact hb pins s1 σ H1 Q I1 q1
 |false=>exact⟨.bl false,H1,I1,rfl,q1⟩
end
def du(K:PySem.W.Frag)(H:Hp)(a:Addr)(xs:List V):Prop:=
 Rd H a (.lst xs)\/
  ∃(o:Obj) (au:Array Value) (n:Nat),K.lookup a=some o/\o.cls=.type "list"/\o.dict=none/\o.data=.seq au n/\au.size<=sizeLine/\Vals xs au.toList
def fz(K:PySem.W.Frag)(H:Hp)(a:Addr)(xs:List V):Prop:=
 Rd H a (.tup xs)\/
  ∃(o:Obj) (au:Array Value) (n:Nat),K.lookup a=some o/\o.cls=.type "tuple"/\o.data=.seq au n/\au.size<=sizeLine/\Vals xs au.toList
def T4:Value->Option V
 | .none=>some .bj
 | .bool b=>some (.bl b)
 | .int i _=>some (.int i)
 | .str x _=>some (.str x)
 | .bytes b _=>some (.Dk b)
 | .float b _=>some (.MR b)
 | .ref a=>some (.ref a)
 | .type n=>some (.ty n)
 |_=>none
theorem RelV.abs {x:V}{u:Value}(r:RelV x u):T4 u=some x:=by
 cases x with
 |bj=>cases r;rfl
 |bl _=>cases r;rfl
 |int _=>obtain⟨t,rfl⟩:=r;rfl
 |str _=>obtain⟨t,rfl⟩:=r;rfl
 |Dk _=>obtain⟨t,rfl⟩:=r;rfl
 |MR _=>obtain⟨t,rfl⟩:=r;rfl
 |ref _=>cases r;rfl
 |ty _=>cases r;rfl
theorem RelV.inj {x y:V}{u:Value}(r:RelV x u)(q:RelV y u):x=y:=A9 (r.abs.symm.trans q.abs)
theorem Vals.inj:∀{xs ys:List V} {us:List Value},Vals xs us->Vals ys us->xs=ys
 |_,_,_,.nil,.nil=>rfl
 |_,_,_,.cons r t,.cons r' t'=>by rw[r.inj r',Vals.inj t t']
section
variable {X:Cx}{pins:List (Addr×Obj)}{σ:St}{H:Hp}{s:Shared}{a:Addr}{xs ys:List V}
theorem du.of {K:PySem.W.Frag}(h:H a=some (.lst xs)):du K H a xs:=.inl (.inl h)
theorem fz.of {K:PySem.W.Frag}(h:H a=some (.tup xs)):fz K H a xs:=.inl (.inl h)
theorem Inv.list (I:Inv X pins σ H s)(h:du X.K H a xs):∃au:List Value,Vals xs au/\PlainL s.heap a au.toArray/\xs.length<=sizeLine:=by
 rcases h with h|⟨o,au,n,hk,hc,hd,hs,hz,r⟩
 ·obtain⟨z,au,n,r,e⟩:=h.ok I.bN
  exact⟨au,r,⟨_,n,e,rfl,rfl,rfl⟩,z⟩
 ·refine⟨au.toList,r,⟨o,n,I.nO a o hk,hc,hd,by simpa using hs⟩,?_⟩
  have e:=r.length
  simp only[n9]at e
  omega
theorem Inv.tuple (I:Inv X pins σ H s)(h:fz X.K H a xs):∃au:List Value,Vals xs au/\IsTup s.heap a au.toArray/\xs.length<=sizeLine:=by
 rcases h with h|⟨o,au,n,hk,hc,hs,hz,r⟩
 ·obtain⟨z,au,r,p⟩:=h.ok I.bN
  exact⟨au,r,p,z⟩
 ·refine⟨au.toList,r,⟨o,I.nO a o hk,hc,n,by simpa using hs⟩,?_⟩
  have e:=r.length
  simp only[n9]at e
  omega
theorem Inv.sL (I:Inv X pins σ H s)(h:du X.K H a xs)(h':du X.K H a ys):xs=ys:=by
 obtain⟨au,r,⟨o,n,e,_,_,d⟩,_⟩:=I.list h
 obtain⟨its',r',⟨o',n',e',_,_,d'⟩,_⟩:=I.list h'
 rw[e]at e';cases e'
 rw[d]at d'
 injection d' with d1 _
 have:au=its':=by simpa using J1 Array.toList d1
 subst this
 exact r.inj r'
theorem Inv.oo (I:Inv X pins σ H s)(h:fz X.K H a xs)(h':fz X.K H a ys):xs=ys:=by
 obtain⟨au,r,⟨o,e,_,n,d⟩,_⟩:=I.tuple h
 obtain⟨its',r',⟨o',e',_,n',d'⟩,_⟩:=I.tuple h'
 rw[e]at e';cases e'
 rw[d]at d'
 injection d' with d1 _
 have:au=its':=by simpa using J1 Array.toList d1
 subst this
 exact r.inj r'
end
abbrev Cx.nI (X:Cx)(E:Value->Shared->Prop):Cx:={X with xe:=E}
abbrev Cx.MB (X:Cx):Cx:=X.nI λ _ _=>False
theorem Cx.Ok.nI {X:Cx}(ok:X.Ok)(E:Value->Shared->Prop):(X.nI E).Ok:=
 ⟨ok.mod,ok.kind,ok.glob,ok.blt,ok.above,ok.inj,ok.has,ok.PD,ok.hd,ok.frames,ok.Qv,ok.UU,ok.bs,ok.DC,ok.yP,ok.GN,ok.kZ,ok.LP⟩
theorem Cx.Ok.gh {X:Cx}{E:Value->Shared->Prop}(ok:(X.nI E).Ok):X.Ok:=
 ⟨ok.mod,ok.kind,ok.glob,ok.blt,ok.above,ok.inj,ok.has,ok.PD,ok.hd,ok.frames,ok.Qv,ok.UU,ok.bs,ok.DC,ok.yP,ok.GN,ok.kZ,ok.LP⟩
section
variable {X:Cx}{pins:List (Addr×Obj)}{σ:St}{H:Hp}{s:Shared}{E:Value->Shared->Prop}
theorem Inv.nI (I:Inv X pins σ H s)(E:Value->Shared->Prop):Inv (X.nI E) pins σ H s:=⟨I.ok.nI E,I.os,I.bare,I.base,I.loc,I.cell,I.free,I.fU,I.pin,I.bN,I.len⟩
theorem Inv.gh (I:Inv (X.nI E) pins σ H s):Inv X pins σ H s:=⟨I.ok.gh,I.os,I.bare,I.base,I.loc,I.cell,I.free,I.fU,I.pin,I.bN,I.len⟩
theorem SP.gh {D:Ends}{f:Flow}{s':Shared}(h:SP (X.nI E) pins D f s'):SP X pins D f s':=by
 cases f with
 |next=>obtain⟨σ',H',I,q⟩:=h;exact⟨σ',H',I.gh,q⟩
 |brk=>obtain⟨σ',H',I,q⟩:=h;exact⟨σ',H',I.gh,q⟩
 |cont=>obtain⟨σ',H',I,q⟩:=h;exact⟨σ',H',I.gh,q⟩
 |ret u=>obtain⟨v,σ',H',I,r,q⟩:=h;exact⟨v,σ',H',I.gh,r,q⟩
theorem uD.MB {st:List Stmt}{t:TS}(h:uD X.MB st t):uD X st t:=λ pins s σ H D I hw=>
 G7 (h pins s σ H D (I.nI _) hw) (λ _ _ q=>q.gh) λ _ _ z=>False.elim z
end
section
variable {X:Cx}{st:Stmt}{rest:List Stmt}{t u:TS}{e:Expr}{te:TE}{pos:Pos}
def Ng:TS:=λ D σ H=>D.nx σ H
def RI(t u:TS):TS:=λ D σ H=>t {D with nx:=u D} σ H
theorem Fj:uD X [] Ng:=λ _ _ σ H _ I h=>wpAny_execs_nil ⟨σ,H,I,h⟩
theorem Bd(h1:PS X st t)(h2:uD X rest u):uD X (st::rest) (RI t u):=by
 intro pins s σ H D I h
 refine wpAny_execs_cons (cP (h1 pins s σ H {D with nx:=u D} I h) λ f s1 q=>?_)
 cases f with
 |next=>
  obtain⟨σ',H',I',q⟩:=q
  exact h2 pins s1 σ' H' D I' q
 |ret v=>exact q
 |brk=>exact q
 |cont=>exact q
theorem Fi(h1:PS X st t):uD X [st] t:=by
 intro pins s σ H D I h
 refine wpAny_execs_cons (cP (h1 pins s σ H D I h) λ f s1 q=>?_)
 cases f with
 |next=>exact wpAny_execs_nil q
 |ret v=>exact q
 |brk=>exact q
 |cont=>exact q
theorem Inv.quiet {pins:List (Addr×Obj)}{σ:St}{H:Hp}{s:Shared}(I:Inv X pins σ H s):interactive X.env=false:=by simp[interactive,I.ok.kind]
def Nh(te:TE):TS:=λ D σ H=>te σ H λ _ H1=>D.nx σ H1
theorem Fm(he:PE X e te)(hs:swapsWith e none pos.line X.env=pure false:=by rfl):PS X (.Expr e pos) (Nh te):=by
 intro pins s σ H D I h
 exact wpAny_Expr_any (cP (he pins s σ H _ I h) λ v s1 ⟨x,H1,I1,r1,q1⟩=>⟨σ,H1,I1,q1⟩) I.quiet hs
def RJ(te:TE):TS:=λ D σ H=>te σ H D.rt
theorem Kd(he:PE X e te):PS X (.Return (some e) pos) (RJ te):=by
 intro pins s σ H D I h
 exact wpAny_Return_some (cP (he pins s σ H _ I h) λ v s1 ⟨x,H1,I1,r1,q1⟩=>⟨x,σ,H1,I1,r1,q1⟩)
def RM(c:TT)(t u:TS):TS:=λ D σ H=>c σ H λ b H1=>if b=true then t D σ H1 else u D σ H1
theorem N9{c:Expr}{a b:List Stmt}{tc:TT}(hc:PT X c tc)(ha:uD X a t)(hb:uD X b u):PS X (.If c a b pos) (RM tc t u):=by
 intro pins s σ H D I h
 refine wpAny_If (cP (hc pins s σ H _ I h) λ d s1 ⟨H1,I1,q1⟩=>?_)
 cases d with
 |true=>exact ha pins s1 σ H1 D I1 q1
 |false=>exact hb pins s1 σ H1 D I1 q1
end
abbrev TG:=V->St->Hp->(St->Hp->Prop)->Prop
abbrev xY:=List V->St->Hp->(St->Hp->Prop)->Prop
def PG(X:Cx)(target:Expr)(t:TG):Prop:=
 ∀(pins:List (Addr×Obj)) (s:Shared) (σ:St) (H:Hp) (v:V) (u:Value) (Q:St->Hp->Prop),Inv X pins σ H s->RelV v u->t v σ H Q->
  wpAny (model X.prog X.w) X.A (assign target X.env u) (λ _ s'=>∃σ' H',Inv X pins σ' H' s'/\Q σ' H') X.xe s
def Ms(X:Cx)(ts:List Expr)(t:xY):Prop:=
 ∀(pins:List (Addr×Obj)) (s:Shared) (σ:St) (H:Hp) (vs:List V) (us:List Value) (Q:St->Hp->Prop),Inv X pins σ H s->Vals vs us->t vs σ H Q->
  wpAny (model X.prog X.w) X.A (assignInOrder ((assignEach ts X.env).map (·.2)) us) (λ _ s'=>∃σ' H',Inv X pins σ' H' s'/\Q σ' H') X.xe s
abbrev zA:=V->V->V->Hp->(Hp->Prop)->Prop
def qJ(X:Cx)(t:zA):Prop:=
 ∀(pins:List (Addr×Obj)) (s:Shared) (σ:St) (H:Hp) (o i v:V) (ov iv u:Value) (Q:Hp->Prop),Inv X pins σ H s->RelV o ov->RelV i iv->RelV v u->t o i v H Q->
  wpAny (model X.prog X.w) X.A (setItem ov iv u) (λ _ s'=>∃H',Inv X pins σ H' s'/\Q H') X.xe s
section
variable {X:Cx}{pos:Pos}
def eD(i:Nat):TG:=λ v σ H Q=>Q (σ.set i (some v)) H
theorem aH{i:Nat}{x:Str}(hN:X.N.Nodup)(hi:X.N[i]?=some x)(hx:Loc X.env.scope x)(hf:X.fn x=true\/X.env.scope.names.lookup x=some .local:=by first|exact .inl rfl|exact .inr rfl|assumption):PG X (.Name x pos) (eD i):=by
 intro pins s σ H v u Q I r h
 exact wpAny_assign_Name (rp I hN hi hx r (λ s' I'=>⟨_,H,I',h⟩) hf)
def zh:xY:=λ vs σ H Q=>vs=[]/\Q σ H
def jh(t:TG)(u:xY):xY:=λ vs σ H Q=>∃v r,vs=v::r/\t v σ H λ σ' H'=>u r σ' H' Q
theorem fM:Ms X [] zh:=by
 intro pins s σ H vs us Q I r h
 obtain⟨e,h⟩:=h
 subst e
 cases r
 exact assignInOrder_nil ⟨σ,H,I,h⟩
theorem bX{e:Expr}{es:List Expr}{t:TG}{u:xY}(h1:PG X e t)(h2:Ms X es u)
  (hs:(assignEach (e::es) X.env).map (·.2)=assign e X.env::(assignEach es X.env).map (·.2):=by rfl):Ms X (e::es) (jh t u):=by
 intro pins s σ H vs us Q I r h
 obtain⟨v,vr,e1,h⟩:=h
 subst e1
 cases r with
 |cons r rr=>
  rw[hs]
  refine assignInOrder_cons (cP (h1 pins s σ H _ _ _ I r h) λ _ s1 ⟨σ1,H1,I1,q1⟩=>?_)
  exact h2 pins s1 σ1 H1 _ _ Q I1 rr q1
def CI(K:PySem.W.Frag)(n:Nat)(t:xY):TG:=λ v σ H Q=>∃a xs,v=.ref a/\fz K H a xs/\xs.length=n/\t xs σ H Q
theorem il{es:List Expr}{k:Nat}{t:xY}{n:Nat}(hc:X.calm=true)(h:Ms X es t)
  (hn:(assignEach es X.env).length=n:=by rfl) (hst:(assignEach es X.env).findIdx? (·.1)=none:=by rfl):PG X (.Tuple es k pos) (CI X.K n t):=by
 intro pins s σ H v u Q I r hw
 obtain⟨a,xs,e1,hq,hl,hw⟩:=hw
 subst e1
 cases r
 obtain⟨au,rv,ht,hz⟩:=I.tuple hq
 refine assign_Tuple_tuple (I.ok.hd hc) ht (by simp[hn,<- hl,rv.length]) hst λ h' hx=>?_
 have I1:Inv X pins σ H {s with heap:=h'}:=I.kept (t':=s.toks) λ b o e=>hx b o (D1 (D3 e)) e
 exact h pins _ σ H xs _ Q I1 (by simpa using rv) hw
def TM(to ti:TE)(t:zA):TG:=λ v σ H Q=>to σ H λ o H1=>ti σ H1 λ i H2=>t o i v H2 λ H3=>Q σ H3
theorem Ki{o i:Expr}{to ti:TE}{t:zA}(ho:PE X o to)(hi:PE X i ti)(hs:qJ X t)
  (ha:∀v,assign (.Subscript o i pos) X.env v=(do
   let ov <- holding [v] (eval o X.env)
   let iv <- holding [v,ov] (eval i X.env)
   standAt pos
   holding [v,ov,iv] (setItem ov iv v)
   release [v,ov,iv] []):=by intro _;rfl):PG X (.Subscript o i pos) (TM to ti t):=by
 intro pins s σ H v u Q I r h
 rw[ha]
 refine E9 (C2 (cP (ho pins s σ H _ I h) λ ov s1 ⟨x,H1,I1,r1,q1⟩=>?_))
 refine E9 (C2 (cP (hi pins s1 σ H1 _ I1 q1) λ iv s2 ⟨y,H2,I2,r2,q2⟩=>?_))
 refine E9 (wpAny_standAt (E9 (C2 (cP (hs pins s2 σ H2 x y v ov iv u _ I2 r1 r2 r q2) λ _ s3 ⟨H3,I3,q3⟩=>?_))))
 exact wpAny_release ⟨σ,H3,I3,q3⟩
def DS(te:TE)(g:TG):TS:=λ D σ H=>te σ H λ x H1=>g x σ H1 D.nx
theorem Kf{tg e:Expr}{te:TE}{g:TG}(he:PE X e te)(hg:PG X tg g)(hs:swapsWithSole [tg] e pos.line X.env=pure false:=by rfl)(hw:swappedStores [tg] e X.env=pure none:=by rfl)
  (h1:(assignEach [tg] X.env).map (·.2)=[assign tg X.env]:=by rfl):PS X (.Assign [tg] e pos) (DS te g):=by
 intro pins s σ H D I h
 refine wpAny_Assign_stores (cP (he pins s σ H _ I h) λ v s1 ⟨x,H1,I1,r1,q1⟩=>?_) hs hw
 rw[h1]
 exact cP (hg pins s1 σ H1 x v _ I1 r1 q1) λ _ s2 q=>q
theorem Kc{i:Nat}{x:Str}{e:Expr}{te:TE}{pos':Pos}(hN:X.N.Nodup)(hi:X.N[i]?=some x)(hx:Loc X.env.scope x)(he:PE X e te)(hs:swapsWith e (some (.Name x pos')) pos.line X.env=pure false:=by rfl)(hf:X.fn x=true\/X.env.scope.names.lookup x=some .local:=by first|exact .inl rfl|exact .inr rfl|assumption):
  PS X (.Assign [.Name x pos'] e pos) (DS te (eD i)):=by
 intro pins s σ H D I h
 refine wpAny_Assign_Name (cP (he pins s σ H _ I h) λ v s1 ⟨y,H1,I1,r1,q1⟩=>?_) hs
 exact rp I1 hN hi hx r1 (λ s2 I2=>⟨_,H1,I2,q1⟩) hf
end
section
variable {X:Cx}{pos:Pos}
def IL(c:TT)(tb:TS):TS:=λ D σ H=>∃W:Nat->St->Hp->Prop,(∃m,W m σ H)/\∀m σ H,W m σ H->
 c σ H λ b H1=>if b=true then ∃N:St->Hp->Prop,(∀σ' H',N σ' H'->∃m',m' < m/\W m' σ' H')/\tb {D with nx:=N,ct:=N,bk:=D.nx} σ H1 else D.nx σ H1
theorem Bf{c:Expr}{body:List Stmt}{tc:TT}{tb:TS}(hp:PassesOwn (model X.prog X.w) X.A X.env X.xe)(hc:PT X c tc)(hb:uD X body tb):PS X (.While c body [] pos) (IL tc tb):=by
 intro pins s σ H D I h
 obtain⟨W,⟨m0,w0⟩,turn⟩:=h
 refine wpAny_While (codeAny_whileLoop (λ n s'=>∃σ' H',Inv X pins σ' H' s'/\W n σ' H') ?_ m0 ⟨σ,H,I,w0⟩)
 rintro n s1 ⟨σ1,H1,I1,w1⟩
 refine B1 hp (cP (hc pins s1 σ1 H1 _ I1 (turn n σ1 H1 w1)) λ b s2 ⟨H2,I2,q2⟩=>?_)
 cases b with
 |true=>
  obtain⟨N,hN,q2⟩:=q2
  rw[J4 rfl]
  refine B1 hp (cP (hb pins s2 σ1 H2 _ I2 q2) λ f s3 q3=>?_)
  cases f with
  |next=>
   obtain⟨σ3,H3,I3,n3⟩:=q3
   obtain⟨m',hm,w3⟩:=hN σ3 H3 n3
   exact⟨m',hm,σ3,H3,I3,w3⟩
  |cont=>
   obtain⟨σ3,H3,I3,n3⟩:=q3
   obtain⟨m',hm,w3⟩:=hN σ3 H3 n3
   exact⟨m',hm,σ3,H3,I3,w3⟩
  |brk=>exact q3
  |ret v=>exact q3
 |false=>
  rw[J5 o9]
  exact wpAny_execs_nil ⟨σ1,H2,I2,q2⟩
end
structure It where
 go:Nat->Hp->Prop
 DG:Nat->Hp->V->Hp->Prop
 stop:Nat->Hp->Prop
def fS(X:Cx)(pins:List (Addr×Obj))(H:Hp)(b:Addr):Prop:=
 H b=none/\b≠X.env.locals/\b∉X.fs/\(b∈X.ex\/X.s₀.heap.objs.size<=b)/\(∀x c,X.env.cells.lookup x=some c->c≠b)/\∀p∈X.pn++pins,p.1≠b
theorem Inv.iu {X:Cx}{pins:List (Addr×Obj)}{σ:St}{H H':Hp}{s:Shared}{b:Addr}(I:Inv X pins σ H s)(hb:s.heap.objs.size<=b)(hn:H' b=none):fS X pins H' b:=by
 refine⟨hn,Nat.ne_of_gt (q8 I.lt hb),I.Sy hb,.inr (D9 I.sz hb),λ x c e z=>?_,λ p hp z=>?_⟩
 ·obtain⟨v,q⟩:=I.cell x c e
  exact absurd (q8 q.lt (by rw[z];exact hb)) (C5 _)
 ·exact absurd (q8 (D3 (I.pin p hp).1) (by rw[z];exact hb)) (C5 _)
structure Turn(P:Program)(w:World)(K:PySem.W.Frag)(tg:Expr)(J:It)(fp:List Addr)(it:Addr)(tn:Nat->Heap->Prop):Prop where
 mem:it∈fp
 obj:∀i h,tn i h->∀b∈fp,∃o,h.get? b=some o/\∀v,o.data≠.cell v
 keep:∀i h h',tn i h->(∀b∈fp,∀o,h.get? b=some o->h'.get? b=some o)->tn i h'
 item:∀(X:Cx),X.prog=P->X.w=w->X.K=K->X.calm=true->∀(i:Nat) (pins:List (Addr×Obj)) (s:Shared) (σ:St) (H:Hp) (E:Value->Shared->Prop),Inv X pins σ H s->(∀b∈fp,fS X pins H b)->tn i s.heap->J.go i H->
  wpAny (model P w) X.A (pyNext (.ref it)) (λ r s1=>∃u,r=some u/\
   wpAny (model P w) X.A (letOwnedTupleGo tg (.ref it) u) (λ _ s2=>∃x H',Inv X pins σ H' s2/\RelV x u/\J.DG i H x H'/\tn (i+1) s2.heap/\∀b∈fp,H' b=none) E s1) E s
 done:∀(X:Cx),X.prog=P->X.w=w->X.K=K->X.calm=true->∀(i:Nat) (pins:List (Addr×Obj)) (s:Shared) (σ:St) (H:Hp) (E:Value->Shared->Prop),Inv X pins σ H s->(∀b∈fp,fS X pins H b)->tn i s.heap->J.stop i H->
  wpAny (model P w) X.A (pyNext (.ref it)) (λ r s1=>r=none/\Inv X pins σ H s1) E s
 self:∀(A:Around) (i:Nat) (s:Shared) (Q:Value->Shared->Prop) (E:Value->Shared->Prop),tn i s.heap->Q (.ref it) s->wpAny (model P w) A (pyIter (.ref it)) Q E s
abbrev TI:=St->Hp->(It->Hp->Prop)->Prop
def U3(X:Cx)(pins:List (Addr×Obj))(σ:St)(tg:Expr)(R:It->Hp->Prop)(QZ:Value)(s2:Shared):Prop:=
 ∃(it:Addr) (fp:List Addr) (tn:Nat->Heap->Prop) (J:It) (H':Hp),QZ=.ref it/\Inv X pins σ H' s2/\Turn X.prog X.w X.K tg J fp it tn/\tn 0 s2.heap/\(∀b∈fp,fS X pins H' b)/\R J H'
def PI(X:Cx)(tg iter:Expr)(wi:TI):Prop:=
 ∀(pins:List (Addr×Obj)) (s:Shared) (σ:St) (H:Hp) (R:It->Hp->Prop),Inv X pins σ H s->wi σ H R->
  wpAny (model X.prog X.w) X.A (eval iter X.env) (λ v s1=>wpAny (model X.prog X.w) X.A (pyIter v) (U3 X pins σ tg R) X.xe s1) X.xe s
theorem xy{M:Model}{A:Around}{E:Value->Shared->Prop}{s:Shared}{tg:Expr}{it:Addr}{u:Value}{o:Obj}{n:String}{vs:Array Value}{Q:Unit->Shared->Prop}(ho:s.heap.get? it=some o)(hc:o.cls=.type n)(hd:o.data=.fields vs)
  (hn:["enumerate","zip","dict_itemiterator","dict_reverseitemiterator","odict_iterator","itertools.zip_longest","itertools.pairwise"].contains n=false) (hQ:Q () s):wpAny M A (letOwnedTupleGo tg (.ref it) u) Q E s:=by
 unfold letOwnedTupleGo
 cases tg <;> first
  |exact G0 hQ
  |(cases u <;> first
    |exact G0 hQ
    |(refine E9 (wpAny_load ho ?_)
      rw[hc,hd]
      show wpAny M A (if(["enumerate","zip","dict_itemiterator","dict_reverseitemiterator","odict_iterator","itertools.zip_longest","itertools.pairwise"].contains n&&vs[0]?==some (rawInt _))=true then _ else _) Q E s
      rw[J5 (by intro h;rw[hn,Bool.false_and]at h;cases h)]
      exact G0 hQ))
def Rx(K:PySem.W.Frag)(a:Addr):It:=
 ⟨λ i H=>∃xs x,du K H a xs/\xs[i]?=some x,λ i H x H'=>H'=H/\∀xs,du K H a xs->xs[i]?=some x,λ i H=>∃xs,du K H a xs/\xs.length<=i⟩
def T_(K:PySem.W.Frag)(a:Addr):It:=
 ⟨λ i H=>∃xs x,fz K H a xs/\xs[i]?=some x,λ i H x H'=>H'=H/\∀xs,fz K H a xs->xs[i]?=some x,λ i H=>∃xs,fz K H a xs/\xs.length<=i⟩
def Rw(lo:Int)(n:Nat):It:=⟨λ i _=>i < n,λ i H x H'=>H'=H/\x=.int (lo+i),λ i _=>n<=i⟩
theorem ym{P:Program}{w:World}{K:PySem.W.Frag}{tg:Expr}(a it:Addr):Turn P w K tg (Rx K a) [it] it (λ i h=>h.IsListIter it a i) where
 mem:=by simp
 obj:=λ i h st b hb=>by
  have e:b=it:=by simpa using hb
  subst e
  obtain⟨o,e,c,d⟩:=st
  exact⟨o,e,λ v z=>by rw[d]at z;cases z⟩
 keep:=λ i h h' st k=>st.at λ o e=>k it (by simp) o e
 item:=by
  intro X hP hw hK hc i pins s σ H E I hf st hg
  subst hP hw hK
  obtain⟨xs,x,hq,hx⟩:=hg
  obtain⟨au,rv,p,hz⟩:=I.list hq
  obtain⟨u,hu,ru⟩:=rv.get hx
  obtain⟨f0,f1,f2,f3,f4,f5⟩:=hf it (by simp)
  refine wpAny_pyNext_list_item st p.isList (x:=u) (by simpa using hu) λ h' aG sb=>?_
  have I1:Inv X pins σ H {s with heap:=h'}:=I.turned (t':=s.toks) (λ b o hb e=>(sb.2 b hb).trans e) f0 f1 f3 f4 f5
  obtain⟨o,e,c,d⟩:=id aG
  exact⟨u,rfl,xy (s:={s with heap:=h'}) e c d (by decide) ⟨x,H,I1,ru,⟨rfl,λ ys hy=>by rw[I.sL hy hq];exact hx⟩,aG,λ b hb=>(hf b hb).1⟩⟩
 done:=by
  intro X hP hw hK hc i pins s σ H E I hf st hg
  subst hP hw hK
  obtain⟨xs,hq,hx⟩:=hg
  obtain⟨au,rv,p,hz⟩:=I.list hq
  obtain⟨f0,f1,f2,f3,f4,f5⟩:=hf it (by simp)
  have hl:=rv.length
  exact wpAny_pyNext_list_end (I.ok.hd hc) st p.isList (by simp;omega) λ h' eb=>⟨rfl,I.turned (t':=s.toks) (λ b o hb e=>eb b o hb e) f0 f1 f3 f4 f5⟩
 self:=λ _ _ _ _ _ st h=>wpAny_pyIter_listiter st h
theorem uL{P:Program}{w:World}{K:PySem.W.Frag}{tg:Expr}(a it:Addr):Turn P w K tg (T_ K a) [it] it (λ i h=>h.IsTupleIter it a i) where
 mem:=by simp
 obj:=λ i h st b hb=>by
  have e:b=it:=by simpa using hb
  subst e
  obtain⟨o,e,c,d⟩:=st
  exact⟨o,e,λ v z=>by rw[d]at z;cases z⟩
 keep:=λ i h h' st k=>st.at λ o e=>k it (by simp) o e
 item:=by
  intro X hP hw hK hc i pins s σ H E I hf st hg
  subst hP hw hK
  obtain⟨xs,x,hq,hx⟩:=hg
  obtain⟨au,rv,p,hz⟩:=I.tuple hq
  obtain⟨u,hu,ru⟩:=rv.get hx
  obtain⟨f0,f1,f2,f3,f4,f5⟩:=hf it (by simp)
  refine wpAny_pyNext_tuple_item st (show s.heap.IsTuple a au.toArray from p) (x:=u) (by simpa using hu) λ h' aG sb=>?_
  have I1:Inv X pins σ H {s with heap:=h'}:=I.turned (t':=s.toks) (λ b o hb e=>(sb.2 b hb).trans e) f0 f1 f3 f4 f5
  obtain⟨o,e,c,d⟩:=id aG
  exact⟨u,rfl,xy (s:={s with heap:=h'}) e c d (by decide) ⟨x,H,I1,ru,⟨rfl,λ ys hy=>by rw[I.oo hy hq];exact hx⟩,aG,λ b hb=>(hf b hb).1⟩⟩
 done:=by
  intro X hP hw hK hc i pins s σ H E I hf st hg
  subst hP hw hK
  obtain⟨xs,hq,hx⟩:=hg
  obtain⟨au,rv,p,hz⟩:=I.tuple hq
  obtain⟨f0,f1,f2,f3,f4,f5⟩:=hf it (by simp)
  have hl:=rv.length
  exact wpAny_pyNext_tuple_end (I.ok.hd hc) st (show s.heap.IsTuple a au.toArray from p) (by simp;omega) λ h' eb=>⟨rfl,I.turned (t':=s.toks) (λ b o hb e=>eb b o hb e) f0 f1 f3 f4 f5⟩
 self:=λ _ _ _ _ _ st h=>wpAny_pyIter_tupleiter st h
theorem uM{P:Program}{w:World}{K:PySem.W.Frag}{tg:Expr}(it:Addr)(lo:Int)(n:Nat):Turn P w K tg (Rw lo n) [it] it (λ i h=>IsRangeIter h it (lo+(i:Nat)*1) ((n:Int) - (i:Nat)) 1) where
 mem:=by simp
 obj:=λ i h st b hb=>by
  have e:b=it:=by simpa using hb
  subst e
  exact⟨_,st,λ v z=>by
   have z':Data.fields _=Data.cell v:=z
   cases z'⟩
 keep:=λ i h h' st k=>k it (by simp) _ st
 item:=by
  intro X hP hw hK hc i pins s σ H E I hf st hg
  subst hP hw hK
  obtain⟨f0,f1,f2,f3,f4,f5⟩:=hf it (by simp)
  have W:=Walks.range (prog:=X.prog) (w:=X.w) (I.ok.hd hc) it lo 1 n
  refine W.item i s _ _ hg st λ v h' tk hv aG kk=>?_
  obtain⟨t,rfl⟩:=hv
  have I1:Inv X pins σ H {s with heap:=h',toks:=tk}:=I.turned (λ b o hb e=>kk b o (by simpa using hb) e) f0 f1 f3 f4 f5
  refine⟨_,rfl,xy (s:={s with heap:=h',toks:=tk}) (n:="range_iterator") aG rfl rfl (by decide) ⟨.int (lo+i),H,I1,⟨t,?_⟩,⟨rfl,rfl⟩,aG,λ b hb=>(hf b hb).1⟩⟩
  rw[Int.mul_one]
 done:=by
  intro X hP hw hK hc i pins s σ H E I hf st hg
  subst hP hw hK
  obtain⟨f0,f1,f2,f3,f4,f5⟩:=hf it (by simp)
  exact wpAny_pyNext_range_end (I.ok.hd hc) st (by have:n<=i:=hg;omega) λ h' eb=>⟨rfl,I.turned (t':=s.toks) (λ b o hb e=>eb b o hb e) f0 f1 f3 f4 f5⟩
 self:=λ _ _ _ _ _ st h=>wpAny_pyIter_rangeiter st h
section
variable {X:Cx}{tg:Expr}
theorem AW{pins:List (Addr×Obj)}{σ:St}{H:Hp}{s:Shared}{R:It->Hp->Prop}{E:Value->Shared->Prop}{lo hi:Int}{t u v:Tok}{tk:Nat}(I:Inv X pins σ H s)(h1: -(2^62)<=lo)(h2:lo < 2^62)(h3: -(2^62)<=hi)(h4:hi < 2^62)
  (q:R (Rw lo (hi - lo).toNat) H):wpAny (model X.prog X.w) X.A (pyIter (.ref s.heap.objs.size)) (U3 X pins σ tg R) E {s with heap:=s.heap.push {cls:=.type "range",data:=.fields #[.int lo t,.int hi u,.int 1 v]},toks:=tk}:=by
 refine wpAny_pyIter_range (IsRange.new ..) (small_one h1 h2 h3 h4) ?_
 have I1:Inv X pins σ H {s with heap:=s.heap.push {cls:=.type "range",data:=.fields #[.int lo t,.int hi u,.int 1 v]},toks:=tk}:=I.kept λ b o e=>k4 _ e
 refine⟨(s.heap.push {cls:=.type "range",data:=.fields #[.int lo t,.int hi u,.int 1 v]}).objs.size,[(s.heap.push {cls:=.type "range",data:=.fields #[.int lo t,.int hi u,.int 1 v]}).objs.size],_,_,H,rfl,
  I1.kept (t':=tk) λ b o e=>k4 _ e,uM _ lo (hi - lo).toNat,?_,λ b hb=>?_,q⟩
 ·have e1:lo+((0:Nat):Int)*1=lo:=by simp
  have e2:(((hi - lo).toNat:Nat):Int) - ((0:Nat):Int)=Builtin.Range.rangeSize lo hi 1:=by rw[rangeSize_one];split <;> omega
  show IsRangeIter _ _ (lo+((0:Nat):Int)*1) ((((hi - lo).toNat:Nat):Int) - ((0:Nat):Int)) 1
  rw[e1,e2]
  exact o7 _ rfl
 ·have e:b=(s.heap.push {cls:=.type "range",data:=.fields #[.int lo t,.int hi u,.int 1 v]}).objs.size:=by simpa using hb
  subst e
  exact I1.iu (E1 _) (I1.bN.fresh (E1 _))
def OI(ta:TA):TI:=λ σ H R=>ta σ H λ vs H1=>∃j:Int,vs=[.int j]/\-(2^62)<=j/\j < 2^62/\R (Rw 0 j.toNat) H1
theorem yH{a:Expr}{ta:TA}{p pos:Pos}(hg:Gl X "range")(hm:X.mg "range"=none)(ha:PA X [a] ta)(hs:starEach [a] X.env=[(false,eval a X.env)]:=by rfl):PI X tg (.Call (.Name "range" p) [a] [] pos) (OI ta):=by
 intro pins s σ H R I h
 refine Call_ (eZ I hg hm boot_range (c9 (cP (ha pos pins s σ H _ I h) λ us s1 ⟨vs,H1,I1,r1,q1⟩=>?_) hs rfl))
 obtain⟨j,e,q1,q2,q⟩:=q1
 subst e
 cases r1 with
 |cons r rr=>
  cases rr
  obtain⟨t,rfl⟩:=r
  exact call_range_1 (AW I1 (by omega) (by omega) q1 q2 (by simpa using q))
def RN(wi:TI)(g:TG)(tb:TS):TS:=λ D σ H=>wi σ H λ J H1=>∃W:Nat->Nat->St->Hp->Prop,(∃m,W 0 m σ H1)/\∀i m σ H,W i m σ H->
 (J.stop i H/\D.nx σ H)\/(J.go i H/\∃N:St->Hp->Prop,(∀σ' H',N σ' H'->∃m',m' < m/\W (i+1) m' σ' H')/\∀x H',J.DG i H x H'->g x σ H' λ σ2 H2=>tb {D with nx:=N,ct:=N,bk:=D.nx} σ2 H2)
def pN(fp:List Addr)(h:Heap):List (Addr×Obj):=fp.filterMap λ b=>(h.get? b).map λ o=>(b,o)
theorem dB{fp:List Addr}{h:Heap}{b:Addr}{o:Obj}(hb:b∈fp)(e:h.get? b=some o):(b,o)∈pN fp h:=mem_filterMap.mpr ⟨b,hb,by rw[e];rfl⟩
theorem yO{fp:List Addr}{h:Heap}{p:Addr×Obj}(hp:p∈pN fp h):p.1∈fp/\h.get? p.1=some p.2:=by
 obtain⟨b,hb,e⟩:=mem_filterMap.mp hp
 cases q:h.get? b with
 |none=>rw[q]at e;cases e
 |some o=>
  rw[q]at e
  have e':(b,o)=p:=A9 e
  subst e'
  exact⟨hb,q⟩
theorem Inv.pinned {pins:List (Addr×Obj)}{σ:St}{H:Hp}{s:Shared}{fp:List Addr}(I:Inv X pins σ H s)(hf:∀b∈fp,fS X pins H b)(ho:∀b∈fp,∃o,s.heap.get? b=some o/\∀v,o.data≠.cell v):Inv X (pins++pN fp s.heap) σ H s:=
 I.cG λ p hp=>(B5.mp hp).elim (λ z=>I.pin p (k8 _ z)) λ z=>by
  obtain⟨hb,e⟩:=yO z
  obtain⟨f0,f1,f2,_⟩:=hf p.1 hb
  obtain⟨o,e',d⟩:=ho p.1 hb
  rw[e]at e';cases e'
  exact⟨e,f0,f1,f2,d⟩
theorem Inv.mh {pins pl:List (Addr×Obj)}{σ:St}{H:Hp}{s:Shared}(I:Inv X (pins++pl) σ H s):Inv X pins σ H s:=I.cG λ p hp=>I.pin p (k8 _ (m6 _ hp))
theorem Ke{iter:Expr}{body:List Stmt}{wi:TI}{g:TG}{tb:TS}{pos:Pos}(hp:PassesOwn (model X.prog X.w) X.A X.env X.xe)(hc:X.calm=true)(hi:PI X tg iter wi)(hg:PG X tg g)(hb:uD X body tb)
  (hs:∀x,foldedSetIterable iter X.env x=pure x:=by intro _;rfl):PS X (.For tg iter body [] pos) (RN wi g tb):=by
 intro pins s σ H D I h
 refine wpAny_For (cP (hi pins s σ H _ I h) λ v s1 h1=>cP h1 λ QZ s2 h2=>?_) hs
 obtain⟨it,fp,tn,J,H2,e,I2,T,Nl,f2,W,⟨m0,w0⟩,turn⟩:=h2
 subst e
 have IS:∀{H':Hp},(∀b∈fp,H' b=none)->∀b∈fp,fS X pins H' b:=λ hn b hb=>⟨hn b hb,(f2 b hb).2⟩
 refine codeAny_forLoop_any (λ n s'=>∃i σ' H',Inv X pins σ' H' s'/\tn i s'.heap/\(∀b∈fp,H' b=none)/\W i n σ' H') ?_ m0 ⟨0,σ,H2,I2,Nl,λ b hb=>(f2 b hb).1,w0⟩
 rintro n s3 ⟨i,σ3,H3,I3,Nk,Pb,w3⟩
 rcases turn i n σ3 H3 w3 with⟨stop,qn⟩|⟨go,N,hN,step⟩
 ·refine B1 hp (cP (T.done X rfl rfl rfl hc i pins s3 σ3 H3 X.xe I3 (IS Pb) Nk stop) λ r s4 ⟨hr,I4⟩=>?_)
  subst hr
  exact wpAny_execs_nil ⟨σ3,H3,I4,qn⟩
 ·refine B1 hp (cP (T.item X rfl rfl rfl hc i pins s3 σ3 H3 X.xe I3 (IS Pb) Nk go) λ r s4 ⟨u,hr,h4⟩=>?_)
  subst hr
  refine B1 hp (cP h4 λ _ s5 ⟨x,H5,I5,r5,y5,DT,TN⟩=>?_)
  have Ub:=I5.pinned (IS TN) (T.obj _ _ DT)
  refine B1 hp (cP (hg _ s5 σ3 H5 x u _ Ub r5 (step x H5 y5)) λ _ s6 ⟨σ6,H6,I6,q6⟩=>?_)
  refine B1 hp (cP (hb _ s6 σ6 H6 _ I6 q6) λ f s7 q7=>?_)
  have again:∀{σ7:St} {H7:Hp},Inv X (pins++pN fp s5.heap) σ7 H7 s7->N σ7 H7->∃m,m < n/\∃i σ' H',Inv X pins σ' H' s7/\tn i s7.heap/\(∀b∈fp,H' b=none)/\W i m σ' H':=λ{σ7 H7} I7 n7=>by
   obtain⟨m',hm,w7⟩:=hN σ7 H7 n7
   refine⟨m',hm,i+1,σ7,H7,I7.mh,T.keep _ _ _ DT λ b hb o e=>(I7.pin (b,o) (k8 _ (k8 _ (dB hb e)))).1,λ b hb=>?_,w7⟩
   obtain⟨o,e,d⟩:=T.obj _ _ DT b hb
   exact(I7.pin (b,o) (k8 _ (k8 _ (dB hb e)))).2.1
  cases f with
  |next=>obtain⟨σ7,H7,I7,n7⟩:=q7;exact again I7 n7
  |cont=>obtain⟨σ7,H7,I7,n7⟩:=q7;exact again I7 n7
  |brk=>obtain⟨σ7,H7,I7,q7⟩:=q7;exact⟨σ7,H7,I7.mh,q7⟩
  |ret v=>obtain⟨x7,σ7,H7,I7,r7,q7⟩:=q7;exact⟨x7,σ7,H7,I7.mh,r7,q7⟩
end
abbrev R2:=V->V->Hp->VK->Prop
def fb(X:Cx)(f:Value->Value->Sem Value)(r:R2):Prop:=
 ∀(pins:List (Addr×Obj)) (s:Shared) (σ:St) (H:Hp) (x y:V) (v u:Value) (Q:VK),Inv X pins σ H s->RelV x v->RelV y u->r x y H Q->
  wpAny (model X.prog X.w) X.A (f v u) (EP X pins σ Q) X.xe s
def Rq(X:Cx)(f:Value->Sem Value)(r:V->Hp->VK->Prop):Prop:=
 ∀(pins:List (Addr×Obj)) (s:Shared) (σ:St) (H:Hp) (x:V) (v:Value) (Q:VK),Inv X pins σ H s->RelV x v->r x H Q->
  wpAny (model X.prog X.w) X.A (f v) (EP X pins σ Q) X.xe s
def dv(X:Cx)(f:Value)(r:List V->Hp->VK->Prop):Prop:=
 ∀(pins:List (Addr×Obj)) (s:Shared) (σ:St) (H:Hp) (xs:List V) (us:List Value) (Q:VK),Inv X pins σ H s->Vals xs us->r xs H Q->
  wpAny (model X.prog X.w) X.A (call f us) (EP X pins σ Q) X.xe s
def Nf(r:R2)(ta tb:TE):TE:=λ σ H Q=>ta σ H λ x H1=>tb σ H1 λ y H2=>r x y H2 Q
def Vc(r:V->Hp->VK->Prop)(ta:TE):TE:=λ σ H Q=>ta σ H λ x H1=>r x H1 Q
def rI(C:Int->Int->Prop)(g:Int->Int->V):R2:=λ x y H Q=>∃i j,x=.int i/\y=.int j/\C i j/\Q (g i j) H
def Dz(g:Int->Int->V):R2:=λ x y H Q=>∃i j,x=.int i/\y=.int j/\Q (g i j) H
def rU(g:Int->V):V->Hp->VK->Prop:=λ x H Q=>∃i,x=.int i/\Q (g i) H
section
variable {X:Cx}{a b c:Expr}{ta tb tc:TE}{pos:Pos}
theorem Mk(ha:PE X a ta)(hb:PE X b tb){pins:List (Addr×Obj)}{s:Shared}{σ:St}{H:Hp}{R:V->V->Hp->Prop}(I:Inv X pins σ H s)
  (h:ta σ H λ x H1=>tb σ H1 λ y H2=>R x y H2) {Q:Value->Shared->Prop} {f:Value->Value->Sem Value}
  (hf:∀v u s2 x y H2,Inv X pins σ H2 s2->RelV x v->RelV y u->R x y H2->wpAny (model X.prog X.w) X.A (f v u) Q X.xe s2):
  wpAny (model X.prog X.w) X.A (eval a X.env) (λ v s₁=>wpAny (model X.prog X.w) X.A (eval b X.env) (λ u s₂=>wpAny (model X.prog X.w) X.A (f v u) Q X.xe s₂) X.xe s₁) X.xe s:=by
 refine cP (ha pins s σ H _ I h) λ v s1 ⟨x,H1,I1,r1,q1⟩=>?_
 refine cP (hb pins s1 σ H1 _ I1 q1) λ u s2 ⟨y,H2,I2,r2,q2⟩=>?_
 exact hf v u s2 x y H2 I2 r1 r2 q2
theorem N'{op:Operator}{r:R2}(ho:fb X (binaryOp op) r)(ha:PE X a ta)(hb:PE X b tb):PE X (.BinOp a op b pos) (Nf r ta tb):=by
 intro pins s σ H Q I h
 exact wpAny_BinOp (Mk ha hb I h λ v u s2 x y H2 I2 rx ry q=>ho pins s2 σ H2 x y v u Q I2 rx ry q)
theorem N_{op:UnaryOp}{r:V->Hp->VK->Prop}(ho:Rq X (unaryOp op) r)(ha:PE X a ta):PE X (.UnaryOp op a pos) (Vc r ta):=by
 intro pins s σ H Q I h
 exact UnaryOp_ (cP (ha pins s σ H _ I h) λ v s1 ⟨x,H1,I1,r1,q1⟩=>ho pins s1 σ H1 x v Q I1 r1 q1)
theorem QM{f:Value->Value->Sem Value}{C:Int->Int->Prop}{g:Int->Int->Int}
  (rule:∀(i j:Int) (t u:Tok) (s:Shared) (Q:Value->Shared->Prop) (E:Value->Shared->Prop),C i j->Q (.int (g i j) s.toks) {s with toks:=s.toks+1}->wpAny (model X.prog X.w) X.A (f (.int i t) (.int j u)) Q E s):
  fb X f (rI C λ i j=>.int (g i j)):=by
 intro pins s σ H x y v u Q I rx ry h
 obtain⟨i,j,rfl,rfl,hc,q⟩:=h
 obtain⟨t,rfl⟩:=rx
 obtain⟨t',rfl⟩:=ry
 exact rule i j t t' s _ _ hc ⟨.int (g i j),H,I.tok _,⟨_,rfl⟩,q⟩
theorem Oj{f:Value->Value->Sem Value}{g:Int->Int->Int}
  (rule:∀(i j:Int) (t u:Tok) (s:Shared) (Q:Value->Shared->Prop) (E:Value->Shared->Prop),Q (.int (g i j) s.toks) {s with toks:=s.toks+1}->wpAny (model X.prog X.w) X.A (f (.int i t) (.int j u)) Q E s):
  fb X f (Dz λ i j=>.int (g i j)):=by
 intro pins s σ H x y v u Q I rx ry h
 obtain⟨i,j,rfl,rfl,q⟩:=h
 obtain⟨t,rfl⟩:=rx
 obtain⟨t',rfl⟩:=ry
 exact rule i j t t' s _ _ ⟨.int (g i j),H,I.tok _,⟨_,rfl⟩,q⟩
theorem FG{f:Value->Value->Sem Value}{g:Int->Int->Bool}
  (rule:∀(i j:Int) (t u:Tok) (s:Shared) (Q:Value->Shared->Prop) (E:Value->Shared->Prop),Q (.bool (g i j)) s->wpAny (model X.prog X.w) X.A (f (.int i t) (.int j u)) Q E s):
  fb X f (Dz λ i j=>.bl (g i j)):=by
 intro pins s σ H x y v u Q I rx ry h
 obtain⟨i,j,rfl,rfl,q⟩:=h
 obtain⟨t,rfl⟩:=rx
 obtain⟨t',rfl⟩:=ry
 exact rule i j t t' s _ _ ⟨.bl (g i j),H,I,rfl,q⟩
def Mu(i j:Int):Prop:=0 < j/\j < 1073741824
def PZ(i j:Int):Prop:=0<=j/\j<=1000000/\i.natAbs < 2^64
def qN(i j:Int):Prop:=(-(2^64) < i/\i < 2^64)\/(-(2^64) < j/\j < 2^64)
theorem qN.ok {i j:Int}(h:qN i j):IntMulOk i j:=by
 rcases h with⟨h1,h2⟩|⟨h1,h2⟩
 ·exact .of_left (intBits_le_64 h1 h2)
 ·exact .of_right (intBits_le_64 h1 h2)
theorem KL:fb X (binaryOp .Add) (Dz λ i j=>.int (i+j)):=Oj λ _ _ _ _ _ _ _ q=>add_int q
theorem Kv:fb X (binaryOp .Sub) (Dz λ i j=>.int (i - j)):=Oj λ _ _ _ _ _ _ _ q=>sub_int q
theorem KC:fb X (binaryOp .Mult) (rI qN λ i j=>.int (i*j)):=QM λ _ _ _ _ _ _ _ hc q=>mul_int q hc.ok
theorem FD:fb X (binaryOp .FloorDiv) (rI Mu λ i j=>.int (i / j)):=QM λ i j _ _ _ _ _ hc q=>by
 have h1:(0:Int) < j:=hc.1
 have h2:j < 1073741824:=hc.2
 exact floordiv_int (by omega) (by rw[Int.fdiv_eq_ediv_of_nonneg i (by omega)];exact q) (.inl (PyProof.noPylong_small (by omega)))
theorem KD:fb X (binaryOp .Mod) (rI (λ _ j=>0 < j) λ i j=>.int (i % j)):=QM λ i j _ _ _ _ _ hc q=>by
 have h1:(0:Int) < j:=hc
 exact mod_int' (by omega) (by rw[Int.fmod_eq_emod_of_nonneg i (by omega)];exact q)
theorem Kx:fb X (binaryOp .Pow) (rI PZ λ i j=>.int (i^j.toNat)):=QM λ _ _ _ _ _ _ _ hc q=>pow_int_small hc.1 hc.2.1 hc.2.2 q
theorem U9{f:Value->Sem Value}{g:Int->Int}
  (rule:∀(i:Int) (t:Tok) (s:Shared) (Q:Value->Shared->Prop) (E:Value->Shared->Prop),Q (.int (g i) s.toks) {s with toks:=s.toks+1}->wpAny (model X.prog X.w) X.A (f (.int i t)) Q E s):
  Rq X f (rU λ i=>.int (g i)):=by
 intro pins s σ H x v Q I rx h
 obtain⟨i,rfl,q⟩:=h
 obtain⟨t,rfl⟩:=rx
 exact rule i t s _ _ ⟨.int (g i),H,I.tok _,⟨_,rfl⟩,q⟩
theorem IE:Rq X (unaryOp .USub) (rU λ i=>.int (-i)):=U9 λ _ _ _ _ _ q=>neg_int q
end
def Np:V->V->Bool
 | .bj,.bj=>true| .bj,.int _=>true| .int _,.bj=>true| .bj,.bl _=>true| .bl _,.bj=>true| .bj,.str _=>true| .str _,.bj=>true
 | .int _,.int _=>true| .bl _,.bl _=>true| .str _,.str _=>true| .Dk _,.Dk _=>true
 | .int _,.str _=>true| .str _,.int _=>true| .bl _,.str _=>true| .str _,.bl _=>true
 |_,_=>false
def Vm:R2:=λ x y H Q=>Np x y=true/\Q (.bl (decide (x=y))) H
def Vj:R2:=λ x y H Q=>Np x y=true/\Q (.bl (!decide (x=y))) H
theorem xH{i j:Int}:decide (V.int i=V.int j)=(i==j):=by
 rw[A2]
 simp
theorem CS{i j:Bool}:decide (V.bl i=V.bl j)=(i==j):=by
 rw[A2]
 simp
theorem xG{i j:Str}:decide (V.str i=V.str j)=(i==j):=by
 rw[A2]
 simp
theorem xI{i j:Array UInt8}:decide (V.Dk i=V.Dk j)=(i.toList==j.toList):=by
 rw[A2]
 cases i
 cases j
 simp
section
variable {X:Cx}{a b c:Expr}{ta tb tc:TE}{pos:Pos}
theorem a_{pins:List (Addr×Obj)}{σ:St}{H:Hp}{s:Shared}{Q:VK}{k k':Bool}(I:Inv X pins σ H s)(q:Q (.bl k) H)(e:k=k'):EP X pins σ Q (.bool k') s:=by
 subst e
 exact⟨.bl k,H,I,rfl,q⟩
theorem Oi:fb X (compareOp .Eq) Vm:=by
 intro pins s σ H x y v u Q I rx ry h
 obtain⟨hs,q⟩:=h
 cases x with
 |bj=>
  cases rx
  cases y with
  |bj=>cases ry;exact PySem.EqNone.eq_none_none (a_ I q (by simp))
  |bl j=>cases ry;exact PySem.EqNone.eq_none_bool (a_ I q (by simp))
  |int j=>obtain⟨t',rfl⟩:=ry;exact PySem.EqNone.eq_none_int (a_ I q (by simp))
  |str j=>obtain⟨t',rfl⟩:=ry;exact PySem.EqNone.eq_none_str (a_ I q (by simp))
  |_=>exact absurd (show false=true from hs) o9
 |bl i=>
  cases rx
  cases y with
  |bj=>cases ry;exact PySem.EqNone.eq_bool_none (a_ I q (by simp))
  |bl j=>cases ry;exact eq_bool (a_ I q CS)
  |str j=>obtain⟨t',rfl⟩:=ry;exact PySem.EqMixed.eq_bool_str (a_ I q (by simp))
  |_=>exact absurd (show false=true from hs) o9
 |int i=>
  obtain⟨t,rfl⟩:=rx
  cases y with
  |bj=>cases ry;exact PySem.EqNone.eq_int_none (a_ I q (by simp))
  |int j=>obtain⟨t',rfl⟩:=ry;exact eq_int (a_ I q xH)
  |str j=>obtain⟨t',rfl⟩:=ry;exact PySem.EqMixed.eq_int_str (a_ I q (by simp))
  |_=>exact absurd (show false=true from hs) o9
 |str i=>
  obtain⟨t,rfl⟩:=rx
  cases y with
  |bj=>cases ry;exact PySem.EqNone.eq_str_none (a_ I q (by simp))
  |bl j=>cases ry;exact PySem.EqMixed.eq_str_bool (a_ I q (by simp))
  |int j=>obtain⟨t',rfl⟩:=ry;exact PySem.EqMixed.eq_str_int (a_ I q (by simp))
  |str j=>obtain⟨t',rfl⟩:=ry;exact eq_str (a_ I q xG)
  |_=>exact absurd (show false=true from hs) o9
 |Dk i=>
  obtain⟨t,rfl⟩:=rx
  cases y with
  |Dk j=>obtain⟨t',rfl⟩:=ry;exact PySem.W.eq_bytes (a_ I q xI)
  |_=>exact absurd (show false=true from hs) o9
 |_=>cases y <;> exact absurd (show false=true from hs) o9
theorem Od:fb X (compareOp .NotEq) Vj:=by
 intro pins s σ H x y v u Q I rx ry h
 obtain⟨hs,q⟩:=h
 cases x with
 |bj=>
  cases rx
  cases y with
  |bj=>cases ry;exact PySem.EqNone.ne_none_none (a_ I q (by simp))
  |bl j=>cases ry;exact PySem.EqNone.ne_none_bool (a_ I q (by simp))
  |int j=>obtain⟨t',rfl⟩:=ry;exact PySem.EqNone.ne_none_int (a_ I q (by simp))
  |str j=>obtain⟨t',rfl⟩:=ry;exact PySem.EqNone.ne_none_str (a_ I q (by simp))
  |_=>exact absurd (show false=true from hs) o9
 |bl i=>
  cases rx
  cases y with
  |bj=>cases ry;exact PySem.EqNone.ne_bool_none (a_ I q (by simp))
  |bl j=>cases ry;exact ne_bool (a_ I q (J1 not CS))
  |str j=>obtain⟨t',rfl⟩:=ry;exact PySem.EqMixed.ne_bool_str (a_ I q (by simp))
  |_=>exact absurd (show false=true from hs) o9
 |int i=>
  obtain⟨t,rfl⟩:=rx
  cases y with
  |bj=>cases ry;exact PySem.EqNone.ne_int_none (a_ I q (by simp))
  |int j=>obtain⟨t',rfl⟩:=ry;exact ne_int (a_ I q (J1 not xH))
  |str j=>obtain⟨t',rfl⟩:=ry;exact PySem.EqMixed.ne_int_str (a_ I q (by simp))
  |_=>exact absurd (show false=true from hs) o9
 |str i=>
  obtain⟨t,rfl⟩:=rx
  cases y with
  |bj=>cases ry;exact PySem.EqNone.ne_str_none (a_ I q (by simp))
  |bl j=>cases ry;exact PySem.EqMixed.ne_str_bool (a_ I q (by simp))
  |int j=>obtain⟨t',rfl⟩:=ry;exact PySem.EqMixed.ne_str_int (a_ I q (by simp))
  |str j=>obtain⟨t',rfl⟩:=ry;exact ne_str (a_ I q (J1 not xG))
  |_=>exact absurd (show false=true from hs) o9
 |Dk i=>
  obtain⟨t,rfl⟩:=rx
  cases y with
  |Dk j=>obtain⟨t',rfl⟩:=ry;exact PySem.W.ne_bytes (a_ I q (J1 not xI))
  |_=>exact absurd (show false=true from hs) o9
 |_=>cases y <;> exact absurd (show false=true from hs) o9
theorem Oe:fb X (compareOp .Lt) (Dz λ i j=>.bl (decide (i < j))):=FG λ _ _ _ _ _ _ _ q=>lt_int q
theorem Of:fb X (compareOp .LtE) (Dz λ i j=>.bl (decide (i<=j))):=FG λ _ _ _ _ _ _ _ q=>le_int q
theorem Og:fb X (compareOp .Gt) (Dz λ i j=>.bl (decide (j < i))):=FG λ _ _ _ _ _ _ _ q=>gt_int q
theorem Oh:fb X (compareOp .GtE) (Dz λ i j=>.bl (decide (j<=i))):=FG λ _ _ _ _ _ _ _ q=>ge_int q
theorem yJ:fb X (compareOp .In) (λ x y H Q=>∃i j,x=.str i/\y=.str j/\Q (.bl (!(Builtin.Str.occurrences j i 0 j.length 1).isEmpty)) H):=by
 intro pins s σ H x y v u Q I rx ry h
 obtain⟨i,j,rfl,rfl,q⟩:=h
 obtain⟨t,rfl⟩:=rx
 obtain⟨t',rfl⟩:=ry
 exact in_str (a_ I q rfl)
theorem KG:fb X (compareOp .Is) (λ x y H Q=>y=.bj/\Q (.bl (decide (x=.bj))) H):=by
 intro pins s σ H x y v u Q I rx ry h
 obtain⟨rfl,q⟩:=h
 cases ry
 refine is_none_gen (a_ I q ?_)
 cases x <;> first
  |(cases rx;rfl)
  |(obtain⟨t,rfl⟩:=rx;rfl)
theorem fb.or {f:Value->Value->Sem Value}{r r':R2}(h:fb X f r)(h':fb X f r'):fb X f (λ x y H Q=>r x y H Q\/r' x y H Q):=by
 intro pins s σ H x y v u Q I rx ry q
 rcases q with q|q
 ·exact h pins s σ H x y v u Q I rx ry q
 ·exact h' pins s σ H x y v u Q I rx ry q
theorem aR(b:Expr){op:CmpOp}(h:op≠.In:=by decide)(h2:op≠.NotIn:=by decide):behindInMarks op b=false:=by
 have e1:(op==CmpOp.In)=false:=by cases op <;> first|rfl|exact absurd rfl h
 have e2:(op==CmpOp.NotIn)=false:=by cases op <;> first|rfl|exact absurd rfl h2
 cases b <;> simp[behindInMarks,e1,e2]
theorem Fv{op:CmpOp}{r:R2}(ho:fb X (compareOp op) r)(ha:PE X a ta)(hb:PE X b tb)(hm:behindInMarks op b=false):PE X (.Compare a [op] [b] pos) (Nf r ta tb):=by
 intro pins s σ H Q I h
 exact wpAny_Compare1 (Mk ha hb I h λ v u s2 x y H2 I2 rx ry q=>ho pins s2 σ H2 x y v u Q I2 rx ry q) hm
def Nc(t:TE):TT:=λ σ H Q=>t σ H λ x H'=>∃k,x=.bl k/\Q k H'
theorem Fh{op:CmpOp}{r:R2}(ho:fb X (compareOp op) r)(ha:PE X a ta)(hb:PE X b tb)(hm:behindInMarks op b=false):PT X (.Compare a [op] [b] pos) (Nc (Nf r ta tb)):=by
 intro pins s σ H Q I h
 refine wpAny_isTrue_Compare1 (cP (ha pins s σ H _ I h) λ v s1 ⟨x,H1,I1,r1,q1⟩=>cP (hb pins s1 σ H1 _ I1 q1) λ u s2 ⟨y,H2,I2,r2,q2⟩=>
  cP (ho pins s2 σ H2 x y v u _ I2 r1 r2 q2) λ c s3 ⟨z,H3,I3,r3,k,e,q3⟩=>?_) hm
 subst e
 cases r3
 exact u9 ⟨H3,I3,q3⟩
theorem jL:(sizeLine:Nat) < 2^63:=by rw[E2];decide
theorem vn:fb X (binaryOp .Add) (λ x y H Q=>∃i j,x=.str i/\y=.str j/\i.length+j.length<=sizeLine/\Q (.str (i++j)) H):=by
 intro pins s σ H x y v u Q I rx ry h
 obtain⟨i,j,rfl,rfl,hz,q⟩:=h
 obtain⟨t,rfl⟩:=rx
 obtain⟨t',rfl⟩:=ry
 exact add_str (λ t' tk=>⟨.str (i++j),H,I.tok _,⟨_,rfl⟩,q⟩) hz
theorem vals1{x:V}{us:List Value}(r:Vals [x] us):∃u,us=[u]/\RelV x u:=by
 cases r with
 |cons r1 r2=>cases r2;exact⟨_,rfl,r1⟩
theorem vals2{x y:V}{us:List Value}(r:Vals [x,y] us):∃u w',us=[u,w']/\RelV x u/\RelV y w':=by
 cases r with
 |cons r1 r2=>
  cases r2 with
  |cons r3 r4=>cases r4;exact⟨_,_,rfl,r1,r3⟩
theorem zr(hc:X.calm=true):dv X (.builtin "min") (λ xs H Q=>∃i j,xs=[.int i,.int j]/\Q (.int (if j < i then j else i)) H):=by
 intro pins s σ H xs us Q I r h
 obtain⟨i,j,rfl,q⟩:=h
 obtain⟨u,w',rfl,⟨t,rfl⟩,⟨t',rfl⟩⟩:=vals2 r
 refine min_two_ints (I.ok.hd hc) λ h' tk k=>⟨_,H,I.kept k,?_,q⟩
 by_cases hj:j < i
 ·rw[J4 hj,J4 hj];exact⟨_,rfl⟩
 ·rw[J5 hj,J5 hj];exact⟨_,rfl⟩
theorem zu:dv X (.type "int") (λ xs H Q=>(∃i,xs=[.int i]/\Q (.int i) H)\/∃k,xs=[.bl k]/\Q (.int (if k then 1 else 0)) H):=by
 intro pins s σ H xs us Q I r h
 rcases h with⟨i,rfl,q⟩|⟨k,rfl,q⟩
 ·obtain⟨u,rfl,t,rfl⟩:=vals1 r
  exact call_int_int ⟨.int i,H,I,⟨_,rfl⟩,q⟩
 ·obtain⟨u,rfl,r1⟩:=vals1 r
  cases r1
  exact call_int_bool ⟨.int (if k then 1 else 0),H,I.tok _,⟨_,rfl⟩,q⟩
end
structure Mt(h:Heap)(x dx C:Addr)(mA:Str->Option Value):Prop where
 obj:h.get? x=some (PySem.W.instObj C dx)
 ns:h.Ns1 dx mA
 ne:dx≠x
set_option tactic.hygienic true in
theorem yV{h:Heap}{dx:Addr}{mA:Str->Option Value}(n:h.Ns1 dx mA):∃od,h.get? dx=some od/\∀name,PySem.W.lookIn name od=some (mA name):=by
 obtain⟨o,es,ep,ho,hd,hk,_,hm⟩:=n
 refine⟨o,ho,λ name=>?_⟩
 have e:=hm name
 unfold nsFind findBy at e
 rw[<- Array.find?_toList]at e
 unfold PySem.W.lookIn
 rw[hd]
 dsimp only
 split
 ·rename_i y q
  rw[q]at e
  exact J1 some e
 ·rename_i q
  rw[q]at e
  have a:es.toList.any (·.refKey)=false:=by
   rw[List.any_eq_false]
   intro y hy
   obtain⟨z,t,qk⟩:=hk y (Array.mem_toList_iff.mp hy)
   simp[DictEntry.refKey,qk]
  have a':¬es.toList.any (·.refKey)=true:=by rw[a];exact o9
  rw[J5 a']
  exact J1 some e
theorem Mt.look {h:Heap}{x dx C:Addr}{mA:Str->Option Value}(I:Mt h x dx C mA):∃od,PySem.W.InstAt h x (PySem.W.instObj C dx) C (some od)/\∀name,PySem.W.lookIn name od=some (mA name):=
 let⟨od,ho,hl⟩:=yV I.ns
 ⟨od,⟨I.obj,rfl,rfl,ho⟩,hl⟩
theorem js.some_of {v:V}{o:Option Value}(r:js (some v) o):∃u,o=some u/\RelV v u:=by
 cases o with
 |none=>exact(show False from r).elim
 |some u=>exact⟨u,rfl,r⟩
section
variable {P:Program}{w:World}{H H':Hp}{h h':Heap}{a C dx:Addr}{fs Wx:List (Str×V)}
theorem Gp(bN:iD P w H h)(e:H a=some (.ins C dx fs)):∃mA,Mt h a dx C mA/\(∀f,js (fs.lookup f) (mA f))/\PySem.Within mA (fs.map (·.1))/\fs.length<=1000/\H dx=some (.own a):=by
 obtain⟨d,z,ne,ob,mA,n,r,q⟩:=(show bL P w H h a (.ins C dx fs)from bN a _ e)
 exact⟨mA,⟨ob,n,ne⟩,r,q,z,d⟩
end
structure Ud(K:PySem.W.Frag)(C:Addr):Prop where
 pg:PySem.W.plainGet K C Str.empty=true
 hd:PySem.W.hasDictIn K C=true
 po:PySem.W.plainOver K C=true
 sa:PySem.W.findIn K (.ref C) "__setattr__"=some (some (.builtin "object.__setattr__"))
theorem Ud.get {K:PySem.W.Frag}{C:Addr}(c:Ud K C)(f:Str):PySem.W.plainGet K C f=true:=c.pg
section
variable {X:Cx}{pins:List (Addr×Obj)}{σ:St}{H:Hp}{s:Shared}{A:Around}{E:Value->Shared->Prop}{Q:Value->Shared->Prop}{c:Value}{b:Bool}
inductive lg(K:PySem.W.Frag)(H:Hp):V->Value->Prop where
 |bj:lg K H .bj (.type "NoneType")
 |bl (x:Bool):lg K H (.bl x) (.type "bool")
 |int (i:Int):lg K H (.int i) (.type "int")
 |str (x:Str):lg K H (.str x) (.type "str")
 |MR (x:UInt64):lg K H (.MR x) (.type "float")
 |lst {a:Addr} {xs:List V} (e:H a=some (.lst xs)):lg K H (.ref a) (.type "list")
 |mY {a:Addr} {o:Obj} {xs:List V} (e:H a=some (.mY o (.lst xs))):lg K H (.ref a) (.type "list")
 |tup {a:Addr} {xs:List V} (e:H a=some (.tup xs)):lg K H (.ref a) (.type "tuple")
 |dK {a:Addr} {kvs:List (Key×V)} (e:H a=some (.dK kvs)):lg K H (.ref a) (.type "dict")
 |dT {a:Addr} {kvs:List (List Key×V)} (e:H a=some (.dT kvs)):lg K H (.ref a) (.type "dict")
 |ins {a C dx:Addr} {fs:List (Str×V)} (e:H a=some (.ins C dx fs)) (cl:Ud K C) (ha:PySem.W.findIn K (.ref C) "__class__"=some (some (.builtin "object.__class__")))
   (hn:PySem.W.specialIn K (.builtin "object.__class__") "__get__"=some (some (.builtin "getset_descriptor.__get__"))) (Uu:PySem.W.takesIn K (.builtin "object.__class__")=some true)
   (hm:PySem.W.mroIn K C (.type "object")=some true):lg K H (.ref a) (.ref C)
theorem gS{x:V}{u t:Value}(I:Inv X pins σ H s)(rx:RelV x u)(ty:lg X.K H x t)(e:PySem.W.kitOne X.K t c=some b)(h:∀tk,Q (.bool b) {s with toks:=tk}):
  wpAny (model X.prog X.w) A (call (.builtin "isinstance") [u,c]) Q E s:=by
 cases ty with
 |bj=>cases(show u=Value.none from rx);exact B3 PySem.W.kitx_none I.nO True.intro e (λ z=>nomatch z) h
 |bl y=>cases(show u=Value.bool y from rx);exact B3 PySem.W.kitx_bool I.nO True.intro e (λ z=>nomatch z) h
 |int i=>obtain⟨t,q⟩:=(show ∃t,u=Value.int i t from rx);cases q;exact B3 PySem.W.kitx_int I.nO True.intro e (λ z=>nomatch z) h
 |str y=>obtain⟨t,q⟩:=(show ∃t,u=Value.str y t from rx);cases q;exact B3 PySem.W.kitx_str I.nO True.intro e (λ z=>nomatch z) h
 |MR y=>obtain⟨t,q⟩:=(show ∃t,u=Value.float y t from rx);cases q;exact B3 PySem.W.kitx_float I.nO True.intro e (λ z=>nomatch z) h
 |@lst a xs ea=>
  cases(show u=Value.ref a from rx)
  obtain⟨_,_,n,_,h1⟩:=(show bL X.prog X.w H s.heap a (.lst xs)from I.bN a _ ea)
  exact B3 PySem.W.kitx_list I.nO ⟨_,h1,rfl⟩ e (λ z=>nomatch z) h
 |@mY a ob xs ea=>
  cases(show u=Value.ref a from rx)
  obtain⟨_,_,_,n,_,h1⟩:=(show bL X.prog X.w H s.heap a (.mY ob (.lst xs))from I.bN a _ ea)
  exact B3 PySem.W.kitx_list I.nO ⟨_,h1,rfl⟩ e (λ z=>nomatch z) h
 |@tup a xs ea=>
  cases(show u=Value.ref a from rx)
  obtain⟨_,_,_,p⟩:=(show bL X.prog X.w H s.heap a (.tup xs)from I.bN a _ ea)
  obtain⟨o,h1,h2,_⟩:=p
  exact B3 PySem.W.kitx_tuple I.nO ⟨o,h1,h2⟩ e (λ z=>nomatch z) h
 |@dK a kvs ea=>
  cases(show u=Value.ref a from rx)
  obtain⟨_,_,vs,_,p⟩:=(show bL X.prog X.w H s.heap a (.dK kvs)from I.bN a _ ea)
  obtain⟨o,es,ep,h1,h2,_⟩:=p
  exact B3 PySem.W.kitx_dict I.nO ⟨o,h1,h2.1⟩ e (λ z=>nomatch z) h
 |@dT a kvs ea=>
  cases(show u=Value.ref a from rx)
  obtain⟨_,_,xs,_,o,es,ep,h1,h2,_⟩:=(show bL X.prog X.w H s.heap a (.dT kvs)from I.bN a _ ea)
  exact B3 PySem.W.kitx_dict I.nO ⟨o,h1,h2.1⟩ e (λ z=>nomatch z) h
 |@ins a C dx fs ea cl ha hn Uu hm=>
  cases(show u=Value.ref a from rx)
  obtain⟨mA,O,_⟩:=Gp I.bN ea
  obtain⟨od,J,_⟩:=O.look
  exact B3 (PySem.W.kitx_own (cl.get _) cl.hd ha hn Uu hm) I.nO J e (λ z=>nomatch z) h
end
structure cD(k:Nat)(A:Around):Prop where
 hd:A.handled=none
 dp:A.depth+2*k+5 < recursionLimit
 un:A.units+16*k+200 < cLine
theorem cD.mono {j k:Nat}{A:Around}(r:cD k A)(h:j<=k):cD j A:=⟨r.hd,by have:=r.dp;omega,by have:=r.un;omega⟩
theorem cD.deeper {k:Nat}{A:Around}(r:cD (k+1) A)(env:Env):cD k (A.deeper env):=
 ⟨r.hd,by have:=r.dp;show A.depth+1+2*k+5 < _;omega,by have:=r.un;show A.units+3+16*k+200 < _;omega⟩
theorem cD.in1 {k:Nat}{A:Around}(r:cD (k+1) A):cD k A.in1:=
 ⟨r.hd,by have:=r.dp;show A.depth+2*k+5 < _;omega,by have:=r.un;show A.units+1+16*k+200 < _;omega⟩
theorem cD.depth {k:Nat}{A:Around}(r:cD k A):A.depth < recursionLimit:=by have:=r.dp;omega
theorem cD.units {k:Nat}{A:Around}(r:cD k A):A.units+64 < cLine:=by have:=r.un;omega
def IM:TA:=λ _ H Q=>Q [] H
def zW(ta:TE)(tr:TA):TA:=λ σ H Q=>ta σ H λ x H1=>tr σ H1 λ xs H2=>Q (x::xs) H2
section
variable {X:Cx}{e:Expr}{es:List Expr}{te:TE}{t:TA}{pos:Pos}
theorem ip:PA X [] IM:=λ _ _ _ _ H Q I h=>Calls.spliced_nil ⟨[],H,I,.nil,h⟩
theorem fN(ha:PE X e te)(hr:PA X es t)(hs:starEach (e::es) X.env=(false,eval e X.env)::starEach es X.env:=by rfl):PA X (e::es) (zW te t):=by
 intro pos pins s σ H Q I h
 rw[hs]
 show wpAny _ _ (spliced ((false,eval e X.env)::backTo pos (starEach es X.env))) _ _ s
 refine Calls.spliced_cons (cP (ha pins s σ H _ I h) λ u s1 ⟨x,H1,I1,r1,q1⟩=>?_)
 exact cP (hr pos pins s1 σ H1 _ I1 q1) λ us s2 ⟨xs,H2,I2,r2,q2⟩=>⟨x::xs,H2,I2,.cons r1 r2,q2⟩
def RH(t:TA):TE:=λ σ H Q=>t σ H λ xs H1=>xs.length<=sizeLine/\∀p,H1 p=none->Q (.ref p) (upd H1 p (.tup xs))
def RL(t:TA):TE:=λ σ H Q=>t σ H λ xs H1=>xs.length<=sizeLine/\∀p,H1 p=none->Q (.ref p) (upd H1 p (.lst xs))
theorem Km{x1}(h:PA X es t):PE X (.Tuple es x1 pos) (RH t):=by
 intro pins s σ H Q I hq
 refine wpAny_Tuple_spliced (cP (h pos pins s σ H _ I hq) λ us s1 ⟨xs,H1,I1,r,z,q⟩=>⟨by rw[<- r.length];exact z,?_⟩)
 have hf:H1 s1.heap.objs.size=none:=I1.bN.fresh (E1 _)
 refine⟨.ref s1.heap.objs.size,upd H1 s1.heap.objs.size (.tup xs),I1.laid (t':=s1.toks) (λ b u e=>k4 _ e) (E1 _) ?_,rfl,q _ hf⟩
 exact⟨z,us,r,⟨_,o7 _ rfl,rfl,_,rfl⟩⟩
theorem Kq(h:PA X es t):PE X (.List es pos) (RL t):=by
 intro pins s σ H Q I hq
 refine wpAny_List_spliced (cP (h pos pins s σ H _ I hq) λ us s1 ⟨xs,H1,I1,r,z,q⟩=>⟨by rw[<- r.length];exact z,?_⟩)
 have hf:H1 s1.heap.objs.size=none:=I1.bN.fresh (E1 _)
 refine⟨.ref s1.heap.objs.size,upd H1 s1.heap.objs.size (.lst xs),I1.laid (t':=s1.toks) (λ b u e=>k4 _ e) (E1 _) ?_,rfl,q _ hf⟩
 exact⟨z,us,0,r,o7 _ rfl⟩
end
abbrev Sp:=List V->Hp->VK->XK->Prop
abbrev Dx:=List Env->Hp->Shared->XK->Value->Shared->Prop
structure qM(P:Program)(w:World)(K:PySem.W.Frag)(mg:Str->Option Value)(base:Heap)(A:Around)(outer:List Env)(s:Shared)(H:Hp):Prop where
 frames:A.frames=some outer
 mod:Mod K mg base
 bs:∀b o,base.get? b=some o->s.heap.get? b=some o/\H b=none
 DC:base.objs.size<=s.heap.objs.size
 kZ:s.heap.FunFrames base outer
 LP:∀b∈zi outer,H b=none
 bN:iD P w H s.heap
 bare:AllBare s.gens
def CE(outer:List Env)(P:Program)(w:World)(H:Hp)(s:Shared)(Q:VK)(u:Value)(s':Shared):Prop:=
 ∃v H',s'.os=s.os/\AllBare s'.gens/\Un (zi outer) [] H H' s.heap s'.heap/\iD P w H' s'.heap/\RelV v u/\Q v H'
def CR(CX:Dx)(outer:List Env)(P:Program)(w:World)(H:Hp)(s:Shared)(Q:VK)(E:XK)(r:Result)(s':Shared):Prop:=
 match r with
 | .ok (.ret u)=>CE outer P w H s Q u s'
 | .ok _=>False
 | .error e=>CX outer H s E e s'
structure bS(P:Program)(w:World)(K:PySem.W.Frag)(mg:Str->Option Value)(base:Heap)(CX:Dx)(k:Nat)(f:Addr)(fd:FuncData)(ps:List Str)(sp:Sp):Prop where
 len:∀vs H Q E,sp vs H Q E->vs.length=ps.length
 run:∀(A:Around) (outer:List Env) (s:Shared) (H:Hp) (args:Args) (us:List Value) (vs:List V) (Q:VK) (E:XK),cD k A->qM P w K mg base A outer s H->BindsTo s fd args (ps.zip us)->Vals vs us->sp vs H Q E->
  codeAny (model P w) A (.call (.ref f) args) (CR CX outer P w H s Q E) s
theorem qM.in1 {P:Program}{w:World}{K:PySem.W.Frag}{mg:Str->Option Value}{base:Heap}{A:Around}{outer:List Env}{s:Shared}{H:Hp}(e:qM P w K mg base A outer s H):
  qM P w K mg base A.in1 outer s H:=⟨e.frames,e.mod,e.bs,e.DC,e.kZ,e.LP,e.bN,e.bare⟩
section
variable {X:Cx}{pins:List (Addr×Obj)}{σ:St}{H:Hp}{s s':Shared}
theorem Inv.LS (I:Inv X pins σ H s):qM X.prog X.w X.K X.mg X.base X.A X.stack s H:=
 ⟨I.ok.frames,I.ok.mod,I.bs,D9 I.ok.DC I.sz,I.stack,I.wC,I.bN,I.bare⟩
theorem Inv.after {Q:VK}{u:Value}(I:Inv X pins σ H s)(h:CE X.stack X.prog X.w H s Q u s'):EP X pins σ Q u s':=by
 obtain⟨v,H',os,bare,un,bN,r,q⟩:=h
 obtain⟨hh,g,d,t,HJ⟩:=s'
 obtain rfl:HJ=s.os:=os
 exact⟨v,H',I.call (h':=hh) (g':=g) (d':=d) (t':=t) (ch:=[]) un bN bare (λ b z=>absurd z (by simp)),r,q⟩
end
def Hr(sp:Sp)(CN:List V)(E:XK)(t:TA):TE:=λ σ H Q=>t σ H λ vs H1=>sp (vs++CN) H1 Q E
def Binds(K:PySem.W.Frag)(fd:FuncData)(ps:List Str)(ds:List Value):Prop:=
 ∀(s:Shared) (us:List Value),K.In s.heap->(us++ds).length=ps.length->BindsTo s fd ⟨us,[]⟩ (ps.zip (us++ds))
theorem Binds.all {K:PySem.W.Frag}{fd:FuncData}{ps:List Str}(h:∀us:List Value,us.length=ps.length->bindArgs fd ⟨us,[]⟩=pure (ps.zip us)):Binds K fd ps []:=λ s us _ hl=>by
 rw[A3]at hl ⊢
 exact .of_eq (h us hl)
def Passes(CX:Dx)(X:Cx)(E:XK):Prop:=∀(pins:List (Addr×Obj)) (σ:St) (H:Hp) (s:Shared) (e:Value) (s':Shared),Inv X pins σ H s->CX X.stack H s E e s'->X.xe e s'
section
variable {X:Cx}{CX:Dx}{k:Nat}{f C:Addr}{fd:FuncData}{ps:List Str}{sp:Sp}{CN:List V}{ds:List Value}{E:XK}{x m:Str}{p pos apos:Pos}{e o:Expr}{es:List Expr}{ta:TE}{t:TA}
theorem Jf{pins:List (Addr×Obj)}{σ:St}{H:Hp}{s:Shared}{Q:VK}{us:List Value}{vs:List V}(F:bS X.prog X.w X.K X.mg X.base CX k f fd ps sp)(hr:cD k X.A)(hb:Binds X.K fd ps ds)(hd:Vals CN ds)(hx:Passes CX X E)
  (I:Inv X pins σ H s) (r:Vals vs us) (h:sp (vs++CN) H Q E):wpAny (model X.prog X.w) X.A (call (.ref f) us) (EP X pins σ Q) X.xe s:=by
 have r2:Vals (vs++CN) (us++ds):=r.append hd
 have hl:(us++ds).length=ps.length:=by rw[<- r2.length];exact F.len _ _ _ _ h
 refine wpAny_call (codeAny_mono (F.run X.A X.stack s H ⟨us,[]⟩ (us++ds) (vs++CN) Q E hr I.LS (hb s us I.nO hl) r2 h) λ r s' hq=>?_)
 cases r with
 |error e=>exact hx pins σ H s e s' I hq
 |ok fl=>
  cases fl with
  |ret u=>exact I.after hq
  |next=>exact False.elim hq
  |brk=>exact False.elim hq
  |cont=>exact False.elim hq
theorem Fw(F:bS X.prog X.w X.K X.mg X.base CX k f fd ps sp)(hr:cD k X.A)(hg:Gl X x)(hm:X.mg x=some (.ref f))(hk:PySem.W.keepIn X.K (.ref f)=true)(hb:Binds X.K fd ps ds)(hd:Vals CN ds)(hx:Passes CX X E)
  (ha:PA X (e::es) t) (hdb:(x==("__debug__":Str))=false:=by decide) (he:starEach (e::es) X.env=(false,eval e X.env)::starEach es X.env:=by rfl) (hpl:(backTo pos (starEach es X.env)).any (·.1)=false:=by rfl):
  PE X (.Call (.Name x p) (e::es) [] pos) (Hr sp CN E t):=by
 intro pins s σ H Q I h
 refine r6 (pX I hg hm ?_ hdb)
 refine PySem.W.callWith_K (h₀:=X.base) I.ok.mod.QY hk (cP (ha pos pins s σ H _ I h) λ us s1 ⟨vs,H1,I1,r,q⟩=>⟨I1.nO,?_⟩) he hpl
 exact Jf F hr hb hd hx I1 r q
end
def PK(X:Cx)(OF:List Keyword)(t:TA):Prop:=
 ∀(pos:Pos) (pins:List (Addr×Obj)) (s:Shared) (σ:St) (H:Hp) (Q:List V->Hp->Prop),Inv X pins σ H s->t σ H Q->wpAny (model X.prog X.w) X.A (evalAll ((backToKw pos (keywordEach OF X.env)).map (·.2))) (AP X pins σ Q) X.xe s
section
variable {X:Cx}{CX:Dx}{k:Nat}{f C:Addr}{fd:FuncData}{ps ks:List Str}{sp:Sp}{E:XK}{x m:Str}{p pos apos SG:Pos}{e o:Expr}{es:List Expr}{OF:List Keyword}{te ta:TE}{t tk:TA}{nm:Option Str}
theorem Bj:PK X [] IM:=λ _ _ _ _ H Q I h=>wpAny_evalAll_nil ⟨[],H,I,.nil,h⟩
theorem wW(ha:PE X e te)(hr:PK X OF t):PK X (⟨nm,e,SG⟩::OF) (zW te t):=by
 intro pos pins s σ H Q I h
 show wpAny _ _ (evalAll ((do let v <- eval e X.env;standAt pos;pure v)::(backToKw pos (keywordEach OF X.env)).map (·.2))) _ _ s
 refine wpAny_evalAll_cons (E9 (cP (ha pins s σ H _ I h) λ u s1 ⟨x,H1,I1,r1,q1⟩=>E9 (wpAny_standAt (G0 ?_))))
 exact cP (hr pos pins s1 σ H1 _ I1 q1) λ us s2 ⟨xs,H2,I2,r2,q2⟩=>⟨x::xs,H2,I2,.cons r1 r2,q2⟩
variable {g:List Value->List Value->List Value}{gV:List V->List V->List V}
end
structure aK(N P:List Str)(sc:Scope):Prop where
 kind:sc.kind=.function
 co:sc.isCoroutine=false
 gen:sc.isGenerator=false
 nd:N.Nodup
 pre:N.take P.length=P
 par:∀x∈P,sc.names.lookup x=some .local\/sc.names.lookup x=some .cell
 K3:∀y∈sc.names,y.2≠.free
theorem oX{kindOf:Str->Option NameKind}{x:Str}:∀{binds:List (Str×Value)} {m:Str->Option Value},(∀v,(x,v)∉binds)->bindL kindOf binds m x=m x
 |[],_,_=>rfl
 |(n,v)::r,m,h=>by
  unfold bindL
  rw[oX λ w hw=>h w (m3 _ hw)]
  split
  ·have:x≠n:=by rintro rfl;exact h v o8
   simp[this]
  ·rfl
theorem oZ{kindOf:Str->Option NameKind}{x:Str}:∀{binds:List (Str×Value)} {m:Str->Option Value},(∀v,(x,v)∉binds)->bindC kindOf binds m x=m x
 |[],_,_=>rfl
 |(n,v)::r,m,h=>by
  unfold bindC
  rw[oZ λ w hw=>h w (m3 _ hw)]
  split
  ·rfl
  ·have:x≠n:=by rintro rfl;exact h v o8
   simp[this]
theorem oY{kindOf:Str->Option NameKind}{x:Str}{v:Value}:∀{P:List Str} {vs:List Value} {i:Nat} {m:Str->Option Value},P.Nodup->P[i]?=some x->vs[i]?=some v->kindOf x=some .local->
  bindL kindOf (P.zip vs) m x=some v
 |[],_,_,_,_,h,_,_=>by simp at h
 |_::_,[],_,_,_,_,h,_=>by simp at h
 |p::P,w::vs,0,m,nd,h1,h2,hk=>by
  simp at h1 h2;subst h1;subst h2
  show bindL kindOf ((p,w)::P.zip vs) m p=_
  unfold bindL
  rw[oX λ v hv=>(nodup_cons.mp nd).1 (of_mem_zip hv).1,J4 hk]
  simp
 |p::P,w::vs,i+1,m,nd,h1,h2,hk=>by
  show bindL kindOf ((p,w)::P.zip vs) m x=_
  unfold bindL
  exact oY (i:=i) (nodup_cons.mp nd).2 (by simpa using h1) (by simpa using h2) hk
theorem o_{kindOf:Str->Option NameKind}{x:Str}{v:Value}:∀{P:List Str} {vs:List Value} {i:Nat} {m:Str->Option Value},P.Nodup->P[i]?=some x->vs[i]?=some v->kindOf x≠some .local->
  bindC kindOf (P.zip vs) m x=some v
 |[],_,_,_,_,h,_,_=>by simp at h
 |_::_,[],_,_,_,_,h,_=>by simp at h
 |p::P,w::vs,0,m,nd,h1,h2,hk=>by
  simp at h1 h2;subst h1;subst h2
  show bindC kindOf ((p,w)::P.zip vs) m p=_
  unfold bindC
  rw[oZ λ v hv=>(nodup_cons.mp nd).1 (of_mem_zip hv).1,J5 hk]
  simp
 |p::P,w::vs,i+1,m,nd,h1,h2,hk=>by
  show bindC kindOf ((p,w)::P.zip vs) m x=_
  unfold bindC
  exact o_ (i:=i) (nodup_cons.mp nd).2 (by simpa using h1) (by simpa using h2) hk
def start(N:List Str)(vs:List V):St:=vs.map some++List.replicate (N.length - vs.length) none
def tR(CX:Dx)(P:Program)(w:World)(K:PySem.W.Frag)(mg:Str->Option Value)(base:Heap)(N:List Str)(qual:Str)(scope:Scope)(f:Addr)(cd:Value)(A:Around)(outer:List Env)(s:Shared)(H:Hp)(E:XK):Cx where
 prog:=P
 w:=w
 K:=K
 mg:=mg
 base:=base
 A:=A.deeper (envOfC qual scope s.heap.objs.size f cd)
 N:=N
 s₀:=s
 H₀:=H
 env:=envOfC qual scope s.heap.objs.size f cd
 outer:=outer
 stack:=envOfC qual scope s.heap.objs.size f cd::outer
 ex:=[]
 calm:=true
 fn:=λ _=>true
 pn:=[]
 xe:=λ e s'=>wpAny (model P w) (A.deeper (envOfC qual scope s.heap.objs.size f cd)) (leaving (envOfC qual scope s.heap.objs.size f cd) e) (λ _ Nq=>CX outer H s E e Nq) (λ e' Nq=>CX outer H s E e' Nq) s'
theorem t_{sc:Scope}{n:Nat}{x:Str}(h:sc.names.lookup x=some .cell):∃c,(cellsFrom n sc.names []).lookup x=some c:=by
 have q:=PySem.W.cellsFrom_some sc.names n [] (.inl h)
 exact Option.isSome_iff_exists.mp q
theorem za{CX:Dx}{P:Program}{w:World}{K:PySem.W.Frag}{mg:Str->Option Value}{base:Heap}{N ps:List Str}{qual:Str}{scope:Scope}{f:Addr}{cd:Value}{A:Around}{outer:List Env}{s s1:Shared}{H:Hp}{E:XK}{us:List Value}{vs:List V}
  (S:aK N ps scope) (hd:A.handled=none) (e0:qM P w K mg base A outer s H) (hl:vs.length=ps.length) (r:Vals vs us)
  (x:InCallC s s.heap.objs.size (bindL (envOfC qual scope s.heap.objs.size f cd).kindOf (ps.zip us) λ _=>none) (cellsFrom (s.heap.objs.size+1) scope.names []) (bindC (envOfC qual scope s.heap.objs.size f cd).kindOf (ps.zip us) λ _=>none) s1):
  Inv (tR CX P w K mg base N qual scope f cd A outer s H E) [] (start N vs) H s1:=by
 have hpl:ps.length<=N.length:=by have:=J1 List.length S.pre;rw[A0]at this;omega
 obtain⟨h1,tk,rfl,hk⟩:=x.done
 have Ou:∀b:Addr,b∉(tR CX P w K mg base N qual scope f cd A outer s H E).ex:=λ b z=>absurd (show b∈([]:List Addr)from z) (by simp)
 refine⟨⟨e0.mod,S.kind,rfl,rfl,E1 _,λ y z c h1 h2=>?_,λ y hy=>?_,λ y c _ h=>?_,λ _=>hd,Around.frames_deeper e0.frames,.inr ⟨rfl,rfl⟩,λ b z=>absurd z (Ou b),e0.bs,e0.DC,λ b _ _=>Ou b,λ b z=>absurd z (Ou b),e0.kZ,e0.LP⟩,
  rfl,e0.bare,Un.kept hk,⟨_,x.toInCall.ns,λ i y v h1 h2 h3=>?_⟩,λ y c h=>⟨_,x.cell y c h⟩,e0.bN.fresh (E1 _),λ y c h=>?_,λ p hp=>absurd (show p∈([]:List (Addr×Obj))from hp) (by simp),e0.bN.kept hk,?_⟩
 ·exact name_of_addr x.apart (n5 h1) (n5 h2)
 ·have hy:scope.names.lookup y=some .cell\/scope.names.lookup y=some .free:=hy
  rcases hy with hy|hy
  ·exact t_ hy
  ·exact absurd rfl (S.K3 _ (n5 hy))
 ·exact Nat.le_of_lt (x.above y c (n5 h))
 ·have hi:i < vs.length:=by
   unfold start at h2
   by_cases hi:i < vs.length
   ·exact hi
   ·rw[e7 (by simpa using hi)]at h2
    rw[j4]at h2
    split at h2 <;> cases h2
  have ha:vs[i]?=some v:=by
   unfold start at h2
   rw[g9 (by simpa using hi),r9]at h2
   cases e:vs[i]? with
   |none=>rw[e]at h2;cases h2
   |some a=>rw[e]at h2;cases h2;rfl
  obtain⟨u,hu,rv⟩:=r.get ha
  have hp:ps[i]?=some y:=by
   rw[<- S.pre,getElem?_take_of_lt (by omega)];exact h1
  have Um:ps.Nodup:=by rw[<- S.pre];exact S.nd.sublist (take_sublist _ _)
  refine⟨u,rv,?_⟩
  rcases S.par y (m5 hp)with k|k
  ·exact .inl ⟨k,oY Um hp hu k⟩
  ·obtain⟨c,e⟩:=t_ (n:=s.heap.objs.size+1) k
   refine .inr ⟨.inl k,c,e,?_⟩
   have q:=x.cell y c e
   rw[o_ Um hp hu (by show scope.names.lookup y≠_;rw[k];decide)]at q
   exact q
 ·exact e0.bN.fresh (Nat.le_of_lt (x.above y c (n5 h)))
 ·unfold start
  show _=N.length
  rw[p5,B4,l7]
  omega
theorem Pc{CX:Dx}{P:Program}{w:World}{K:PySem.W.Frag}{mg:Str->Option Value}{base:Heap}{k:Nat}{f:Addr}{name qual:Str}{params:Arguments}{body:List Stmt}{scope:Scope}{dV kV doc pm cT ct oc:Value}{an od:Option Addr}
  {HI:Array (Option Value)} {N ps:List Str} {sp:Sp} (lk:K.lookup f=some ⟨oc,od,.func (PySem.W.fnOf name qual params body scope dV kV doc pm an cT ct),HI⟩) (hcd:PySem.W.codeIn K cT qual=true) (S:aK N ps scope)
  (len:∀vs H Q E,sp vs H Q E->vs.length=ps.length)
  (mW:∀(A:Around) (outer:List Env) (s:Shared) (H:Hp) (vs:List V) (Q:VK) (E:XK),cD k (A.deeper (envOfC qual scope s.heap.objs.size f cT))->sp vs H Q E->
   ∃t,uD (tR CX P w K mg base N qual scope f cT A outer s H E) body t/\t {nx:=λ _ H'=>Q .bj H',rt:=Q} (start N vs) H):
  bS P w K mg base CX (k+1) f (PySem.W.fnOf name qual params body scope dV kV doc pm an cT ct) ps sp:=by
 refine⟨len,λ A outer s H args us vs Q E hr e0 hb r zF=>?_⟩
 have hl:=len _ _ _ _ zF
 have KX:K.In s.heap:=e0.mod.QY.keeps λ b o e=>(e0.bs b o e).1
 have lim:s.heap.NoLimit:=e0.mod.nolimit.keeps λ b o e=>(e0.bs b o e).1
 have CA:∀y∈ps.zip us,scope.names.lookup y.1=some .local\/(scope.names.lookup y.1=some .cell/\((cellsFrom (s.heap.objs.size+1) scope.names []).lookup y.1).isSome=true):=λ⟨n,v⟩ hy=>by
  rcases S.par n (of_mem_zip hy).1 with q|q
  ·exact .inl q
  ·exact .inr ⟨q,PySem.W.cellsFrom_some _ _ _ (.inl q)⟩
 refine codeAny_call_function hr.depth (KX _ _ lk) rfl S.co S.gen rfl (PySem.W.codeRec_of KX hcd) (hb _ _ _ _ ?_)
 refine wpAny_newFunctionEnv_cells S.kind CA λ env he s1 x=>?_
 subst he
 refine⟨lim.keeps x.toInCall.keep,codeAny_func ?_⟩
 obtain⟨t,ht,hq⟩:=mW A outer s H vs Q E (hr.deeper _) zF
 have I:Inv (tR CX P w K mg base N qual scope f cT A outer s H E) [] (start N vs) H s1:=za S hr.hd e0 hl r x
 refine G7 (ht [] s1 (start N vs) H _ I hq) (λ fl s' hs=>?_) λ e s' hs=>hs
 have fin:∀{σ':St} {H':Hp} {v:V} {u:Value},Inv (tR CX P w K mg base N qual scope f cT A outer s H E) [] σ' H' s'->RelV v u->Q v H'->CE outer P w H s Q u s':=
  λ{σ' H' v u} J rv q=>⟨v,H',J.os,J.bare,J.base,J.bN,rv,q⟩
 cases fl with
 |ret u=>
  obtain⟨v,σ',H',J,rv,q⟩:=hs
  exact fin J rv q
 |next=>
  obtain⟨σ',H',J,q⟩:=hs
  exact fin (v:=V.bj) (u:=Value.none) J rfl q
 |brk=>
  obtain⟨_,_,_,q⟩:=hs
  exact False.elim q
 |cont=>
  obtain⟨_,_,_,q⟩:=hs
  exact False.elim q
section
variable {X:Cx}{x:Str}{p pos:Pos}{e:Expr}{es:List Expr}{t:TA}{id T:String}{r:List V->Hp->VK->Prop}
def Qb(r:List V->Hp->VK->Prop)(t:TA):TE:=λ σ H Q=>t σ H λ vs H1=>r vs H1 Q
theorem rV(hc:dv X (.builtin id) r)(hg:Gl X x)(hm:X.mg x=none)(hv:bootBuiltins x=some (.builtin id))(ha:PA X (e::es) t)(hn:x≠"__name__":=by decide)(hdb:(x==("__debug__":Str))=false:=by decide)
  (he:starEach (e::es) X.env=(false,eval e X.env)::starEach es X.env:=by rfl) (hpl:(backTo pos (starEach es X.env)).any (·.1)=false:=by rfl):PE X (.Call (.Name x p) (e::es) [] pos) (Qb r t):=by
 intro pins s σ H Q I h
 refine r6 (eZ I hg hm hv ?_ hn hdb)
 exact PyProof.Rows.callWith_builtin1 (cP (ha pos pins s σ H _ I h) λ us s1 ⟨vs,H1,I1,r1,q1⟩=>hc pins s1 σ H1 vs us Q I1 r1 q1) he hpl
theorem oA(hc:dv X (.type T) r)(hg:Gl X x)(hm:X.mg x=none)(hv:bootBuiltins x=some (.type T))(ha:PA X (e::es) t)(hn:x≠"__name__":=by decide)(hdb:(x==("__debug__":Str))=false:=by decide)
  (he:starEach (e::es) X.env=(false,eval e X.env)::starEach es X.env:=by rfl) (hpl:(backTo pos (starEach es X.env)).any (·.1)=false:=by rfl):PE X (.Call (.Name x p) (e::es) [] pos) (Qb r t):=by
 intro pins s σ H Q I h
 refine r6 (eZ I hg hm hv ?_ hn hdb)
 exact c9 (cP (ha pos pins s σ H _ I h) λ us s1 ⟨vs,H1,I1,r1,q1⟩=>hc pins s1 σ H1 vs us Q I1 r1 q1) he hpl
end
end L2
namespace HT
open PySem PyProof.Rows
def lexLt:List Int->List Int->Bool
 |[],[]=>false
 |[],_::_=>true
 |_::_,[]=>false
 |x::xs,y::ys=>if x=y then lexLt xs ys else decide (x < y)
theorem cB(x y:Int)(xs ys:List Int):lexLt (x::xs) (y::ys)=if x=y then lexLt xs ys else decide (x < y):=rfl
theorem dJ:lexLt [] []=false:=rfl
theorem c_(y:Int)(ys:List Int):lexLt [] (y::ys)=true:=rfl
theorem de(x:Int)(xs:List Int):lexLt (x::xs) []=false:=rfl
theorem CL(A:Around)(s:Shared)(a:Int)(t:Tok)(c:Int)(u:Tok):∃e,SeqAt.EqAt A s (.int a t) (.int c u) e/\(e=true↔a=c):=
 ⟨(a==c),SeqAt.EqAt.int_int a t c u,by simp⟩
theorem mH(A:Around)(s:Shared)(a:Int)(t:Tok)(c:Int)(u:Tok)(prog:Program)(w:World)(E:Value->Shared->Prop)(Q:Value->Shared->Prop)(h:Q (.bool (decide (a < c))) s):
  wpAny (model prog w) A (richCompare .Lt (.int a t) (.int c u)) Q E s:=
 (PyProof.Rows.lt_int h:wpAny (model prog w) A (compareOp .Lt (.int a t) (.int c u)) Q E s)
section
open PySem.SeqAt
open PySem.AutoSeq1 (wpAny_loadPart')
open PySem.MeetsSeq PySem.MeetsSeq2 PySem.MeetsSeq3
theorem nJ(l b:Addr)(items e_:Array Value)(n n2:Nat)(dd MS:Option Addr)(sl Mx:Array (Option Value))(ns ms:List Int)(hi:IntsAre items.toList ns)(hj:IntsAre e_.toList ms):
  Meets (Builtin.«tuple.__lt__» ⟨[.ref l,.ref b],[]⟩)
   (λ _ R s=>s.heap.get? l=some {cls:=.type "tuple",dict:=dd,data:=.seq items n,slots:=sl}/\s.heap.get? b=some {cls:=.type "tuple",dict:=MS,data:=.seq e_ n2,slots:=Mx}/\
    R (.ok (.ret (.bool (lexLt ns ms)))) s):=
 .of_wp λ prog w A R s h=>by
  obtain⟨hp,g,d,tk,os⟩:=s;obtain⟨hl,hb,h⟩:=h
  have f2:=AutoSeq1.sub_tuple_tuple
  have z1:items.size=ns.length:=by rw[<- hi.length];simp
  have z2:e_.size=ms.length:=by rw[<- hj.length];simp
  wp_walk using A7 hl,A7 hb,wpAny_forIn_list _ (λ rest b s'=>b.1=none/\s'=⟨hp,g,d,tk,os⟩/\∃(vs ws:List Value) (MA MC:List Int),rest=vs.zip ws/\
   IntsAre vs MA/\IntsAre ws MC/\MA.length+e_.size=MC.length+items.size/\R (.ok (.ret (.bool (lexLt MA MC)))) ⟨hp,g,d,tk,os⟩) _
  case turn=>
   rintro⟨y,x⟩ rest b s' ⟨oN,rfl,vs,ws,MA,MC,hz,SV,Q3,hlen,hR⟩
   cases SV with
   |nil=>rw[zip_nil_left]at hz;cases hz
   |cons a t SU=>
    cases Q3 with
    |nil=>rw[zip_nil_right]at hz;cases hz
    |cons c u SS=>
     rw[zip_cons_cons]at hz
     injection hz with Vv OS
     injection Vv with hy hx
     subst hy hx
     rw[cB]at hR
     simp only[x9]at hlen
     obtain⟨e,he,O0⟩:=CL A.in1 ⟨hp,g,d,tk,os⟩ a t c u
     refine E9 (he prog w _ _ ?_)
     cases e with
     |true=>
      rw[J4 (O0.mp rfl)]at hR
      wp_walk
      exact⟨rfl,rfl,_,_,_,_,OS,SU,SS,by omega,hR⟩
     |false=>
      rw[J5 (λ q=>absurd (O0.mpr q) o9)]at hR
      have VJ:=mH A.in1 ⟨hp,g,d,tk,os⟩ a t c u prog w
      wp_walk using VJ
      exact⟨_,rfl,by simpa using hR⟩
  case fin=>
   rintro⟨b1,b2⟩ s' ⟨oN,rfl,vs,ws,MA,MC,hz,SV,Q3,hlen,hR⟩
   simp only at oN
   subst oN
   have hv:lexLt MA MC=decide (items.size < e_.size):=by
    cases SV with
    |nil=>
     cases Q3 with
     |nil=>
      simp only[length_nil]at hlen
      rw[dJ]
      exact(A6 (by omega)).symm
     |cons c u hw=>
      simp only[length_nil,x9]at hlen
      rw[c_]
      exact(B8 (by omega)).symm
    |cons a t hv=>
     cases Q3 with
     |nil=>
      simp only[length_nil,x9]at hlen
      rw[de]
      exact(A6 (by omega)).symm
     |cons c u hw=>
      rw[zip_cons_cons]at hz
      cases hz
   rw[hv]at hR
   wp_walk
   exact⟨_,rfl,by simpa[Builtin.Tuple.tupleCompareSizes]using hR⟩
  case h=>
   exact⟨rfl,rfl,items.toList,e_.toList,ns,ms,rfl,hi,hj,by omega,h⟩
end
section
variable {prog:Program}{w:World}{A:Around}{E:Value->Shared->Prop}{s:Shared}
theorem vF{l b:Addr}{items e_:Array Value}{ns ms:List Int}{Q:Value->Shared->Prop}(hl:IsTup s.heap l items)(hb:IsTup s.heap b e_)(hi:IntsAre items.toList ns)(hj:IntsAre e_.toList ms)
  (hu:A.units < cLine) (h:Q (.bool (lexLt ns ms)) s):wpAny (model prog w) A (compareOp .Lt (.ref l) (.ref b)) Q E s:=by
 obtain⟨⟨cls,dd,data,sl⟩,ho,hc,n,hd⟩:=id hl
 obtain⟨⟨TZ,MS,data2,Mx⟩,Ly,O6,n2,hd2⟩:=id hb
 simp only at hc hd O6 hd2
 subst hc hd O6 hd2
 exact richCompare_meets_room (op:=.Lt) ⟨_,ho,rfl⟩ ⟨_,Ly,rfl⟩ PySem.F.slot_tuple_lt PySem.F.entry_tuple_lt (PySem.F.args_tuple_lt_2 _ _) (nJ l b items e_ n n2 dd MS sl Mx ns ms hi hj)
  ⟨ho,Ly,show Value.bool (lexLt ns ms)≠Value.notImplemented/\Q (.bool (lexLt ns ms)) s from⟨(λ x=>nomatch x),h⟩⟩ hu
theorem Hb{t b:Addr}{vs ws:List Value}{Q:Value->Shared->Prop}(ht:IsTup s.heap t vs.toArray)(hb:IsTup s.heap b ws.toArray)(hv:vs≠[])
  (h1:ws=[]->Q (.ref t) s) (h2:ws≠[]->Q (.ref s.heap.objs.size) {s with heap:=s.heap.push {cls:=.type "tuple",data:=.seq (vs++ws).toArray}})
  (hsz:vs.length+ws.length<=sizeLine):wpAny (model prog w) A (binaryOp .Add (.ref t) (.ref b)) Q E s:=by
 obtain⟨⟨cls,dd,data,sl⟩,ho,hc,n,hd⟩:=id ht
 obtain⟨⟨TZ,MS,data2,Mx⟩,Ly,O6,n2,hd2⟩:=id hb
 simp only at hc hd O6 hd2
 subst hc hd O6 hd2
 have e:vs.toArray++ws.toArray=(vs++ws).toArray:=by simp
 by_cases hw:ws=[]
 ·exact concat_meets ⟨_,ho,rfl⟩ ⟨_,Ly,rfl⟩ noFill_tuple_add seq_tuple_add PySem.F.slot_tuple_add PySem.F.entry_tuple_add (PySem.F.args_tuple_add_2 _ _)
   (tuple_addW1 t b vs.toArray ws.toArray n n2 dd MS sl Mx (by simpa using hv) (by simp[hw])) ⟨ho,Ly,h1 hw⟩
 ·refine concat_meets ⟨_,ho,rfl⟩ ⟨_,Ly,rfl⟩ noFill_tuple_add seq_tuple_add PySem.F.slot_tuple_add PySem.F.entry_tuple_add (PySem.F.args_tuple_add_2 _ _)
   (tuple_addW2 t b vs.toArray ws.toArray n n2 dd MS sl Mx (by simpa using hv) (by simpa using hw) (by rw[x4,x4];exact hsz)) ⟨ho,Ly,?_⟩
  rw[e]
  exact h2 hw
def bY(n d:Nat):Option Int->Nat
 |none=>d
 |some v=>if v < 0 then(v+(n:Int)).toNat else min v.toNat n
theorem uV(n d:Nat)(hd:d<=n)(o:Option Int):bY n d o<=n:=by
 cases o with
 |none=>exact hd
 |some v=>
  show(if v < 0 then(v+(n:Int)).toNat else min v.toNat n)<=n
  by_cases hv:v < 0
  ·rw[J4 hv];omega
  ·rw[J5 hv];exact Nat.min_le_right _ _
theorem xT(v:Int)(n d:Nat):(if v < 0 then max (v+(n:Int)) 0 else min v (n:Int))=((bY n d (some v):Nat):Int):=by
 show(if v < 0 then max (v+(n:Int)) 0 else min v (n:Int))=(((if v < 0 then(v+(n:Int)).toNat else min v.toNat n):Nat):Int)
 by_cases hv:v < 0
 ·simp only[J4 hv];omega
 ·simp only[J5 hv];omega
theorem wd(lo hi:Option Int)(n:Nat):Builtin.Slice.sliceAdjust lo hi 1 (n:Int)=(((bY n 0 lo:Nat):Int),((bY n n hi:Nat):Int)):=by
 have h1:¬((1:Int) < 0):=by omega
 unfold Builtin.Slice.sliceAdjust
 simp only[h1,H9]
 refine Prod.ext ?_ ?_
 ·cases lo with
  |none=>rfl
  |some v=>exact xT v n 0
 ·cases hi with
  |none=>rfl
  |some v=>exact xT v n n
theorem vf(i j:Nat):Builtin.Slice.slicePlaces (i:Int) (j:Int) 1=j - i:=by
 unfold Builtin.Slice.slicePlaces
 have h1:(1:Int) > 0:=by omega
 simp only[h1,if_true,Int.ediv_one]
 split <;> omega
theorem mw{v:Value}{o:Option Int}{Q:Option Int->Shared->Prop}(p:IsPart v o)(h:Q o s):wpAny (model prog w) A (Builtin.Slice.slicePartIndex v) Q E s:=by
 cases p with
 |none=>exact slicePart_none h
 |int i t=>exact slicePart_int h
theorem fi{sl:Addr}{vl vu:Value}{lo hi:Option Int}{n:Nat}{Q:Int×Int×Nat->Shared->Prop}(hs:s.heap.IsSliceOf sl vl vu .none)(pl:IsPart vl lo)(pu:IsPart vu hi)
  (h:Q (((bY n 0 lo:Nat):Int),1,bY n n hi - bY n 0 lo) s):wpAny (model prog w) A (Builtin.Slice.sliceApplied (.ref sl) (pure (n:Int))) Q E s:=by
 obtain⟨os,qR,Rb,GG⟩:=id hs
 unfold Builtin.Slice.sliceApplied Builtin.Slice.sliceFields
 refine E9 (E9 (E4 qR GG (x:=vl) rfl (E9 (E4 qR GG (x:=vu) rfl (E9 (E4 qR GG (x:=.none) rfl (G0 ?_)))))))
 refine E9 (slicePart_none ?_)
 show wpAny _ _ (if((1:Int)==0)=true then _ else _) _ _ s
 rw[J5 (by decide)]
 refine E9 (mw pl (E9 (mw pu (E9 (G0 ?_)))))
 show wpAny _ _ (match Builtin.Slice.sliceAdjust lo hi 1 (n:Int)with|(lo,hi)=>pure (lo,(1:Int),Builtin.Slice.slicePlaces lo hi 1)) _ _ s
 rw[wd lo hi n]
 show wpAny _ _ (pure (((bY n 0 lo:Nat):Int),(1:Int),Builtin.Slice.slicePlaces ((bY n 0 lo:Nat):Int) ((bY n n hi:Nat):Int) 1)) _ _ s
 rw[vf]
 exact G0 h
theorem Bk(xs:Array Value)(i k:Nat):((List.range k).filterMap λ(m:Nat)=>xs[((i:Int)+(m:Int)*1).toNat]?).toArray=((xs.toList.drop i).take k).toArray:=by
 have e:(λ(m:Nat)=>xs[((i:Int)+(m:Int)*1).toNat]?)=λ m=>xs[i+m]?:=by
  funext m
  have:((i:Int)+(m:Int)*1).toNat=i+m:=by omega
  rw[this]
 rw[e]
 have:=pick_run xs i k
 rw[filterMap_map]at this
 have e2:((λ x=>xs[x]?)∘λ x=>i+x)=λ m=>xs[i+m]?:=rfl
 rw[e2]at this
 rw[this]
theorem jg{t sl:Addr}{items:Array Value}{vl vu:Value}{lo hi:Option Int}{Q:Value->Shared->Prop}(ht:IsTup s.heap t items)(hs:s.heap.IsSliceOf sl vl vu .none)(pl:IsPart vl lo)(pu:IsPart vu hi)
  (hw:¬(bY items.size 0 lo=0/\bY items.size items.size hi=items.size))
  (h:Q (.ref s.heap.objs.size) {s with heap:=s.heap.push {cls:=.type "tuple",data:=.seq ((items.toList.drop (bY items.size 0 lo)).take (bY items.size items.size hi - bY items.size 0 lo)).toArray}})
  (hsz:items.size<=sizeLine):wpAny (model prog w) A (getItem (.ref t) (.ref sl)) Q E s:=by
 have xx:sizeOk (.seq ((items.toList.drop (bY items.size 0 lo)).take (bY items.size items.size hi - bY items.size 0 lo)).toArray):=by
  show((items.toList.drop (bY items.size 0 lo)).take (bY items.size items.size hi - bY items.size 0 lo)).toArray.size<=sizeLine
  rw[x4,A0,y6,n9]
  omega
 have hj:bY items.size items.size hi<=items.size:=uV _ _ (E1 _) hi
 obtain⟨os,qR,Rb,GG⟩:=id hs
 have Tt:s.TypeIs (.ref sl) "slice":=⟨os,qR,Rb⟩
 unfold getItem
 try with_reducible refine C2 ?_
 first|refine E9 (G0 ?_)|skip
 refine E9 (wpAny_sequenceKey ht.typeIs (by decide) ?_)
 refine E9 (j5 (name:=Str.ofString "__getitem__") ht.typeIs a0
  (y9 a0 ht.typeIs entry_tuple_getitem ?_ (args_tuple_getitem _ _)))
 show wpAny _ _ (Builtin.Tuple.tupleItemsOf (.ref t) >>= _) _ _ s
 refine E9 (tupleItemsOf_ ht ?_)
 refine E9 (wpAny_typeOf Tt ?_)
 rw[J4 (by decide)]
 refine E9 (fi hs pl pu ?_)
 have VU:¬((((bY items.size 0 lo:Nat):Int)==0&&(1:Int)==1&&(bY items.size items.size hi - bY items.size 0 lo)==items.size)=true):=by
  intro q
  rw[z9,z9]at q
  have q1:((bY items.size 0 lo:Nat):Int)=0:=eq_of_beq q.1.1
  have q2:bY items.size items.size hi - bY items.size 0 lo=items.size:=eq_of_beq q.2
  exact hw ⟨by omega,by omega⟩
 show wpAny _ _ (if(((bY items.size 0 lo:Nat):Int)==0&&(1:Int)==1&&(bY items.size items.size hi - bY items.size 0 lo)==items.size)=true then _ else _) _ _ s
 rw[J5 VU,Bk]
 first
  |exact E9 (m:=Builtin.Tuple.tupleExact _) (u5 (G0 ⟨_,rfl,G0 h⟩) xx)
  |exact E9 (m:=Builtin.Tuple.tupleExact _) (u5 (E9 (G0 (G0 ⟨_,rfl,G0 h⟩))) xx)
  |exact E9 (E9 (m:=Builtin.Tuple.tupleExact _) (u5 (G0 (G0 ⟨_,rfl,G0 h⟩)) xx))
  |exact E9 (E9 (m:=Builtin.Tuple.tupleExact _) (u5 (G0 ⟨_,rfl,G0 h⟩) xx))
end
end HT
namespace L2
open PySem PySem.Spec PyProof.Rows
abbrev TO:=St->Hp->(Option Int->Hp->Prop)->Prop
def PO(X:Cx)(e:Option Expr)(t:TO):Prop:=
 ∀(pins:List (Addr×Obj)) (s:Shared) (σ:St) (H:Hp) (Q:Option Int->Hp->Prop),Inv X pins σ H s->t σ H Q->
  wpAny (model X.prog X.w) X.A (evalPart e X.env) (λ u s'=>∃o H',Inv X pins σ H' s'/\IsPart u o/\Q o H') X.xe s
def DR:TO:=λ _ H Q=>Q none H
def Nd(t:TE):TO:=λ σ H Q=>t σ H λ x H1=>∃i,x=.int i/\Q (some i) H1
theorem intsAre_of{ns:List Int}:∀{us:List Value},Vals (ns.map V.int) us->IntsAre us ns:=by
 induction ns with
 |nil=>intro us r;rw[map_nil]at r;cases r;exact .nil
 |cons n ns ih=>
  intro us r
  rw[C6]at r
  cases r with
  |cons r1 r2=>
   obtain⟨t,e⟩:=r1
   subst e
   exact .cons n t (ih r2)
section
variable {X:Cx}{e:Expr}{te:TE}{lo hi:Option Expr}{tl th:TO}{pos p2:Pos}
theorem Fo:PO X none DR:=by
 intro pins s σ H Q I h
 rw[evalPart_none]
 exact G0 ⟨none,H,I,.none,h⟩
theorem Fn(h:PE X e te):PO X (some e) (Nd te):=by
 intro pins s σ H Q I hw
 rw[evalPart_some]
 refine cP (h pins s σ H _ I hw) λ u s1 ⟨x,H1,I1,r1,q1⟩=>?_
 obtain⟨i,rfl,q⟩:=q1
 obtain⟨t,rfl⟩:=r1
 exact⟨some i,H1,I1,.int i t,q⟩
def xZ(X:Cx)(r:V->Option Int->Option Int->Hp->VK->Prop):Prop:=
 ∀(pins:List (Addr×Obj)) (s:Shared) (σ:St) (H:Hp) (x:V) (v vl vu:Value) (lo hi:Option Int) (sl:Addr) (Q:VK),Inv X pins σ H s->RelV x v->s.heap.IsSliceOf sl vl vu .none->IsPart vl lo->IsPart vu hi->r x lo hi H Q->
  ∃T id,typeLookup (.type T) "__getitem__"=pure (some (.builtin id))/\s.TypeIs v T/\wpAny (model X.prog X.w) X.A (getItem v (.ref sl)) (EP X pins σ Q) X.xe s
theorem xZ.or {r r':V->Option Int->Option Int->Hp->VK->Prop}(h:xZ X r)(h':xZ X r'):xZ X (λ x lo hi H Q=>r x lo hi H Q\/r' x lo hi H Q):=by
 intro pins s σ H x v vl vu lo hi sl Q I rx hs pl pu q
 rcases q with q|q
 ·exact h pins s σ H x v vl vu lo hi sl Q I rx hs pl pu q
 ·exact h' pins s σ H x v vl vu lo hi sl Q I rx hs pl pu q
def Vd(r:V->Option Int->Option Int->Hp->VK->Prop)(te:TE)(tl th:TO):TE:=λ σ H Q=>te σ H λ x H1=>tl σ H1 λ l H2=>th σ H2 λ u H3=>r x l u H3 Q
theorem Bn{r:V->Option Int->Option Int->Hp->VK->Prop}(hr:xZ X r)(he:PE X e te)(hl:PO X lo tl)(hu:PO X hi th):PE X (.Subscript e (.Slice lo hi none p2) pos) (Vd r te tl th):=by
 intro pins s σ H Q I h
 refine Subscript_ (cP (he pins s σ H _ I h) λ v s1 ⟨x,H1,I1,r1,q1⟩=>?_)
 refine wpAny_Slice (cP (hl pins s1 σ H1 _ I1 q1) λ vl s2 ⟨l,H2,I2,pl,q2⟩=>cP (hu pins s2 σ H2 _ I2 q2) λ vu s3 ⟨u,H3,I3,pu,q3⟩=>?_)
 rw[evalPart_none]
 refine G0 ?_
 have I4:Inv X pins σ H3 {s3 with heap:=s3.heap.push {cls:=.type "slice",data:=.fields #[vl,vu,.none]}}:=I3.kept (t':=s3.toks) λ b ob q=>k4 _ q
 obtain⟨T,id,hT,ht,hg⟩:=hr pins {s3 with heap:=s3.heap.push {cls:=.type "slice",data:=.fields #[vl,vu,.none]}} σ H3 x v vl vu l u s3.heap.objs.size Q I4 r1 (Heap.IsSliceOf.new ..) pl pu q3
 show wpAny (model X.prog X.w) X.A (subscriptTail e (.Slice lo hi none p2) v (.ref s3.heap.objs.size)) (EP X pins σ Q) X.xe {s3 with heap:=s3.heap.push {cls:=.type "slice",data:=.fields #[vl,vu,.none]}}
 exact tail_any (ops:=[.ref s3.heap.objs.size,v]) ht hT hg (by with_unfolding_all rfl)
def tT(xs:List V)(lo hi:Option Int):List V:=(xs.drop (HT.bY xs.length 0 lo)).take (HT.bY xs.length xs.length hi - HT.bY xs.length 0 lo)
theorem kz(xs:List V)(lo hi:Option Int):(tT xs lo hi).length<=xs.length:=by
 unfold tT
 rw[A0,y6]
 omega
def NG(K:PySem.W.Frag):V->Option Int->Option Int->Hp->VK->Prop:=λ x lo hi H Q=>∃a xs,x=.ref a/\fz K H a xs/\
 ¬(HT.bY xs.length 0 lo=0/\HT.bY xs.length xs.length hi=xs.length)/\∀p,H p=none->Q (.ref p) (upd H p (.tup (tT xs lo hi)))
theorem IU:xZ X (NG X.K):=by
 intro pins s σ H x v vl vu lo hi sl Q I rx hs pl pu h
 obtain⟨a,xs,rfl,hx,hw,q⟩:=h
 cases rx
 obtain⟨au,r,ht,hz⟩:=I.tuple hx
 have hlen:au.toArray.size=xs.length:=by rw[x4];exact r.length.symm
 refine⟨"tuple",_,a0.lookup,ht.typeIs,?_⟩
 refine HT.jg ht hs pl pu (by rw[hlen];exact hw) ?_ (by rw[hlen];exact hz)
 rw[hlen]
 refine⟨.ref s.heap.objs.size,_,I.laid (t':=s.toks) (o:=.tup (tT xs lo hi)) (λ b ob q=>k4 _ q) (E1 _) ?_,rfl,q _ (I.bN.fresh (E1 _))⟩
 exact⟨D9 (kz xs lo hi) hz,_,(r.drop (HT.bY xs.length 0 lo)).take (HT.bY xs.length xs.length hi - HT.bY xs.length 0 lo),IsTup.new _ _⟩
def NR(K:PySem.W.Frag):R2:=λ x y H Q=>∃a b xs ys,x=.ref a/\y=.ref b/\fz K H a xs/\fz K H b ys/\xs≠[]/\xs.length+ys.length<=sizeLine/\
 (ys=[]->Q (.ref a) H)/\(ys≠[]->∀p,H p=none->Q (.ref p) (upd H p (.tup (xs++ys))))
theorem Vals.pT {xs:List V}{us:List Value}(r:Vals xs us):us=[]↔xs=[]:=by
 cases r with
 |nil=>simp
 |cons _ _=>simp
theorem FE:fb X (binaryOp .Add) (NR X.K):=by
 intro pins s σ H x y v u Q I rx ry h
 obtain⟨a,b,xs,ys,rfl,rfl,ha,hb,hx,hz,q1,q2⟩:=h
 cases rx
 cases ry
 obtain⟨au,r1,p1,_⟩:=I.tuple ha
 obtain⟨sR,r2,p2,_⟩:=I.tuple hb
 refine HT.Hb p1 p2 (λ z=>hx (r1.pT.mp z)) (λ z=>⟨.ref a,H,I,rfl,q1 (r2.pT.mp z)⟩) (λ z=>?_) (by rw[<- r1.length,<- r2.length];exact hz)
 refine⟨.ref s.heap.objs.size,_,I.laid (t':=s.toks) (o:=.tup (xs++ys)) (λ b ob q=>k4 _ q) (E1 _) ?_,rfl,q2 (λ w=>z (r2.pT.mpr w)) _ (I.bN.fresh (E1 _))⟩
 exact⟨by rw[p5];exact hz,_,r1.append r2,IsTup.new _ _⟩
end
def vH(n:Nat)(i:Int):Option Nat:=if 0<=i then(if i < n then some i.toNat else none)else if -(n:Int)<=i then some (i+n).toNat else none
def gY{α:Type}(xs:List α)(i:Int):Option α:=(vH xs.length i).bind λ j=>xs[j]?
theorem xp{n:Nat}{i:Int}{j:Nat}(h:vH n i=some j):seqIndex? i n=some j/\j < n/\-(n:Int)<=i/\i < n:=by
 unfold vH at h
 by_cases h0:0<=i
 ·rw[J4 h0]at h
  by_cases h1:i < n
  ·rw[J4 h1]at h
   have e:i.toNat=j:=A9 h
   exact⟨by rw[seqIndex_of h0 h1,e],by omega,by omega,h1⟩
  ·rw[J5 h1]at h;cases h
 ·rw[J5 h0]at h
  by_cases h1: -(n:Int)<=i
  ·rw[J4 h1]at h
   have e:(i+n).toNat=j:=A9 h
   exact⟨by rw[seqIndex_neg (by omega) h1,e],by omega,h1,by omega⟩
  ·rw[J5 h1]at h;cases h
theorem qF{α:Type}{xs:List α}{i:Int}{v:α}(h:gY xs i=some v):∃j,seqIndex? i xs.length=some j/\xs[j]?=some v/\j < xs.length/\-(xs.length:Int)<=i/\i < xs.length:=by
 unfold gY at h
 cases e:vH xs.length i with
 |none=>rw[e]at h;cases h
 |some j=>
  rw[e]at h
  obtain⟨h1,h2,h3,h4⟩:=xp e
  exact⟨j,h1,h,h2,h3,h4⟩
theorem cz{α:Type}{xs:List α}{j:Nat}{v:α}(h:xs[j]?=some v):gY xs (j:Int)=some v:=by
 have hj:j < xs.length:=(i5.mp h).1
 have e:vH xs.length (j:Int)=some j:=by
  unfold vH
  rw[J4 (by omega),J4 (by omega)];simp
 unfold gY;rw[e];exact h
def qI(b:Expr):Prop:=∀o i,subscripted b false o i=operate [o,i] (getItem o i)
def wm(X:Cx)(r:R2):Prop:=
 ∀(value slice:Expr) (pins:List (Addr×Obj)) (s:Shared) (σ:St) (H:Hp) (x y:V) (v u:Value) (Q:VK),Inv X pins σ H s->RelV x v->RelV y u->r x y H Q->
  subscripted slice false v u=operate [v,u] (getItem v u)->wpAny (model X.prog X.w) X.A (subscriptTail value slice v u) (EP X pins σ Q) X.xe s
def Ru(X:Cx)(id:String)(r:V->List V->Hp->VK->Prop):Prop:=
 ∀(pins:List (Addr×Obj)) (s:Shared) (σ:St) (H:Hp) (x:V) (xs:List V) (v:Value) (us:List Value) (Q:VK),Inv X pins σ H s->RelV x v->Vals xs us->r x xs H Q->
  wpAny (model X.prog X.w) X.A (call (.builtin id) (v::us)) (EP X pins σ Q) X.xe s
section
variable {X:Cx}{a b:Expr}{ta tb:TE}{pos:Pos}
theorem wm.or {r r':R2}(h:wm X r)(h':wm X r'):wm X (λ x y H Q=>r x y H Q\/r' x y H Q):=by
 intro value slice pins s σ H x y v u Q I rx ry q hs
 rcases q with q|q
 ·exact h value slice pins s σ H x y v u Q I rx ry q hs
 ·exact h' value slice pins s σ H x y v u Q I rx ry q hs
theorem Oa{r:R2}(hr:wm X r)(ha:PE X a ta)(hb:PE X b tb)(hs:qI b):PE X (.Subscript a b pos) (Nf r ta tb):=by
 intro pins s σ H Q I h
 exact Subscript_ (Mk ha hb I h λ v u s2 x y H2 I2 rx ry q=>hr a b pins s2 σ H2 x y v u Q I2 rx ry q (hs _ _))
def NO(K:PySem.W.Frag):R2:=λ x y H Q=>∃p xs i v,x=.ref p/\y=.int i/\du K H p xs/\gY xs i=some v/\Q v H
def NL(K:PySem.W.Frag):R2:=λ x y H Q=>∃p xs i v,x=.ref p/\y=.int i/\fz K H p xs/\gY xs i=some v/\Q v H
def NM:R2:=λ x y H Q=>∃z i c,x=.str z/\y=.int i/\z.length<=sizeLine/\gY z.cps.toList i=some c/\Q (.str ⟨#[c]⟩) H
theorem Gj:wm X (NO X.K):=by
 intro value slice pins s σ H x y v u Q I rx ry h hs
 obtain⟨p,xs,i,z,rfl,rfl,hq,he,q⟩:=h
 cases rx
 obtain⟨t,rfl⟩:=ry
 obtain⟨au,r,pl,hz⟩:=I.list hq
 obtain⟨j,h1,h2,h3,h4,h5⟩:=qF he
 obtain⟨w,ew,uW⟩:=r.get h2
 have hl:=r.length
 have hn:=jL
 have fin:EP X pins σ Q w s:=⟨z,H,I,uW,q⟩
 by_cases h0:0<=i
 ·have hj:i.toNat=j:=by
   rw[seqIndex_of h0 h5]at h1
   exact A9 h1
  exact item_listR pl.isList h0 (by omega) (by rw[hj];simpa using ew) fin hs
 ·have hj:(i+(au.toArray.size:Int)).toNat=j:=by
   rw[seqIndex_neg (by omega) h4]at h1
   rw[x4,<- hl]
   exact A9 h1
  exact subscriptTail_builtinR (x:=w) pl.isList.typeIs slot_list_getitem.lookup
   (wpAny_getItem_list_neg (Q:=λ r s'=>r=w/\EP X pins σ Q r s') pl.isList (by omega) (by rw[x4] <;> omega) (by omega) (by rw[hj];simpa using ew) ⟨rfl,fin⟩) hs
theorem Lo:wm X (NL X.K):=by
 intro value slice pins s σ H x y v u Q I rx ry h hs
 obtain⟨p,xs,i,z,rfl,rfl,hq,he,q⟩:=h
 cases rx
 obtain⟨t,rfl⟩:=ry
 obtain⟨au,r,pl,hz⟩:=I.tuple hq
 obtain⟨j,h1,h2,h3,h4,h5⟩:=qF he
 obtain⟨w,ew,uW⟩:=r.get h2
 have hl:=r.length
 have hn:=jL
 have fin:EP X pins σ Q w s:=⟨z,H,I,uW,q⟩
 exact subscriptTail_builtinR (x:=w) pl.typeIs slot_tuple_getitem.lookup
  (getItem_tuple (j:=j) (Q:=λ r s'=>r=w/\EP X pins σ Q r s') pl (by omega) (by omega) (by rw[x4,<- hl];exact h1) (by simpa using ew) ⟨rfl,fin⟩) hs
theorem Lp:wm X NM:=by
 intro value slice pins s σ H x y v u Q I rx ry h hs
 obtain⟨z,i,c,rfl,rfl,hz,he,q⟩:=h
 obtain⟨t,rfl⟩:=rx
 obtain⟨t',rfl⟩:=ry
 obtain⟨j,h1,h2,h3,h4,h5⟩:=qF he
 have hl:z.cps.toList.length=z.length:=by simp[Str.length]
 rw[hl]at h1 h4 h5
 have hn:=jL
 exact tail_any (typeIs_str s z t) slot_str_getitem.lookup (getItem_str (c:=c) (by
  have e1:decide (i < -(2^63:Int))=false:=A6 (by omega)
  have e2:decide (i ≥ 2^63)=false:=A6 (by omega)
  rw[e1,e2,Bool.or_false]) (by rw[h1];simpa using h2) ⟨.str ⟨#[c]⟩,H,I.tok _,⟨_,rfl⟩,q⟩) hs
def Vk(K:PySem.W.Frag):R2:=λ x y H Q=>NO K x y H Q\/NL K x y H Q\/NM x y H Q
theorem Lq:wm X (Vk X.K):=Gj.or (Lo.or Lp)
theorem vE(au:List Value)(n j:Nat)(u:Value):Obj.mapSeq (·.setIfInBounds j u) {cls:=.type "list",data:=.seq au.toArray n}={cls:=.type "list",data:=.seq (au.set j u).toArray n}:=by
 simp[Obj.mapSeq]
theorem Inv.lst {pins:List (Addr×Obj)}{σ:St}{H:Hp}{s:Shared}{p:Addr}{xs:List V}(I:Inv X pins σ H s)(h:H p=some (.lst xs)):
  ∃(au:List Value) (n:Nat),Vals xs au/\s.heap.get? p=some {cls:=.type "list",data:=.seq au.toArray n}/\xs.length<=sizeLine:=by
 obtain⟨z,au,n,r,e⟩:=I.bN p _ h
 exact⟨au,n,r,e,z⟩
theorem Inv.Ld {pins:List (Addr×Obj)}{σ:St}{H:Hp}{s:Shared}{p:Addr}{xs ys:List V}{au its':List Value}{n n':Nat}{f:Obj->Obj}(I:Inv X pins σ H s)(h:H p=some (.lst xs))
  (ho:s.heap.get? p=some {cls:=.type "list",data:=.seq au.toArray n}) (hf:f {cls:=.type "list",data:=.seq au.toArray n}={cls:=.type "list",data:=.seq its'.toArray n'}) (r:Vals ys its') (hz:ys.length<=sizeLine) (t:Nat):
  Inv X pins σ (upd H p (.lst ys)) {s with heap:=s.heap.update p f,toks:=t}:=by
 have e:(s.heap.update p f).get? p=some {cls:=.type "list",data:=.seq its'.toArray n'}:=by
  rw[k7 f ho (by rw[hf] <;> rfl),hf]
 refine I.write (x:=p) (e:=p) (by rw[h];trivial) (.inl rfl) (λ b u hb q=>(k5 _ _ (J3 hb)).trans q) ⟨_,e⟩ ?_
 exact⟨hz,its',n',r,e⟩
def NI:V->V->V->Hp->(Hp->Prop)->Prop:=λ o i v H Q=>∃p xs k j,o=.ref p/\i=.int k/\H p=some (.lst xs)/\vH xs.length k=some j/\Q (upd H p (.lst (xs.set j v)))
theorem set_list:qJ X NI:=by
 intro pins s σ H o i v ov iv u Q I ro ri rv h
 obtain⟨p,xs,k,j,rfl,rfl,hp,hj,q⟩:=h
 cases ro
 obtain⟨t,rfl⟩:=ri
 obtain⟨au,n,r,ho,hz⟩:=I.lst hp
 obtain⟨h1,h2,h3,h4⟩:=xp hj
 have hl:=r.length
 have hn:=jL
 have I':Inv X pins σ (upd H p (.lst (xs.set j v))) {s with heap:=s.heap.update p (Obj.mapSeq (·.setIfInBounds j u))}:=
  I.Ld hp ho (vE au n j u) (r.set rv j) (by rw[length_set];exact hz) s.toks
 by_cases h0:0<=k
 ·have hk:k.toNat=j:=by
   rw[seqIndex_of h0 h4]at h1
   exact A9 h1
  exact PySem.W.ki_setAt ho h0 (by omega) (by rw[x4,<- hl];exact h4) (by rw[hk];exact⟨_,I',q⟩)
 ·have hk:(k+(au.toArray.size:Int)).toNat=j:=by
   rw[seqIndex_neg (by omega) h3]at h1
   rw[x4,<- hl]
   exact A9 h1
  exact PySem.W.ki_setBack ho (by omega) (by rw[x4,<- hl];exact h3) (by omega) (by rw[hk];exact⟨_,I',q⟩)
theorem iM(lo hi:Option Int)(n:Nat):(sliceBounds lo hi none n).1=((HT.bY n 0 lo:Nat):Int)/\(sliceBounds lo hi none n).2.1=((HT.bY n n hi:Nat):Int)/\(sliceBounds lo hi none n).2.2=1:=by
 refine⟨?_,?_,rfl⟩
 ·cases lo with
  |none=>simp[sliceBounds,HT.bY]
  |some i=>
   simp only[sliceBounds,HT.bY,Option.getD_none,show(1:Int) > 0 by decide,if_true]
   by_cases h:i < 0
   ·simp only[h,if_true] <;> omega
   ·simp only[h,H9] <;> omega
 ·cases hi with
  |none=>simp[sliceBounds,HT.bY]
  |some i=>
   simp only[sliceBounds,HT.bY,Option.getD_none,show(1:Int) > 0 by decide,if_true]
   by_cases h:i < 0
   ·simp only[h,if_true] <;> omega
   ·simp only[h,H9] <;> omega
theorem nK(au:List Value)(lo hi:Option Int):slicePick au.toArray lo hi none=((au.drop (HT.bY au.length 0 lo)).take (HT.bY au.length au.length hi - HT.bY au.length 0 lo)).toArray:=by
 obtain⟨h1,h2,h3⟩:=iM lo hi au.toArray.size
 unfold slicePick
 rw[h1,h2,h3]
 simp only[sliceRange_one,pick_run,x4] <;> rfl
def NH(K:PySem.W.Frag):V->Option Int->Option Int->Hp->VK->Prop:=λ x lo hi H Q=>∃a xs,x=.ref a/\du K H a xs/\∀p,H p=none->Q (.ref p) (upd H p (.lst (tT xs lo hi)))
theorem DY:xZ X (NH X.K):=by
 intro pins s σ H x v vl vu lo hi sl Q I rx hs pl pu h
 obtain⟨a,xs,rfl,hx,q⟩:=h
 cases rx
 obtain⟨au,r,ht,hz⟩:=I.list hx
 have hlen:=r.length
 refine⟨"list",_,slot_list_getitem.lookup,ht.isList.typeIs,?_⟩
 refine wpAny_getItem_list_slice ht.isList hs pl pu .none (by simp) ?_ (by rw[x4] <;> omega)
 rw[nK,<- hlen]
 refine⟨.ref s.heap.objs.size,_,I.laid (t':=s.toks) (o:=.lst (tT xs lo hi)) (λ b ob q=>k4 _ q) (E1 _) ?_,rfl,q _ (I.bN.fresh (E1 _))⟩
 exact⟨D9 (kz xs lo hi) hz,_,0,(r.drop (HT.bY xs.length 0 lo)).take (HT.bY xs.length xs.length hi - HT.bY xs.length 0 lo),o7 _ rfl⟩
def fV:V->Bool
 | .bj=>true
 | .bl _=>true
 | .int _=>true
 | .str _=>true
 |_=>false
def Ig:V->V->Bool
 | .bj,.bj=>true
 | .bl a,.bl b=>a==b
 | .bl a,.int b=>(if a then 1 else 0)==b
 | .int a,.bl b=>a==(if b then 1 else 0)
 | .int a,.int b=>a==b
 | .str a,.str b=>a==b
 |_,_=>false
theorem LR{A:Around}{s:Shared}{y x:V}{u v:Value}(ry:RelV y u)(rx:RelV x v)(fy:fV y=true)(fx:fV x=true):SeqAt.EqAt A s u v (Ig y x):=by
 cases y with
 |bj=>
  cases ry
  cases x with
  |bj=>cases rx;exact SeqAt.EqAt.same _
  |bl b=>cases rx;exact SeqAt.EqAt.none_bool b
  |int b=>obtain⟨t,rfl⟩:=rx;exact SeqAt.EqAt.none_int b t
  |str b=>obtain⟨t,rfl⟩:=rx;exact SeqAt.EqAt.none_str b t
  |_=>exact absurd (show false=true from fx) o9
 |bl a=>
  cases ry
  cases x with
  |bj=>cases rx;exact SeqAt.EqAt.bool_none a
  |bl b=>cases rx;exact SeqAt.EqAt.bool_bool a b
  |int b=>obtain⟨t,rfl⟩:=rx;exact SeqAt.EqAt.bool_int a b t
  |str b=>obtain⟨t,rfl⟩:=rx;exact SeqAt.EqAt.bool_str a b t
  |_=>exact absurd (show false=true from fx) o9
 |int a=>
  obtain⟨t',rfl⟩:=ry
  cases x with
  |bj=>cases rx;exact SeqAt.EqAt.int_none a t'
  |bl b=>cases rx;exact SeqAt.EqAt.int_bool a t' b
  |int b=>obtain⟨t,rfl⟩:=rx;exact SeqAt.EqAt.int_int a t' b t
  |str b=>obtain⟨t,rfl⟩:=rx;exact SeqAt.EqAt.int_str a t' b t
  |_=>exact absurd (show false=true from fx) o9
 |str a=>
  obtain⟨t',rfl⟩:=ry
  cases x with
  |bj=>cases rx;exact SeqAt.EqAt.str_none a t'
  |bl b=>cases rx;exact SeqAt.EqAt.str_bool a t' b
  |int b=>obtain⟨t,rfl⟩:=rx;exact SeqAt.EqAt.str_int a t' b t
  |str b=>obtain⟨t,rfl⟩:=rx;exact SeqAt.EqAt.str_str a t' b t
  |_=>exact absurd (show false=true from fx) o9
 |_=>exact absurd (show false=true from fy) o9
def GQ(x:V)(u:Value):Bool:=match u with
 | .none=>Ig .bj x
 | .bool b=>Ig (.bl b) x
 | .int i _=>Ig (.int i) x
 | .str z _=>Ig (.str z) x
 |_=>false
theorem CK{x y:V}{u:Value}(r:RelV y u)(f:fV y=true):GQ x u=Ig y x:=by
 cases y with
 |bj=>cases r;rfl
 |bl b=>cases r;rfl
 |int i=>obtain⟨t,rfl⟩:=r;rfl
 |str z=>obtain⟨t,rfl⟩:=r;rfl
 |_=>exact absurd (show false=true from f) o9
theorem qG{x:V}:∀{xs:List V} {us:List Value},Vals xs us->xs.all fV=true->us.any (GQ x)=xs.any λ y=>Ig y x
 |_,_,.nil,_=>rfl
 |y::xs,u::us,.cons r t,f=>by
  rw[all_cons,z9]at f
  rw[any_cons,any_cons,CK r f.1,qG t f.2]
theorem mN{A:Around}{s:Shared}{x:V}{v:Value}(rx:RelV x v)(fx:fV x=true):∀{xs:List V} {us:List Value},Vals xs us->xs.all fV=true->∀u∈us,SeqAt.EqAt A s u v (GQ x u)
 |_,_,.nil,_=>λ u hu=>by cases hu
 |y::xs,u::us,.cons r t,f=>λ u' hu=>by
  rw[all_cons,z9]at f
  rcases C7.mp hu with rfl|hu
  ·rw[CK r f.1];exact LR r rx f.1 fx
  ·exact mN rx fx t f.2 u' hu
def HP(x:V)(xs:List V):Bool:=xs.any λ y=>Ig y x
def Vl(K:PySem.W.Frag)(neg:Bool):R2:=λ x y H Q=>∃p xs,y=.ref p/\(du K H p xs\/fz K H p xs)/\fV x=true/\xs.all fV=true/\Q (.bl (if neg then !HP x xs else HP x xs)) H
theorem yK:fb X (compareOp .In) (Vl X.K false):=by
 intro pins s σ H x y v u Q I rx ry h
 obtain⟨p,xs,rfl,hq,fx,fs,q⟩:=h
 cases ry
 rcases hq with hq|hq
 ·obtain⟨au,r,pl,hz⟩:=I.list hq
  refine SeqAt.in_listAt (GQ x) pl.isList (λ w hw=>mN rx fx r fs w (by simpa using hw)) ⟨.bl _,H,I,rfl,?_⟩
  rw[show au.toArray.any (GQ x)=au.any (GQ x) by simp,qG r fs]
  exact q
 ·obtain⟨au,r,pl,hz⟩:=I.tuple hq
  refine SeqAt.in_tupleAt (GQ x) pl (λ w hw=>mN rx fx r fs w (by simpa using hw)) ⟨.bl _,H,I,rfl,?_⟩
  rw[show au.toArray.any (GQ x)=au.any (GQ x) by simp,qG r fs]
  exact q
theorem pO:fb X (compareOp .NotIn) (λ x y H Q=>∃i j,x=.str i/\y=.str j/\Q (.bl (!(!(Builtin.Str.occurrences j i 0 j.length 1).isEmpty))) H):=by
 intro pins s σ H x y v u Q I rx ry h
 obtain⟨i,j,rfl,rfl,q⟩:=h
 obtain⟨t,rfl⟩:=rx
 obtain⟨t',rfl⟩:=ry
 exact notIn_str ⟨.bl _,H,I,rfl,q⟩
theorem qB:dv X (.builtin "len") (λ xs H Q=>∃p ys,xs=[.ref p]/\(du X.K H p ys\/fz X.K H p ys)/\Q (.int ys.length) H):=by
 intro pins s σ H xs us Q I r h
 obtain⟨p,ys,rfl,hq,q⟩:=h
 obtain⟨u,rfl,rx⟩:=vals1 r
 cases rx
 have hn:=jL
 rcases hq with hq|hq
 ·obtain⟨au,r',pl,hz⟩:=I.list hq
  have hlen:=r'.length
  exact Calls.call_len_list pl.isList (by simp only[x4] <;> omega) ⟨.int ys.length,H,I.tok _,⟨s.toks+1,by rw[x4,hlen]⟩,q⟩
 ·obtain⟨au,r',pl,hz⟩:=I.tuple hq
  have hlen:=r'.length
  exact len_tuple pl (by simp only[x4] <;> omega) ⟨.int ys.length,H,I.tok _,⟨s.toks+1,by rw[x4,hlen]⟩,q⟩
theorem qA:dv X (.builtin "len") (λ xs H Q=>∃z,xs=[.str z]/\z.length<=sizeLine/\Q (.int z.length) H):=by
 intro pins s σ H xs us Q I r h
 obtain⟨z,rfl,hz,q⟩:=h
 obtain⟨u,rfl,t,rfl⟩:=vals1 r
 have hn:=jL
 exact len_str (by omega) ⟨.int z.length,H,I.tok _,⟨_,rfl⟩,q⟩
theorem dv.or {f:Value}{r r':List V->Hp->VK->Prop}(h:dv X f r)(h':dv X f r'):dv X f (λ xs H Q=>r xs H Q\/r' xs H Q):=by
 intro pins s σ H xs us Q I rs q
 rcases q with q|q
 ·exact h pins s σ H xs us Q I rs q
 ·exact h' pins s σ H xs us Q I rs q
theorem qz:dv X (.type "list") (λ xs H Q=>∃p ys,xs=[.ref p]/\(du X.K H p ys\/fz X.K H p ys)/\∀l,H l=none->Q (.ref l) (upd H l (.lst ys))):=by
 intro pins s σ H xs us Q I r h
 obtain⟨p,ys,rfl,hq,q⟩:=h
 obtain⟨u,rfl,rx⟩:=vals1 r
 cases rx
 have fin:∀(au:List Value),Vals ys au->ys.length<=sizeLine->∀(h':Heap) (c':Nat),(∀b o',s.heap.get? b=some o'->h'.get? b=some o')->
   h'.get? s.heap.objs.size=some {cls:=.type "list",dict:=none,data:=.seq au.toArray c',slots:=#[]}->EP X pins σ Q (.ref s.heap.objs.size) {s with heap:=h'}:=λ au r' hz h' c' kp e=>
  ⟨.ref s.heap.objs.size,_,I.laid (t':=s.toks) kp (E1 _) (show bL X.prog X.w _ h' _ (.lst ys)from⟨hz,au,c',r',e⟩),rfl,q _ (I.bN.fresh (E1 _))⟩
 rcases hq with hq|hq
 ·obtain⟨au,r',pl,hz⟩:=I.list hq
  have hlen:=r'.length
  obtain⟨o,ho,hc,n,hd⟩:=pl.isList
  exact call_list_seq p (.inl rfl) ho hc hd (λ h' c' kp e=>fin au r' hz h' c' kp e) (by simp only[x4] <;> omega)
 ·obtain⟨au,r',pl,hz⟩:=I.tuple hq
  have hlen:=r'.length
  obtain⟨o,ho,hc,n,hd⟩:=pl
  exact call_list_seq p (.inr rfl) ho hc hd (λ h' c' kp e=>fin au r' hz h' c' kp e) (by simp only[x4] <;> omega)
theorem nU:dv X (.type "tuple") (λ xs H Q=>∃p ys,xs=[.ref p]/\((du X.K H p ys/\∀l,H l=none->Q (.ref l) (upd H l (.tup ys)))\/(fz X.K H p ys/\Q (.ref p) H))):=by
 intro pins s σ H xs us Q I r h
 obtain⟨p,ys,rfl,h⟩:=h
 obtain⟨u,rfl,rx⟩:=vals1 r
 cases rx
 rcases h with⟨hq,q⟩|⟨hq,q⟩
 ·obtain⟨au,r',pl,hz⟩:=I.list hq
  have hlen:=r'.length
  refine call_tuple_list pl.isList (λ h' kp=>?_) (by simp only[x4] <;> omega)
  have I1:Inv X pins σ H {s with heap:=h'}:=I.kept (t':=s.toks) kp
  have I2:Inv X pins σ (upd H h'.objs.size (.tup ys)) {s with heap:=h'.push {cls:=.type "tuple",data:=.seq au.toArray}}:=
   I1.laid (t':=s.toks) (λ b o e=>k4 _ e) (E1 _) (show bL X.prog X.w _ _ _ (.tup ys)from⟨hz,au,r',IsTup.new _ _⟩)
  exact⟨.ref h'.objs.size,_,I2,rfl,q _ (I1.bN.fresh (E1 _))⟩
 ·obtain⟨au,r',pl,hz⟩:=I.tuple hq
  exact call_tuple_same pl ⟨.ref p,H,I,rfl,q⟩
def P_(K:PySem.W.Frag)(T:String)(x:V)(H:Hp):Prop:=match x with
 | .str _=>T="str"
 | .int _=>T="int"
 | .ref p=>(T="list"/\∃xs,du K H p xs)\/(T="tuple"/\∃o,K.lookup p=some o/\o.cls=.type "tuple"/\o.dict=none)\/
   (T="dict"/\((∃kvs,H p=some (.dK kvs))\/∃kvs,H p=some (.dT kvs)))\/(T="set"/\∃S n,H p=some (.set S n))
 |_=>False
theorem zT{pins:List (Addr×Obj)}{σ:St}{H:Hp}{s:Shared}{T:String}{x:V}{v:Value}(I:Inv X pins σ H s)(r:RelV x v)(ty:P_ X.K T x H):
  s.TypeIs v T/\∀a,v=.ref a->∃ob,s.heap.get? a=some ob/\ob.dict=none:=by
 cases x with
 |str z=>
  obtain⟨t,rfl⟩:=r
  cases(show T="str" from ty)
  exact⟨typeIs_str s z t,λ _ e=>nomatch e⟩
 |int i=>
  obtain⟨t,rfl⟩:=r
  cases(show T="int" from ty)
  exact⟨typeIs_int s i t,λ _ e=>nomatch e⟩
 |ref p=>
  cases r
  rcases ty with⟨rfl,xs,hq⟩|⟨rfl,o,hk,hc,hd⟩|⟨rfl,hk⟩|⟨rfl,S,n,hk⟩
  ·obtain⟨au,_,pl,_⟩:=I.list hq
   refine⟨pl.isList.typeIs,λ a e=>?_⟩
   cases e
   obtain⟨o,n,e,c,hd,_⟩:=pl
   exact⟨o,e,hd⟩
  ·refine⟨⟨o,I.nO p o hk,hc⟩,λ a e=>?_⟩
   cases e
   exact⟨o,I.nO _ o hk,hd⟩
  ·have z:∃o,s.heap.get? p=some o/\o.ExactDict:=by
    rcases hk with⟨kvs,hk⟩|⟨kvs,hk⟩
    ·obtain⟨_,_,_,_,o,_,_,e,ex,_⟩:=I.bN p _ hk
     exact⟨o,e,ex⟩
    ·obtain⟨_,_,_,_,o,_,_,e,ex,_⟩:=I.bN p _ hk
     exact⟨o,e,ex⟩
   obtain⟨o,e,ex⟩:=z
   refine⟨⟨o,e,ex.1⟩,λ a e2=>?_⟩
   cases e2
   exact⟨o,e,ex.2.1⟩
  ·obtain⟨o,_,_,_,e,ex,_⟩:=I.bN p _ hk
   refine⟨⟨o,e,ex.1⟩,λ a e2=>?_⟩
   cases e2
   exact⟨o,e,ex.2.1⟩
 |_=>exact False.elim ty
def RO(K:PySem.W.Frag)(T:String)(r:V->List V->Hp->VK->Prop)(to:TE):TE:=λ σ H Q=>to σ H λ x H1=>P_ K T x H1/\r x [] H1 Q
def Vf(K:PySem.W.Frag)(T:String)(r:V->List V->Hp->VK->Prop)(to:TE)(t:TA):TE:=λ σ H Q=>to σ H λ x H1=>P_ K T x H1/\t σ H1 λ xs H2=>r x xs H2 Q
variable {o e:Expr}{es:List Expr}{to:TE}{t:TA}{name:Str}{apos bJ:Pos}{T id:String}{r:V->List V->Hp->VK->Prop}
theorem Ks(pa:PlainAttrs T)(slot:Slot T name id)(hty:typeOf (.builtin id)=pure (.type "method_descriptor"))(hm:Ru X id r)(ho:PE X o to)
  (hbase:attributeBase o name X.env (eval o X.env)=eval o X.env:=by rfl) (hline:(apos.endLine==bJ.line)=true:=by rfl):PE X (.Call (.Attribute o name apos) [] [] bJ) (RO X.K T r to):=by
 intro pins s σ H Q I h
 refine wpAny_Call_method0_late hbase hline (cP (ho pins s σ H _ I h) λ v s1 ⟨x,H1,I1,r1,ty,q1⟩=>?_)
 obtain⟨h1,h2⟩:=zT I1 r1 ty
 exact⟨T,id,pa,slot,hty,h1,h2,Calls.callWith_builtin rfl (PySem.evalArgs_none (hm pins s1 σ H1 x [] v [] Q I1 r1 .nil q1))⟩
theorem HH(pa:PlainAttrs T)(slot:Slot T name id)(hty:typeOf (.builtin id)=pure (.type "method_descriptor"))(hm:Ru X id r)(ho:PE X o to)(ha:PA X (e::es) t)
  (hbase:attributeBase o name X.env (eval o X.env)=eval o X.env:=by rfl)
  (hfew:((backTo bJ (starEach (e::es) X.env)).all (λ x=>!x.1)&&(backToKw bJ (keywordEach [] X.env)).all (λ x=>x.1.isSome)
   &&decide ((e::es).length+([]:List Keyword).length+(if([]:List Keyword).isEmpty then 0 else 1) < 30))=true:=by rfl)
  (hline:(apos.endLine==bJ.line)=true:=by rfl) (hs:starEach (e::es) X.env=(false,eval e X.env)::starEach es X.env:=by rfl) (hplain:(backTo bJ (starEach es X.env)).any (·.1)=false:=by rfl):
  PE X (.Call (.Attribute o name apos) (e::es) [] bJ) (Vf X.K T r to t):=by
 intro pins s σ H Q I h
 refine wpAny_Call_method_late hbase hfew hline rfl (cP (ho pins s σ H _ I h) λ v s1 ⟨x,H1,I1,r1,ty,q1⟩=>?_)
 obtain⟨h1,h2⟩:=zT I1 r1 ty
 refine⟨T,id,pa,slot,hty,h1,h2,?_⟩
 have hA:=ha bJ pins s1 σ H1 _ I1 q1
 rw[hs]at hA ⊢
 refine Calls.callWith_builtin (by show(false||(backTo bJ (starEach es X.env)).any (·.1))=false;rw[hplain] <;> rfl) (Calls.evalArgs_plain ?_)
 exact cP hA λ us s2 ⟨vs,H2,I2,r2,q2⟩=>hm pins s2 σ H2 x vs v us Q I2 r1 r2 q2
end
def DE(X:Cx)(id:String)(r:V->List V->Hp->VK->Prop):Prop:=
 ∀(pins:List (Addr×Obj)) (s:Shared) (σ:St) (H:Hp) (x:V) (xs:List V) (v:Value) (us:List Value) (Q:VK),Inv X pins σ H s->RelV x v->Vals xs us->r x xs H Q->
  wpAny (model X.prog X.w) X.A (call (.builtin id) (v::us)) (EP X pins σ Q) X.xe s
theorem Vals.one:∀{x:V} {us:List Value},Vals [x] us->∃u,us=[u]/\RelV x u
 |_,_,.cons r .nil=>⟨_,rfl,r⟩
theorem Vals.zero:∀{us:List Value},Vals [] us->us=[]
 |_,.nil=>rfl
theorem Vals.dropLast {xs:List V}{us:List Value}(h:Vals xs us):Vals xs.dropLast us.dropLast:=by
 induction h with
 |nil=>exact .nil
 |cons r t ih=>
  cases t with
  |nil=>exact .nil
  |cons q t'=>exact .cons r ih
theorem Vals.eraseIdx:∀{xs:List V} {us:List Value} (i:Nat),Vals xs us->Vals (xs.eraseIdx i) (us.eraseIdx i)
 |_,_,_,.nil=>.nil
 |_,_,0,.cons _ t=>t
 |_,_,i+1,.cons r t=>.cons r (Vals.eraseIdx i t)
theorem Vals.rep {xs:List V}{us:List Value}(h:Vals xs us):∀k:Nat,Vals (List.replicate k xs).flatten (List.replicate k us).flatten
 |0=>.nil
 |k+1=>by
  rw[n6,n6,u6,u6]
  exact Vals.append h (Vals.rep h k)
theorem vQ{α:Type}(l:List α):l.eraseIdx (l.length - 1)=l.dropLast:=by
 induction l with
 |nil=>rfl
 |cons a r ih=>
  cases r with
  |nil=>rfl
  |cons b r=>
   have e:(a::b::r).length - 1=((b::r).length - 1)+1:=by
    have h1:(a::b::r).length=r.length+2:=rfl
    have h2:(b::r).length=r.length+1:=rfl
    omega
   rw[e,eraseIdx_cons_succ,ih]
   all_goals rfl
theorem oG{α:Type}:∀(l:List α) (i:Nat),(l.eraseIdx i).length<=l.length
 |[],_=>E1 _
 |_::_,0=>Nat.le_succ _
 |_::r,i+1=>Nat.succ_le_succ (oG r i)
theorem foldl_rep(au:List Value):∀(k:Nat) (acc:List Value),
  List.foldl (λ x1 x2=>x1++x2) acc.toArray (List.replicate k au.toArray)=(acc++(List.replicate k au).flatten).toArray
 |0,acc=>by simp
 |k+1,acc=>by
  have e:acc.toArray++au.toArray=(acc++au).toArray:=by simp
  have e2:(acc++au)++(List.replicate k au).flatten=acc++(List.replicate (k+1) au).flatten:=by
   rw[n6,u6,u7]
  rw[<- e2,<- foldl_rep au k (acc++au),<- e,n6,foldl_cons]
section
variable {X:Cx}{pins:List (Addr×Obj)}{σ:St}{H:Hp}{s:Shared}{l b:Addr}{xs ys zs:List V}
theorem Inv.BM {au its':List Value}{n:Nat}{f:Array Value->Array Value}{t':Nat}(I:Inv X pins σ H s)(hH:H l=some (.lst xs))
  (e:s.heap.get? l=some {cls:=.type "list",data:=.seq au.toArray n}) (hf:f au.toArray=its'.toArray) (hv:Vals ys its') (hz:ys.length<=sizeLine):
  Inv X pins σ (upd H l (.lst ys)) {s with heap:=s.heap.update l (Obj.mapSeq f),toks:=t'}:=by
 have q:=PySem.IsL.update e f
 rw[hf]at q
 refine I.write (x:=l) (e:=l) (by rw[hH];exact trivial) (.inl rfl) (λ b' u hb hu=>(k5 s.heap (Obj.mapSeq f) (J3 hb)).trans hu) ⟨_,q⟩ ?_
 exact⟨hz,its',_,hv,q⟩
theorem Inv.OD {au:List Value}{t':Nat}(I:Inv X pins σ H s)(hv:Vals ys au)(hz:ys.length<=sizeLine):
  Inv X pins σ (upd H s.heap.objs.size (.lst ys)) {s with heap:=s.heap.push {cls:=.type "list",data:=.seq au.toArray},toks:=t'}:=
 I.laid (λ _ _ q=>k4 _ q) (E1 _) ⟨hz,au,0,hv,o7 _ rfl⟩
theorem Inv.fresh (I:Inv X pins σ H s):H s.heap.objs.size=none:=I.bN.fresh (E1 _)
theorem Inv.pU (I:Inv X pins σ H s)(hH:H l=some (.lst xs)):xs.length<=sizeLine/\∃(au:List Value) (n:Nat),Vals xs au/\xs.length=au.length/\s.heap.get? l=some {cls:=.type "list",data:=.seq au.toArray n}:=by
 obtain⟨z,au,n,r,e⟩:=I.bN l _ hH
 exact⟨z,au,n,r,r.length,e⟩
theorem r_{n:Nat}(h:n<=sizeLine):Builtin.List.listTooLong n=false:=by
 unfold Builtin.List.listTooLong
 exact A6 (by omega)
end
section
variable {X:Cx}
def wR:V->List V->Hp->VK->Prop:=λ x vs H Q=>∃l xs y,x=.ref l/\vs=[y]/\H l=some (.lst xs)/\xs.length < sizeLine/\Q .bj (upd H l (.lst (xs++[y])))
theorem yR:DE X "list.append" wR:=by
 intro pins s σ H x vs v us Q I rx rv h
 obtain⟨l,xs,y,rfl,rfl,hH,hz,q⟩:=h
 cases rx
 obtain⟨u,rfl,ru⟩:=rv.one
 obtain⟨z,au,n,r,hl,e⟩:=I.pU hH
 refine G6 F.slot_list_append ⟨_,e,rfl⟩ F.entry_list_append (F.args_list_append_2 _ _) (PySem.list_append l au.toArray n u (by rw[x4];omega)) ⟨e,?_⟩
 refine⟨.bj,_,I.BM (its':=au++[u]) hH e (by simp) (r.append (.cons ru .nil)) ?_,rfl,q⟩
 rw[p5,k9]
 omega
def wQ:V->List V->Hp->VK->Prop:=λ x vs H Q=>∃l b xs zs,x=.ref l/\vs=[.ref b]/\H l=some (.lst xs)/\H b=some (.lst zs)/\xs.length+zs.length<=sizeLine/\Q .bj (upd H l (.lst (xs++zs)))
theorem yQ:DE X "list.extend" wQ:=by
 intro pins s σ H x vs v us Q I rx rv h
 obtain⟨l,b,xs,zs,rfl,rfl,hH,hB,hz,q⟩:=h
 cases rx
 obtain⟨u,rfl,ru⟩:=rv.one
 cases ru
 obtain⟨z,au,n,r,hl,e⟩:=I.pU hH
 obtain⟨z2,sR,n2,r2,zb,e2⟩:=I.pU hB
 have hsz:au.toArray.size+sR.toArray.size<=sizeLine:=by rw[x4,x4];omega
 have Cz:¬(!au.toArray.isEmpty&&Builtin.List.listTooLong (au.toArray.size+sR.toArray.size))=true:=by
  rw[r_ hsz,Bool.and_false]
  exact o9
 refine G6 F.slot_list_extend ⟨_,e,rfl⟩ F.entry_list_extend (F.args_list_extend_2 _ _)
  (AutoSeq1.list_extend_list_list_0 l au.toArray n b sR.toArray n2 Cz (by rw[x4];omega) (by omega)) ⟨e,e2,?_⟩
 refine⟨.bj,_,I.BM (its':=au++sR) hH e (by simp) (r.append r2) ?_,rfl,q⟩
 rw[p5]
 omega
def Sd:V->List V->Hp->VK->Prop:=λ x vs H Q=>∃l xs y,x=.ref l/\vs=[]/\H l=some (.lst xs)/\xs[xs.length - 1]?=some y/\Q y (upd H l (.lst xs.dropLast))
theorem K4:DE X "list.pop" Sd:=by
 intro pins s σ H x vs v us Q I rx rv h
 obtain⟨l,xs,y,rfl,rfl,hH,hy,q⟩:=h
 cases rx
 have MF:=rv.zero
 subst MF
 obtain⟨z,au,n,r,hl,e⟩:=I.pU hH
 obtain⟨u,hu,ru⟩:=r.get hy
 have SN:au.toArray[au.toArray.size - 1]?=some u:=by
  show au.toArray[au.length - 1]?=some u
  rw[<- l6,<- hl]
  exact hu
 refine G6 F.slot_list_pop ⟨_,e,rfl⟩ F.entry_list_pop (F.args_list_pop_1 _) (MeetsSeq.list_pop_last l au.toArray n u SN (by rw[x4];omega)) ⟨e,?_⟩
 refine⟨y,_,I.BM (its':=au.dropLast) hH e ?_ r.dropLast ?_,ru,q⟩
 ·show au.toArray.eraseIdxIfInBounds (au.toArray.size - 1)=au.dropLast.toArray
  rw[x4,eraseIdxIfInBounds_toArray,vQ]
 ·rw[length_dropLast]
  omega
def JJ:V->List V->Hp->VK->Prop:=λ x vs H Q=>∃l xs i k y,x=.ref l/\vs=[.int i]/\H l=some (.lst xs)/\-(2^63)<=i/\i < 2^63/\seqIndex? i xs.length=some k/\xs[k]?=some y/\Q y (upd H l (.lst (xs.eraseIdx k)))
theorem BC:DE X "list.pop" JJ:=by
 intro pins s σ H x vs v us Q I rx rv h
 obtain⟨l,xs,i,k,y,rfl,rfl,hH,h1,h2,hk,hy,q⟩:=h
 cases rx
 obtain⟨u,rfl,ru⟩:=rv.one
 obtain⟨t,rfl⟩:=ru
 obtain⟨z,au,n,r,hl,e⟩:=I.pU hH
 obtain⟨w,hw,uW⟩:=r.get hy
 refine G6 F.slot_list_pop ⟨_,e,rfl⟩ F.entry_list_pop (F.args_list_pop_2 _ _)
  (MeetsSeq.list_pop_at l au.toArray n i t k w (fitsIndex_both h1 h2) (by rw[x4,<- hl];exact hk) (by rw[<- l6];exact hw) (by rw[x4];omega)) ⟨e,?_⟩
 refine⟨y,_,I.BM (its':=au.eraseIdx k) hH e ?_ (r.eraseIdx k) ?_,uW,q⟩
 ·show au.toArray.eraseIdxIfInBounds k=(au.eraseIdx k).toArray
  rw[eraseIdxIfInBounds_toArray]
 ·have:=oG xs k
  omega
def JK:V->List V->Hp->VK->Prop:=λ x vs H Q=>∃l xs,x=.ref l/\vs=[]/\H l=some (.lst xs)/\Q .bj (upd H l (.lst []))
theorem BD:DE X "list.clear" JK:=by
 intro pins s σ H x vs v us Q I rx rv h
 obtain⟨l,xs,rfl,rfl,hH,q⟩:=h
 cases rx
 have MF:=rv.zero
 subst MF
 obtain⟨z,au,n,r,hl,e⟩:=I.pU hH
 refine G6 F.slot_list_clear ⟨_,e,rfl⟩ F.entry_list_clear (F.args_list_clear_1 _) (AutoSeq1.list_clear_list_0 l au.toArray n (by rw[x4];omega)) ⟨e,?_⟩
 exact⟨.bj,_,I.BM (its':=[]) (ys:=[]) hH e rfl .nil (E3 _),rfl,q⟩
def Sf:R2:=λ x y H Q=>∃l b xs zs,x=.ref l/\y=.ref b/\H l=some (.lst xs)/\H b=some (.lst zs)/\xs.length+zs.length<=sizeLine/\∀p,H p=none->Q (.ref p) (upd H p (.lst (xs++zs)))
theorem KJ:fb X (binaryOp .Add) Sf:=by
 intro pins s σ H x y v u Q I rx ry h
 obtain⟨l,b,xs,zs,rfl,rfl,hH,hB,hz,q⟩:=h
 cases rx
 cases ry
 obtain⟨z,au,n,r,hl,e⟩:=I.pU hH
 obtain⟨z2,sR,n2,r2,zb,e2⟩:=I.pU hB
 refine PySem.P.add_list e e2 ?_ (by rw[x4,x4];omega)
 have ea:au.toArray++sR.toArray=(au++sR).toArray:=by simp
 rw[ea]
 exact⟨.ref _,_,I.OD (t':=s.toks) (r.append r2) (by rw[p5];omega),rfl,q _ I.fresh⟩
def Sb:R2:=λ x y H Q=>∃l k xs,x=.ref l/\y=.int k/\H l=some (.lst xs)/\-(2^63)<=k/\k < 2^63/\xs.length*k.toNat<=sizeLine/\
 ∀p,H p=none->Q (.ref p) (upd H p (.lst (List.replicate k.toNat xs).flatten))
theorem len_rep{α:Type}(xs:List α)(k:Nat):(List.replicate k xs).flatten.length=k*xs.length:=by
 induction k with
 |zero=>simp
 |succ k ih=>rw[n6,u6,p5,ih,Nat.succ_mul,Nat.add_comm]
theorem Kw:fb X (binaryOp .Mult) Sb:=by
 intro pins s σ H x y v u Q I rx ry h
 obtain⟨l,k,xs,rfl,rfl,hH,h1,h2,hz,q⟩:=h
 cases rx
 obtain⟨t,rfl⟩:=ry
 obtain⟨z,au,n,r,hl,e⟩:=I.pU hH
 have hlen:au.toArray.size*k.toNat<=sizeLine:=by rw[x4,<- hl];exact hz
 have Tp:¬au.toArray.size*k.toNat > (2^63 - 1) / 8:=by
  have:(sizeLine:Nat)<=(2^63 - 1) / 8:=by decide
  omega
 have O2:¬(!Builtin.List.listFitsIndex k)=true:=by
  rw[fitsIndex_both h1 h2]
  exact o9
 have Cz:¬Builtin.List.listTooLong (au.toArray.size*k.toNat)=true:=by
  rw[r_ hlen]
  exact o9
 have LB:List.foldl (λ x1 x2=>x1++x2) #[] (List.replicate (if au.toArray.isEmpty=true then 0 else k.toNat) au.toArray)=(List.replicate k.toNat au).flatten.toArray:=by
  have f0:∀m:Nat,List.foldl (λ x1 x2=>x1++x2) #[] (List.replicate m au.toArray)=(List.replicate m au).flatten.toArray:=λ m=>by
   have:=foldl_rep au m []
   rw[A4]at this
   exact this
  rw[f0]
  cases au with
  |nil=>simp
  |cons a r'=>rw[J5 (by simp)]
 refine wpAny_binaryOp_repeat_ref (T:="list") (U:="int") (by decide) ⟨_,e,rfl⟩ (λ s'=>typeIs_int s' k t) noFill_list_mul F.fills_int_mul F.slot_int_rmul repeat_list F.slot_int_index.lookup
  (G6 F.slot_int_rmul (typeIs_int s k t) F.entry_int_rmul (F.args_int_rmul_2 _ _) (int___rmul___int_list k t l au.toArray n)
   ⟨e,rfl,⟨_,e,rfl⟩,G6 F.slot_list_mul ⟨_,e,rfl⟩ F.entry_list_mul (F.args_list_mul_2 _ _) (AutoListH.list___mul___list_int_3 l au.toArray n k t O2 Tp Cz) ⟨e,?_⟩⟩)
 rw[LB]
 exact⟨.ref _,_,I.OD (t':=s.toks) (r.rep k.toNat) (by rw[len_rep,Nat.mul_comm];exact hz),rfl,q _ I.fresh⟩
end
section
variable {prog:Program}{w:World}{A:Around}{E:Value->Shared->Prop}{s:Shared}
set_option maxRecDepth 100000 in
end
end L2
namespace U7
open PySem PySem.W PySem.Calls PyProof.Rows
theorem kX{P:Params}{h:Heap}:∀(ns:List Int) (vs:List Value),WellAll P h vs (ns.map WData.int)->IntsAre vs ns:=by
 intro ns
 induction ns with
 |nil=>
  intro vs w
  rw[map_nil]at w
  cases w
  exact .nil
 |cons n ns ih=>
  intro vs w
  rw[C6]at w
  cases w with
  |cons a b=>
   cases a
   exact .cons _ _ (ih _ b)
theorem yw{l:OpenLaw}{n:Nat}(hn:l.most=some n){P:Params}{h:Heap}{args:List WData}{vals:List Value}
  (GA:l.row.toRowW.claim.pre args=true) (OL:WellAll P h vals args):
  ∃a vs ns,vals=[Value.ref a]/\args=[WData.list (ns.map WData.int)]/\h.get? a=some {cls:=.type "list",data:=.seq vs.toArray}/\IntsAre vs ns/\ns.length<=n:=by
 have VG:WShape.hasAll [] args [.list .int]=true:=(pre_splitW GA).1
 have hc:l.pre.holds [] {args:=args}=true:=(pre_splitW GA).2
 obtain⟨d,r,rfl,h1,h2⟩:=hasAllW_cons VG
 obtain rfl:=hasAllW_nil h2
 obtain⟨xs,rfl,h3⟩:=hasW_list h1
 obtain⟨ns,rfl⟩:=items_int h3
 have hlen:ns.length<=n:=by
  unfold OpenLaw.pre at hc
  have h4:(WTm.not (.lt (.lit (.int (n:Int))) (.len (.arg 0)))).holds [] {args:=[.list (ns.map .int)]}=true:=by
   have h4:=(holds_andW hc).1
   rw[hn]at h4
   exact h4
  have h5:=condW_of h4 (w_not (w_lt w_lit (w_len_list (w_arg rfl))))
  rw[B4]at h5
  refine x8 λ q=>?_
  have q':(n:Int) < ((ns.length:Nat):Int):=by omega
  first
   |(rw[B8 q']at h5;exact absurd h5 (by decide))
   |(simp at h5;omega)
 cases OL with
 |cons w1 w2=>
  cases w2
  cases w1 with
  |list ho Tr=>exact⟨_,_,ns,rfl,rfl,ho,kX ns _ Tr,hlen⟩
theorem yF(l:OpenLaw)(args:List WData):l.row.toRowW.claim.post args (.bool true) args=true:=
 postW_of (r:=l.row.toRowW) (X:=(true==true))
  (show WShape.has [] (.bool true) .bool=true by first|rfl|decide|simp[WShape.has,WShape.arms,WShape.armsAll])
  (show(WTm.eq .res (.lit (.bool true))).value [] {args:=args,res:=some (.bool true),after:=args}=some (.bool (true==true))from w_eq_bool (w_res rfl) w_lit) rfl
theorem ui{l:OpenLaw}{n:Nat}{q:Program}{loose:List Str}{XP:(Str->Option Value)->Heap->Prop}{YP:World->Heap->Prop}{d:DefRec}
  (hn:l.most=some n) (sZ:d.params.defaults=[])
  (call:∀(w:World) (s₀ s₁:Shared) (mg mb:Str->Option Value) (fa:Addr) (o:Obj) (pm cd doc:Value) (a:Addr) (vs:List Value) (ns:List Int),
   Ground q loose [] XP w s₀ mg mb s₁.heap->YP w s₁.heap->
   s₁.heap.get? fa=some o->o.data=.func (docDef d.name d.params d.body d.scope pm cd doc)->s₁.heap.CodeRec cd d.name->mg d.name=some (.ref fa)->
   s₁.heap.get? a=some {cls:=.type "list",data:=.seq vs.toArray}->IntsAre vs ns->ns.length<=n->s₁.gens=#[]->
   codeAny (model l.prog w) callerA (.call (.ref fa) ⟨[.ref a],[]⟩) (λ r s'=>r=.ok (.ret (.bool true))/\OldK s₁.heap s'.heap/\s'.os=s₁.os/\AllBare s'.gens) s₁):
  WalkO q loose XP YP l.row.toRowW d [] (λ f vs=>PySem.call f vs):=by
 intro w s₀ s₁ mg mb G Y fa o pm cd doc dV kV ho hd hcd hD OU hg args vals as GA V4 XJ OL OX
 obtain rfl:dV=.none:=Dflts.none hD sZ
 obtain rfl:kV=.none:=Dflts.noKw hD
 obtain⟨a,vs,ns,rfl,rfl,Cw,hints,hlen⟩:=yw hn GA OL
 refine enter_call (codeAny_mono (call w s₀ s₁ mg mb fa o pm cd doc a vs ns G Y ho (fd_plain hd) hcd OU Cw hints hlen hg) λ r s' hq=>?_)
 obtain⟨rfl,h2,h3,h4⟩:=hq
 exact⟨.inl ⟨.bool true,.bool true,[],rfl,λ _=>rfl,.bool true,yF l _,λ _=>⟨List.Pairwise.nil,λ _ hm=>(nomatch hm)⟩⟩,h2,h3,h4⟩
end U7
namespace L2
open PySem PySem.Spec PyProof.Rows
theorem oj:∀{vs:List Value} {ns:List Int},IntsAre vs ns->Vals (ns.map V.int) vs
 |_,_,.nil=>.nil
 |_,_,.cons n t h=>.cons ⟨t,rfl⟩ (oj h)
def Hj(H:Hp):Prop:=∀b,H b=none\/∃o xs,H b=some (.mY o (.lst xs))
theorem BU{P:Program}{w:World}{K:PySem.W.Frag}{mg mb:Str->Option Value}{CX:Dx}{k:Nat}{fa a:Addr}{fd:FuncData}{x:Str}{sp:Sp}{s₁:Shared}{vs:List Value}{ns:List Int}
  (KX:K.In s₁.heap) (Ta:s₁.heap.Ns mainGlobals mg) (hb:s₁.heap.Ns builtinsNs mb) (Wb:∀x:Str,x≠"__name__"->mb x=bootBuiltins x) (Tf:s₁.heap.NoLimit) (hg:s₁.gens=#[])
  (ha:s₁.heap.get? a=some {cls:=.type "list",data:=.seq vs.toArray}) (hi:IntsAre vs ns) (hl:ns.length<=sizeLine) (hr:cD k callerA)
  (F:∀base:Heap,K.In base->base.Ns mainGlobals mg->bS P w K mg base CX k fa fd [x] sp) (O7:∀(s:Shared) (u:Value),BindsTo s fd ⟨[u],[]⟩ [(x,u)])
  (zF:∀H:Hp,Hj H->du K H a (ns.map V.int)->sp [.ref a] H (λ v _=>v=.bl true) λ _ _ _=>False)
  (TH:∀H e s',CX [] H s₁ (λ _ _ _=>False) e s'->False):
  codeAny (model P w) callerA (.call (.ref fa) ⟨[.ref a],[]⟩) (λ r s'=>r=.ok (.ret (.bool true))/\OldK s₁.heap s'.heap/\s'.os=s₁.os/\AllBare s'.gens) s₁:=by
 have rv:=oj hi
 have SE:=hi.length
 have core:∀H:Hp,Hj H->du K H a (ns.map V.int)->iD P w H s₁.heap->(∀b,H b≠none->b=a)->(H a≠none->K.lookup a=none)->
   codeAny (model P w) callerA (.call (.ref fa) ⟨[.ref a],[]⟩) (λ r s'=>r=.ok (.ret (.bool true))/\OldK s₁.heap s'.heap/\s'.os=s₁.os/\AllBare s'.gens) s₁:=by
  intro H hO hS bN hA hK
  have xX:∀{b:Addr} {o:Obj},s₁.heap.get? b=some o->H b=none->(ql s₁.heap H).get? b=some o:=λ e n=>CC e n
  have Ou:∀{b:Addr} {o:Obj} {es:Array DictEntry} {ep:Nat},s₁.heap.get? b=some o->o.data=.dict es ep->H b=none:=λ{b o es ep} e d=>by
   cases q:H b with
   |none=>rfl
   |some u=>
    have e':b=a:=hA b (by rw[q];simp)
    subst e'
    rw[ha]at e;cases e
    have d':Data.seq vs.toArray _=Data.dict es ep:=d
    cases d'
  have QN:∀{b:Addr} {m:Str->Option Value},s₁.heap.Ns b m->(ql s₁.heap H).Ns b m:=λ{b m} ⟨o,es,ep,e,d,r⟩=>⟨o,es,ep,xX e (Ou e d),d,r⟩
  have UP:K.In (ql s₁.heap H):=λ b o e=>xX (KX b o e) (by
   cases q:H b with
   |none=>rfl
   |some u=>
    have e':b=a:=hA b (by rw[q];simp)
    subst e'
    rw[hK (by rw[q];simp)]at e;cases e)
  have hM:Mod K mg (ql s₁.heap H):=⟨UP,QN Ta,⟨mb,QN hb,Wb⟩,let⟨mc,h1,h2⟩:=Tf;⟨mc,QN h1,h2⟩⟩
  have e0:qM P w K mg (ql s₁.heap H) callerA [] s₁ H:=⟨rfl,hM,λ b o e=>FU e,Nat.le_of_eq (zc _ _),trivial,λ b hb=>absurd (show b∈([]:List Addr)from hb) (by simp),bN,.of_eq hg⟩
  refine codeAny_mono ((F _ UP (QN Ta)).run callerA [] s₁ H ⟨[.ref a],[]⟩ [.ref a] [.ref a] _ _ hr e0 (O7 s₁ (.ref a)) (.cons rfl .nil) (zF H hO hS)) λ r s' h=>?_
  cases r with
  |error e=>exact(TH H e s' h).elim
  |ok fl=>
   cases fl with
   |next=>exact False.elim h
   |brk=>exact False.elim h
   |cont=>exact False.elim h
   |ret u=>
    obtain⟨v,H',os,bare,un,S_,r',q⟩:=h
    have q':v=.bl true:=q
    subst q'
    obtain rfl:u=Value.bool true:=r'
    refine⟨rfl,OldK.of_keep λ b o e=>?_,os,bare⟩
    cases q:H b with
    |none=>exact un.keep b o e q (by intro z;exact absurd (show b∈([]:List Addr)from z) (by simp)) (by simp)
    |some u=>
     rcases hO b with z|⟨ob,xs,z⟩
     ·rw[q]at z;cases z
     ·have z2:=un.nP b ob _ z
      obtain⟨e1,_⟩:=bN b _ z
      obtain⟨e2,_⟩:=S_ b _ z2
      rw[e]at e1;cases e1
      exact e2
 cases hk:K.lookup a with
 |some o=>
  have e:=KX a o hk
  rw[ha]at e
  cases e
  refine core (λ _=>none) (λ _=>.inl rfl) (.inr ⟨_,vs.toArray,_,hk,rfl,rfl,rfl,by rw[x4,SE];exact hl,by simpa using rv⟩) (λ b u z=>by have z':(none:Option HO)=some u:=z;cases z') (λ b z=>absurd rfl z) λ z=>absurd rfl z
 |none=>
  refine core (λ b=>if b=a then some (.mY {cls:=.type "list",data:=.seq vs.toArray} (.lst (ns.map V.int)))else none) (λ b=>?_) (.inl (.inr ⟨{cls:=.type "list",data:=.seq vs.toArray},J4 rfl⟩)) (λ b u z=>?_) (λ b z=>?_) λ _=>hk
  ·by_cases hb:b=a
   ·exact .inr ⟨_,_,J4 hb⟩
   ·exact .inl (J5 hb)
  ·by_cases hb:b=a
   ·have z':=(J4 hb).symm.trans z
    cases z'
    subst hb
    exact⟨ha,by rw[B4];exact hl,vs,_,rv,ha⟩
   ·have z':=(J5 hb).symm.trans z
    cases z'
  ·by_cases hb:b=a
   ·exact hb
   ·exact absurd (J5 hb) z
theorem DJ{l:PySem.W.OpenLaw}{n k:Nat}{q:Program}{loose:List Str}{XP:(Str->Option Value)->Heap->Prop}{YP:World->Heap->Prop}{d:DefRec}{K:Params->PySem.W.Frag}{CX:World->Dx}{sp:World->Sp}{x:Str}
  (hn:l.most=some n) (VW:n<=sizeLine) (sZ:d.params.defaults=[]) (hr:cD k callerA)
  (hY:∀(w:World) (h:Heap),YP w h->(K w.params).In h)
  (F:∀(w:World) (mg:Str->Option Value) (fa:Addr) (h:Heap),(K w.params).In h->h.Ns mainGlobals mg->mg d.name=some (.ref fa)->
   ∃fd:FuncData,(∀(s:Shared) (u:Value),BindsTo s fd ⟨[u],[]⟩ [(x,u)])/\
    ∀base:Heap,(K w.params).In base->base.Ns mainGlobals mg->bS l.prog w (K w.params) mg base (CX w) k fa fd [x] (sp w))
  (zF:∀(w:World) (H:Hp) (a:Addr) (ns:List Int),ns.length<=n->Hj H->du (K w.params) H a (ns.map V.int)->sp w [.ref a] H (λ v _=>v=.bl true) λ _ _ _=>False)
  (TH:∀(w:World) (H:Hp) (s:Shared) (e:Value) (s':Shared),CX w [] H s (λ _ _ _=>False) e s'->False):
  PySem.W.WalkO q loose XP YP l.row.toRowW d [] (λ f vs=>PySem.call f vs):=by
 refine U7.ui hn sZ λ w s₀ s₁ mg mb fa o pm cd doc a vs ns G Y ho hd hcd OU Cw hints hlen hg=>?_
 have KX:=hY w _ Y
 obtain⟨fd,hb,hF⟩:=F w mg fa _ KX G.T.g OU
 exact BU KX G.T.g G.T.b G.T.builtins G.T.nolimit hg Cw hints (D9 hlen VW) hr hF hb (λ H hO hS=>zF w H a ns hlen hO hS) λ H e s'=>TH w H s₁ e s'
def eS(s:Stmt):Arguments:=match s with
 | .FunctionDef _ a _ _ _ _ _ _ _ _=>a
 |_=>{posonlyargs:=[],args:=[],vararg:=none,kwonlyargs:=[],kw_defaults:=[],kwarg:=none,defaults:=[]}
def dh(s:Stmt):List Stmt:=match s with
 | .FunctionDef _ _ b _ _ _ _ _ _ _=>b
 |_=>[]
def ay(s:Stmt):Scope:=match s with
 | .FunctionDef _ _ _ _ _ _ sc _ _ _=>sc
 |_=>{kind:=.function,names:=[],isGenerator:=false,isCoroutine:=false}
abbrev fc:Dx:=λ _ _ _ _ _ _=>False
abbrev E0:XK:=λ _ _ _=>False
theorem Oc{X:Cx}:Passes fc X E0:=λ _ _ _ _ _ _ _ h=>h.elim
structure gb(K:PySem.W.Frag)(x qual:Str)(st:Stmt)(f:Addr)(fd:FuncData):Prop where
 ex:∃(oc:Value) (od:Option Addr) (kV doc pm:Value) (an:Option Addr) (cT ct:Value) (HI:Array (Option Value)),
  fd=PySem.W.fnOf x qual (eS st) (dh st) (ay st) .none kV doc pm an cT ct/\K.lookup f=some ⟨oc,od,.func fd,HI⟩/\PySem.W.codeIn K cT qual=true
 kp:PySem.W.keepIn K (.ref f)=true
section
variable {P:Program}{w:World}{K:PySem.W.Frag}{mg:Str->Option Value}{base:Heap}
theorem gb.ok {x qual:Str}{st:Stmt}{f:Addr}{fd:FuncData}{N ps:List Str}{k:Nat}{sp:Sp}(F:gb K x qual st f fd)(S:aK N ps (ay st))(len:∀vs H Q E,sp vs H Q E->vs.length=ps.length)
  (mW:∀(cT:Value) (A:Around) (outer:List Env) (s:Shared) (H:Hp) (vs:List V) (Q:VK) (E:XK),cD k (A.deeper (envOfC qual (ay st) s.heap.objs.size f cT))->sp vs H Q E->
   ∃t,uD (tR fc P w K mg base N qual (ay st) f cT A outer s H E).MB (dh st) t/\t {nx:=λ _ H'=>Q .bj H',rt:=Q} (start N vs) H):bS P w K mg base fc (k+1) f fd ps sp:=by
 obtain⟨oc,od,kV,doc,pm,an,cT,ct,HI,rfl,lk,hcd⟩:=F.ex
 refine Pc lk hcd S len λ A outer s H vs Q E hr zF=>?_
 obtain⟨t,h,q⟩:=mW cT A outer s H vs Q E hr zF
 exact⟨t,h.MB,q⟩
theorem gb.binds {x qual:Str}{st:Stmt}{f:Addr}{fd:FuncData}{ps:List Str}(F:gb K x qual st f fd)
  (h:∀(kV doc pm:Value) (an:Option Addr) (cT ct:Value) (us:List Value),us.length=ps.length->bindArgs (PySem.W.fnOf x qual (eS st) (dh st) (ay st) .none kV doc pm an cT ct) ⟨us,[]⟩=pure (ps.zip us)):Binds K fd ps []:=by
 obtain⟨oc,od,kV,doc,pm,an,cT,ct,HI,rfl,lk,hcd⟩:=F.ex
 exact .all (h kV doc pm an cT ct)
theorem LO{x qual:Str}{st:Stmt}{f:Addr}{oc:Value}{od an:Option Addr}{HI:Array (Option Value)}{kV doc pm cT ct:Value}(l:K.lookup f=some ⟨oc,od,.func (PySem.W.fnOf x qual (eS st) (dh st) (ay st) .none kV doc pm an cT ct),HI⟩)
  (c:PySem.W.codeIn K cT qual=true) (k:PySem.W.keepIn K (.ref f)=true):gb K x qual st f (PySem.W.fnOf x qual (eS st) (dh st) (ay st) .none kV doc pm an cT ct):=⟨⟨oc,od,kV,doc,pm,an,cT,ct,HI,rfl,l,c⟩,k⟩
end
end L2
namespace L2
open PySem PySem.Spec PyProof.Rows
section
variable {X:Cx}{pins:List (Addr×Obj)}{σ:St}{H:Hp}{s:Shared}
theorem Inv.oq {D:Addr}{o:HO}(I:Inv X pins σ H s)(hn:H D=none)(new:bL X.prog X.w (upd H D o) s.heap D o)
  (hL:D≠X.env.locals) (hs:X.s₀.heap.objs.size<=D) (hc:∀x c,X.env.cells.lookup x=some c->c≠D) (hp:∀p∈X.pn++pins,p.1≠D):Inv X pins σ (upd H D o) s:=by
 have ne:∀{b:Addr} {u:HO},H b=some u->b≠D:=λ e=>ck e hn
 have nb:∀(b:Addr) (ob:Obj),X.s₀.heap.get? b=some ob->b≠D:=λ b ob e=>D1 (q8 (D3 e) hs)
 refine⟨I.ok,I.os,I.bare,⟨I.base.keep,I.base.slot,λ b ob e n hx=>?_,I.base.there,λ b xs e=>?_,λ b ob u e=>?_,λ b ps e=>?_⟩,I.loc,I.cell,?_,λ x c e=>?_,λ p UB=>?_,λ b u e=>?_,I.len⟩
 ·rw[aP (nb b ob e)];exact I.base.free b ob e n hx
 ·have q:=I.base.pb b xs e;rw[aP (ne q)];exact q
 ·have q:=I.base.nP b ob u e;rw[aP (ne q)];exact q
 ·obtain⟨m,q⟩:=I.base.pf b ps e;exact⟨m,by rw[aP (ne q)];exact q⟩
 ·rw[aP (J3 hL)];exact I.free
 ·rw[aP (hc x c e)];exact I.fU x c e
 ·obtain⟨e,n,r⟩:=I.pin p UB;exact⟨e,by rw[aP (hp p UB)];exact n,r⟩
 ·by_cases hb:b=D
  ·subst hb;rw[br]at e;cases e;exact new
  ·rw[aP hb]at e
   exact(I.bN b u e).kM (λ c v _ q=>q) (λ c q=>by rw[aP (ne q)];exact q) λ c xs q=>by rw[aP (ne q)];exact q
end
def bU(cells:List (Str×Addr)):List (Str×NameKind)->List (Str×Addr)->List (Str×Addr)
 |[],acc=>acc
 |(n,k)::r,acc=>if(k==.free)=true then bU cells r ((n,(cells.lookup n).getD 0)::acc)else bU cells r acc
theorem eG{cells:List (Str×Addr)}:∀(names:List (Str×NameKind)) (acc:List (Str×Addr)),(∀n,(n,NameKind.free)∈names->∃c,cells.lookup n=some c)->
  (∀x c,acc.lookup x=some c->cells.lookup x=some c)->∀x c,(bU cells names acc).lookup x=some c->cells.lookup x=some c
 |[],acc,_,h,x,c,e=>h x c e
 |(n,k)::r,acc,hc,h,x,c,e=>by
  unfold bU at e
  by_cases hk:(k==NameKind.free)=true
  ·rw[J4 hk]at e
   refine eG r _ (λ m hm=>hc m (m3 _ hm)) (λ y d q=>?_) x c e
   have nG:k=NameKind.free:=by simpa using hk
   obtain⟨c0,e0⟩:=hc n (by rw[nG];exact o8)
   rw[x6]at q
   cases hy:(y==n)with
   |true=>
    rw[hy]at q
    have yn:y=n:=by simpa using hy
    subst yn
    rw[e0]at q
    rw[e0];exact q
   |false=>rw[hy]at q;exact h y d q
  ·rw[J5 hk]at e
   exact eG r _ (λ m hm=>hc m (m3 _ hm)) h x c e
theorem gN{cells:List (Str×Addr)}{x:Str}:∀(names:List (Str×NameKind)) (acc:List (Str×Addr)),((acc.lookup x).isSome=true)->((bU cells names acc).lookup x).isSome=true
 |[],acc,h=>h
 |(n,k)::r,acc,h=>by
  unfold bU
  split
  ·refine gN r _ ?_
   rw[x6]
   cases hy:(x==n)with
   |true=>rfl
   |false=>exact h
  ·exact gN r _ h
theorem gW{cells:List (Str×Addr)}{x:Str}:∀(names:List (Str×NameKind)) (acc:List (Str×Addr)),(x,NameKind.free)∈names->((bU cells names acc).lookup x).isSome=true
 |[],acc,h=>absurd h (by simp)
 |(n,k)::r,acc,h=>by
  unfold bU
  rcases C7.mp h with e|h
  ·cases e
   rw[J4 (by decide)]
   refine gN r _ ?_
   rw[x6]
   simp
  ·split
   ·exact gW r _ h
   ·exact gW r _ h
theorem fv{scope:Scope}{env:Env}(hc:∀n,(n,NameKind.free)∈scope.names->∃c,env.cells.lookup n=some c):closureFor scope env=pure (bU env.cells scope.names []):=by
 unfold closureFor
 have all:∀(names:List (Str×NameKind)) (acc:List (Str×Addr)),(∀n,(n,NameKind.free)∈names->∃c,env.cells.lookup n=some c)->
   (forIn names acc (λ(x:Str×NameKind) (cs:List (Str×Addr))=>(match x with|(name,kind)=>if(kind==.free)=true then(do let c <- cellOf env name;pure (ForInStep.yield ((name,c)::cs)))else pure (ForInStep.yield cs):Sem (ForInStep (List (Str×Addr))))))=(pure (bU env.cells names acc):Sem (List (Str×Addr))):=by
  intro names
  induction names with
  |nil=>intro acc _;rfl
  |cons y r ih=>
   intro acc hc
   obtain⟨n,k⟩:=y
   rw[forIn_cons]
   unfold bU
   dsimp only
   by_cases hk:(k==NameKind.free)=true
   ·rw[J4 hk,J4 hk]
    have nG:k=NameKind.free:=by simpa using hk
    obtain⟨c0,e0⟩:=hc n (by rw[nG];exact o8)
    unfold cellOf
    rw[e0]
    exact ih _ λ m hm=>hc m (m3 _ hm)
   ·rw[J5 hk,J5 hk]
    exact ih _ λ m hm=>hc m (m3 _ hm)
 have q:=all scope.names [] hc
 refine Eq.trans ?_ (J1 (λ m=>m >>= pure) q)
 rfl
theorem mB{env:Env}:∀{names:List (Str×NameKind)} {x:Str},names.lookup x=some .free->
  (names.map λ(n,k)=>if(k==NameKind.free&&env.scope.kind==.function&&env.kindOf n==some .cell)then(n,NameKind.cell)else(n,k)).lookup x=some .cell\/
  (names.map λ(n,k)=>if(k==NameKind.free&&env.scope.kind==.function&&env.kindOf n==some .cell)then(n,NameKind.cell)else(n,k)).lookup x=some .free
 |[],_,h=>by simp at h
 |(n,k)::r,x,h=>by
  have ih:=@mB env r x
  rw[C6]
  dsimp only
  cases hx:x==n with
  |true=>
   rw[x6,hx]at h
   have h':k=NameKind.free:=by simpa using h
   subst h'
   split
   ·left;rw[x6,hx]
   ·right;rw[x6,hx]
  |false=>
   rw[x6,hx]at h
   have ih:=ih h
   split
   ·rw[x6,hx];exact ih
   ·rw[x6,hx];exact ih
theorem ig{env:Env}:∀{names:List (Str×NameKind)} {x:Str} {k0:NameKind},(∀y∈names,y.2≠.cell)->
  (names.map λ(n,k)=>if(k==NameKind.free&&env.scope.kind==.function&&env.kindOf n==some .cell)then(n,NameKind.cell)else(n,k)).lookup x=some k0->(k0=.cell\/k0=.free)->(x,NameKind.free)∈names
 |[],_,_,_,h,_=>by simp at h
 |(n,k)::r,x,k0,hc,h,hk=>by
  have ih:=@ig env r x k0 λ y hy=>hc y (m3 _ hy)
  rw[C6]at h
  dsimp only at h
  cases hx:x==n with
  |true=>
   have xn:x=n:=by simpa using hx
   subst xn
   by_cases O4:(k==NameKind.free&&env.scope.kind==.function&&env.kindOf x==some .cell)=true
   ·have:k=NameKind.free:=by
     have:=(z9 _ _).mp O4
     have:=(z9 _ _).mp this.1
     simpa using this.1
    subst this
    exact o8
   ·rw[J5 O4,x6,hx]at h
    have h':k=k0:=by simpa using h
    subst h'
    rcases hk with e|e
    ·exact absurd e (hc (x,k) o8)
    ·subst e;exact o8
  |false=>
   refine m3 _ (ih ?_ hk)
   split at h
   ·rw[x6,hx]at h;exact h
   ·rw[x6,hx]at h;exact h
theorem qu{prog:Program}{w:World}{A:Around}{R:Result->Shared->Prop}{s:Shared}{elt target iter:Expr}{ifs:List Expr}{scope:Scope}{pos:Pos}{it acc:Value}{env:Env}(I:Nat->Shared->Prop)
  (turn:∀n s,I n s->wpAny (model prog w) A (pyNext it) (λ r s1=>match r with
   |none=>R (.ok .next) s1
   |some v=>wpAny (model prog w) A (letOwnedTupleGo target it v) (λ _ s2=>wpAny (model prog w) A (assign target env v) (λ _ s3=>
     wpAny (model prog w) A (forIn ifs true λ c r=>if r=true then do let ok <- isTrue c env (eval c env);pure (ForInStep.yield ok)else pure (ForInStep.yield r)) (λ ok s4=>
      if ok=true then wpAny (model prog w) A (eval elt env) (λ x s5=>
       wpAny (model prog w) A (call (.builtin "list.append") [acc,x]) (λ _ s6=>∃m,m < n/\I m s6) (λ _ _=>False) s5) (λ _ _=>False) s4
      else ∃m,m < n/\I m s4) (λ _ _=>False) s3) (λ _ _=>False) s2) (λ _ _=>False) s1) (λ _ _=>False) s)
  (n:Nat) (h:I n s):
  codeAny (model prog w) A (.compLoop (.ListComp elt [⟨target,iter,ifs,0⟩] scope pos) 0 it acc env) R s:=by
 refine codeAny_loop rfl I (λ n s hI=>?_) n h
 show wpAny _ A ((compTurn (.ListComp elt [⟨target,iter,ifs,0⟩] scope pos) 0 it acc env).onRaise (λ x=>do noteFrame x env;theTreesLotGoes x)) _ _ s
 refine wpAny_noted ?_
 rw[compTurn_list]
 refine wpAny_noRaise (E9 (wpAny_standAt (E9 (G7 (turn n s hI) (λ r s1 h1=>?_) λ _ _ h'=>h'))))
 cases r with
 |none=>exact G0 h1
 |some v=>
  refine E9 (G7 h1 (λ _ s2 h2=>?_) λ _ _ h'=>h')
  refine E9 (G7 h2 (λ _ s3 h3=>E9 (G7 h3 (λ ok s4 h4=>?_) λ _ _ h'=>h')) λ _ _ h'=>h')
  cases ok with
  |false=>exact G0 ⟨rfl,h4⟩
  |true=>
   exact E9 (E9 (G7 h4 (λ x s5 h5=>E9 (G7 h5 (λ _ s6 h6=>G0 (G0 ⟨rfl,h6⟩)) λ _ _ h'=>h')) λ _ _ h'=>h'))
end L2
namespace L2
open PySem PySem.Spec PyProof.Rows
def bF(X:Cx)(scope:Scope)(cl:List (Str×Addr))(tgs:List Str)(fr:List Nat)(C:Addr)(fp:List Addr)(s:Shared)(H:Hp):Cx:=
 {X with N:=tgs++fr.map (λ j=>X.N.getD j ""),s₀:=s,H₀:=H,env:=compEnvC scope cl C X.env,outer:=X.stack,ex:=fp,fn:=λ _=>false,pn:=[]}
def eU(n:Nat)(fr:List Nat)(σ:St):St:=List.replicate n none++fr.map (λ j=>σ.getD j none)
structure kH(X:Cx)(scope:Scope)(fr:List Nat):Prop where
 kind:scope.kind=.function
 vp:∀y∈scope.names,y.2≠.cell
 names:∀y∈scope.names,y.2=.local->scope.names.lookup y.1=some .local
 has:∀n,(n,NameKind.free)∈scope.names->X.env.kindOf n=some .cell\/X.env.kindOf n=some .free
 fr:∀j∈fr,j < X.N.length/\scope.names.lookup (X.N.getD j "")=some .free
def iA(n:Nat)(g:TG):Prop:=∀x σ H Q,g x σ H Q->g x σ H λ σ2 H2=>Q σ2 H2/\σ2.length=σ.length/\∀k,n<=k->σ2[k]?=σ[k]?
theorem qo{n i:Nat}(h:i < n):iA n (eD i):=λ x σ H Q q=>⟨q,by simp,λ k hk=>by rw[getElem?_set_ne (by omega)]⟩
def lV(n:Nat)(g:xY):Prop:=∀xs σ H Q,g xs σ H Q->g xs σ H λ σ2 H2=>Q σ2 H2/\σ2.length=σ.length/\∀k,n<=k->σ2[k]?=σ[k]?
theorem LM{n:Nat}:lV n zh:=λ xs σ H Q q=>⟨q.1,q.2,rfl,λ _ _=>rfl⟩
def MV(X:Cx)(ifs:List Expr)(t:TT):Prop:=
 ∀(pins:List (Addr×Obj)) (s:Shared) (σ:St) (H:Hp) (Q:Bool->Hp->Prop),Inv X pins σ H s->t σ H Q->
  wpAny (model X.prog X.w) X.A (forIn ifs true λ c r=>if r=true then do let ok <- isTrue c X.env (eval c X.env);pure (ForInStep.yield ok)else pure (ForInStep.yield r)) (TP X pins σ Q) X.xe s
def RF:TT:=λ _ H Q=>Q true H
theorem Fs{X:Cx}:MV X [] RF:=λ _ s σ H Q I h=>wpAny_tests_nil ⟨H,I,h⟩
theorem Fq{X:Cx}{c:Expr}{t:TT}(h:PT X c t):MV X [c] t:=λ pins s σ H Q I q=>wpAny_tests_one (h pins s σ H Q I q)
def mq(wi:TI)(g:TG)(tt:TT)(te:TE)(n:Nat)(fr:List Nat):TE:=λ σ H Q=>wi σ H λ J H1=>∃W:Nat->Nat->List V->Hp->Prop,(∃m,W 0 m [] H1)/\∀i m acc H,W i m acc H->
 acc.length<=sizeLine/\((J.stop i H/\∀p,H p=none->Q (.ref p) (upd H p (.lst acc)))\/
  (J.go i H/\∃N:List V->Hp->Prop,(∀Dr H',N Dr H'->∃m',m' < m/\W (i+1) m' Dr H')/\∀x H',J.DG i H x H'->g x (eU n fr σ) H' λ σ2 H2=>tt σ2 H2 λ b H3=>if b=true then te σ2 H3 λ y H4=>N (acc++[y]) H4 else N acc H3))
section
variable {X:Cx}{scope:Scope}{tgs:List Str}{fr:List Nat}
theorem Mi{pins:List (Addr×Obj)}{σ:St}{H:Hp}{s:Shared}{fp:List Addr}{C:Addr}(B:kH X scope fr)(I:Inv X pins σ H s)(hC:s.heap.objs.size<=C)(f:∀b∈fp,fS X pins H b)(HZ:∀b∈fp,b < s.heap.objs.size):
  (bF X scope (bU X.env.cells scope.names []) tgs fr C fp s H).Ok:=by
 have look:∀x c,(bU X.env.cells scope.names []).lookup x=some c->X.env.cells.lookup x=some c:=
  eG scope.names [] (λ n hn=>I.ok.has n (B.has n hn)) λ x c e=>by simp at e
 refine⟨I.ok.mod,B.kind,I.ok.glob,I.ok.blt,hC,λ x y c e1 e2=>I.ok.inj x y c (look x c e1) (look y c e2),λ x hx=>?_,λ x c h=>absurd h (by simp[bF]),I.ok.hd,I.ok.frames,.inl rfl,λ b hb=>⟨D1 (q8 (HZ b hb) hC),λ x c e=>(f b hb).2.2.2.2.1 x c (look x c e)⟩,
  I.bs,D9 I.ok.DC I.sz,λ b o e hb=>?_,λ b hb hs=>?_,I.stack,I.wC⟩
 ·have hm:(x,NameKind.free)∈scope.names:=by
   rcases hx with hx|hx
   ·exact ig B.vp hx (.inl rfl)
   ·exact ig B.vp hx (.inr rfl)
  exact Option.isSome_iff_exists.mp (gW scope.names [] hm)
 ·rcases(f b hb).2.2.2.1 with z|z
  ·exact I.ok.yP b o e z
  ·exact absurd (q8 (D3 e) (D9 I.ok.DC z)) (C5 _)
 ·rcases C7.mp (I.ph b hs)with z|z
  ·exact(f b hb).2.1 z
  ·exact(f b hb).2.2.1 z
theorem Hd{pins:List (Addr×Obj)}{σ:St}{H:Hp}{s s1:Shared}{fp:List Addr}{C:Addr}{m:Str->Option Value}(B:kH X scope fr)(I:Inv X pins σ H s)(hC:s.heap.objs.size<=C)(f:∀b∈fp,fS X pins H b)(HZ:∀b∈fp,b < s.heap.objs.size)
  (ho:s1.os=s.os) (hg:AllBare s1.gens) (hk:∀b o,s.heap.get? b=some o->s1.heap.get? b=some o) (hn:s1.heap.Ns C m):
  Inv (bF X scope (bU X.env.cells scope.names []) tgs fr C fp s H) [] (eU tgs.length fr σ) H s1:=by
 have look:∀x c,(bU X.env.cells scope.names []).lookup x=some c->X.env.cells.lookup x=some c:=
  eG scope.names [] (λ n hn=>I.ok.has n (B.has n hn)) λ x c e=>by simp at e
 refine⟨Mi B I hC f HZ,ho,hg,Un.kept hk,⟨m,hn,λ i x v e1 e2 e3=>?_⟩,λ x c e=>?_,I.bN.fresh hC,λ x c e=>I.fU x c (look x c e),λ p hp=>absurd hp (by simp[bF]),I.bN.kept hk,by simp[eU,bF]⟩
 ·-- a free name:au T3 value
  have e1:(tgs++fr.map (λ j=>X.N.getD j ""))[i]?=some x:=e1
  have hi:tgs.length<=i:=by
   refine x8 λ fO=>?_
   unfold eU at e2
   rw[g9 (by simpa using fO),j4,J4 fO]at e2
   cases e2
  unfold eU at e2
  rw[e7 (by simpa using hi),l7,r9]at e2
  rw[e7 hi,r9]at e1
  cases ej:fr[i - tgs.length]? with
  |none=>rw[ej]at e1;cases e1
  |some j=>
   rw[ej]at e1 e2
   have Pf:X.N.getD j ""=x:=A9 e1
   have UX:σ.getD j none=some v:=A9 e2
   obtain⟨hj,hl⟩:=B.fr j (m5 ej)
   have hN:X.N[j]?=some x:=by
    rw[e9,i8 hj]at Pf
    rw[i8 hj]
    exact J1 some Pf
   have hs:σ[j]?=some (some v):=by
    have Q_:j < σ.length:=by rw[I.len];exact hj
    rw[e9,i8 Q_]at UX
    rw[i8 Q_]
    exact J1 some UX
   rw[Pf]at hl
   obtain⟨m0,Tc,V6⟩:=I.loc
   have vM:(x,NameKind.free)∈scope.names:=n5 hl
   have kinds:=B.has x vM
   obtain⟨u,ru,lu⟩:=V6 j x v hN hs (by rcases kinds with z|z;exact .inr (.inl z);exact .inr (.inr z))
   refine⟨u,ru,.inr ⟨mB hl,?_⟩⟩
   obtain⟨c,hc⟩:=Option.isSome_iff_exists.mp (gW (cells:=X.env.cells) scope.names [] vM)
   refine⟨c,hc,?_⟩
   rcases lu with⟨kl,_⟩|⟨_,c',ze,z⟩
   ·rcases kinds with z|z <;> (rw[z]at kl;cases kl)
   ·have:c=c':=by
     have:=look x c hc
     rw[this]at ze
     exact A9 ze
    subst this
    obtain⟨o,ho,hd⟩:=z
    exact⟨o,hk _ _ ho,hd⟩
 ·obtain⟨v,o,qj,hd⟩:=I.cell x c (look x c e)
  exact⟨v,o,hk _ _ qj,hd⟩
end
end L2
namespace L2
open PySem PySem.Spec PyProof.Rows
section
variable {X:Cx}{scope:Scope}{tgs:List Str}{fr:List Nat}{tg elt iter:Expr}{ifs:List Expr}{pos:Pos}{wi:TI}{g:TG}{tt:TT}{te:TE}
theorem toF{α:Type}{M:Model}{A:Around}{E:Value->Shared->Prop}{s:Shared}{t:Sem α}{Q Q':α->Shared->Prop}(hE:∀e s,E e s->False)(h:wpAny M A t Q E s)(hQ:∀a s,Q a s->Q' a s):wpAny M A t Q' (λ _ _=>False) s:=
 G7 h hQ hE
theorem oW{pins:List (Addr×Obj)}{σ:St}{H:Hp}{s:Shared}{R:Value->Addr->Result->Shared->Prop}{E:Value->Shared->Prop}{J:It}{fp:List Addr}{it:Addr}{tn:Nat->Heap->Prop}{Qe:List V->Hp->Prop}
  (B:kH X scope fr) (hc:X.calm=true) (hE:∀e s,X.xe e s->False)
  (hg:∀cl C fp s H,PG (bF X scope cl tgs fr C fp s H) tg g) (gk:iA tgs.length g)
  (ht:∀cl C fp s H,MV (bF X scope cl tgs fr C fp s H) ifs tt)
  (he:∀cl C fp s H,PE (bF X scope cl tgs fr C fp s H) elt te)
  (I:Inv X pins σ H s) (T:Turn X.prog X.w X.K tg J fp it tn) (st:tn 0 s.heap) (f:∀b∈fp,fS X pins H b)
  (W:Nat->Nat->List V->Hp->Prop) (m0:Nat) (w0:W 0 m0 [] H)
  (turn:∀i m acc H,W i m acc H->acc.length<=sizeLine/\((J.stop i H/\Qe acc H)\/(J.go i H/\∃N:List V->Hp->Prop,(∀Dr H',N Dr H'->∃m',m' < m/\W (i+1) m' Dr H')/\∀x H',J.DG i H x H'->g x (eU tgs.length fr σ) H' λ σ2 H2=>tt σ2 H2 λ b H3=>
   if b=true then te σ2 H3 λ y H4=>N (acc++[y]) H4 else N acc H3)))
  (fin:∀(D C:Addr) (s1:Shared) (H1:Hp) (acc:List V) (au:List Value),s.heap.objs.size<=D->s.heap.objs.size<=C->D≠C->Inv X pins σ H1 s1->H1 C=none->H1 D=none->(∃m,s1.heap.Ns C m)->
   s1.heap.PlainList D au.toArray->Vals acc au->acc.length<=sizeLine->Qe acc H1->R (.ref D) C (.ok .next) s1):
  wpAny (model X.prog X.w) X.A (newList []) (λ acc s3=>wpAny (model X.prog X.w) X.A (newFunctionEnv scope X.env.globals (bU X.env.cells scope.names []) [] X.env.qual none .none (some X.env)) (λ PB s4=>
   codeAny (model X.prog X.w) X.A (.compStart (.ListComp elt [⟨tg,iter,ifs,0⟩] scope pos) 0 (.ref it) acc {PB with scope:=relabel scope X.env}) (R acc PB.locals) s4) E s3) E s:=by
 have HZ:∀b∈fp,b < s.heap.objs.size:=λ b hb=>by obtain⟨o,e,_⟩:=T.obj 0 _ st b hb;exact D3 e
 have look:∀x c,(bU X.env.cells scope.names []).lookup x=some c->X.env.cells.lookup x=some c:=
  eG scope.names [] (λ n hn=>I.ok.has n (B.has n hn)) λ x c e=>by simp at e
 refine u5 (wpAny_newFunctionEnv B.vp (by intro y hy;simp at hy) (λ h1 LA Gv=>?_) B.kind)
 dsimp only at LA Gv ⊢
 generalize TC:s.heap.push {cls:=.type "list",dict:=none,data:=.seq ([]:List Value).toArray}=H2 at LA Gv ⊢
 have hC:H2.objs.size=s.heap.objs.size+1:=by rw[<- TC,C0]
 have Ic:s.heap.objs.size≠H2.objs.size:=by omega
 have O':s.heap.objs.size<=H2.objs.size:=by omega
 have below:∀b,b < s.heap.objs.size->b≠H2.objs.size/\b≠s.heap.objs.size:=λ b hb=>⟨by omega,by omega⟩
 have old:∀b o,s.heap.get? b=some o->h1.get? b=some o:=λ b o e=>Gv.extBut b o (below b (D3 e)).1 (k4 _ (TC▸k4 _ e))
 have Ts:h1.PlainList s.heap.objs.size #[]:=⟨_,Gv.extBut _ _ Ic (k4 _ (TC▸o7 _ rfl))⟩
 have Uj:tn 0 h1:=T.keep _ _ _ st λ b _ o e=>old b o e
 generalize XY:H2.objs.size=C at*
 generalize O_:s.heap.objs.size=D at*
 have Wn:∀b,b < D->b < s.heap.objs.size:=λ b hb=>by rw[O_];exact hb
 have fD:=I.iu (b:=D) (H':=H) (Nat.le_of_eq O_) (I.bN.fresh (Nat.le_of_eq O_))
 have Hs:∀b,b≠X.env.locals->b∉X.fs->b∉zi X.stack:=λ b h1 h2 hb=>(C7.mp (I.ph b hb)).elim h1 h2
 have Th:∀b∈fp,b∉zi X.stack:=λ b hb=>Hs b (f b hb).2.1 (f b hb).2.2.1
 have Xg:∀x c,(bU X.env.cells scope.names []).lookup x=some c->c≠D:=λ x c e=>fD.2.2.2.2.1 x c (look x c e)
 have loop:∀s3:Shared,s3={s with heap:=h1,toks:=s.toks+([]:List (Str×Value)).length}->
   codeAny (model X.prog X.w) X.A (.compLoop (.ListComp elt [⟨tg,iter,ifs,0⟩] scope pos) 0 (.ref it) (.ref D) (compEnvC scope (bU X.env.cells scope.names []) C X.env)) (R (.ref D) C) s3:=by
  rintro s3 rfl
  have XC:Inv (bF X scope (bU X.env.cells scope.names []) tgs fr C fp s H) [] (eU tgs.length fr σ) H {s with heap:=h1,toks:=s.toks+([]:List (Str×Value)).length}:=
   Hd B I (by rw[O_];exact O') f (λ b hb=>Wn b (HZ b hb)) rfl I.bare old LA
  refine qu (λ n s'=>∃(i:Nat) (acc:List V) (au:List Value) (H':Hp),Inv (bF X scope (bU X.env.cells scope.names []) tgs fr C fp s H) [] (eU tgs.length fr σ) H' s'/\tn i s'.heap/\(∀b∈fp,H' b=none)/\H' D=none/\
   s'.heap.PlainList D au.toArray/\Vals acc au/\W i n acc H') ?_ m0 ⟨0,[],[],H,XC,Uj,λ b hb=>(f b hb).1,fD.1,Ts,.nil,w0⟩
  rintro n s3 ⟨i,acc,au,H3,I3,Nk,Pb,Wo,⟨nl,Cw⟩,Qw,w3⟩
  obtain⟨hz,h⟩:=turn i n acc H3 w3
  have U5:Inv (bF X scope (bU X.env.cells scope.names []) tgs fr C fp s H) [(D,{cls:=.type "list",data:=.seq au.toArray nl})] (eU tgs.length fr σ) H3 s3:=I3.cG λ p hp=>by
   have e:p=(D,{cls:=.type "list",data:=.seq au.toArray nl}):=by simpa using hp
   subst e
   exact⟨Cw,Wo,Ic,Hs D fD.2.1 fD.2.2.1,λ v e=>by cases e⟩
  have fY:∀{H':Hp},(∀b∈fp,H' b=none)->∀b∈fp,fS (bF X scope (bU X.env.cells scope.names []) tgs fr C fp s H) [(D,{cls:=.type "list",data:=.seq au.toArray nl})] H' b:=λ hn b hb=>
   ⟨hn b hb,(below b (HZ b hb)).1,Th b hb,.inl hb,λ x c e=>(f b hb).2.2.2.2.1 x c (look x c e),λ p hp=>by
    have e:p=(D,{cls:=.type "list",data:=.seq au.toArray nl}):=by simpa[bF]using hp
    subst e
    exact J3 (below b (HZ b hb)).2⟩
  rcases h with⟨stop,q⟩|⟨go,N,hN,step⟩
  ·refine cP (T.done (bF X scope (bU X.env.cells scope.names []) tgs fr C fp s H) rfl rfl rfl hc i _ s3 _ H3 _ U5 (fY Pb) Nk stop) λ r s4 ⟨hr,I4⟩=>?_
   subst hr
   have pD:=I4.pin (D,{cls:=.type "list",data:=.seq au.toArray nl}) (by simp)
   have IX:Inv X pins σ H3 s4:=I.PC (ch:=fp) I4.os I4.base I4.bN I4.bare λ b hb=>⟨(f b hb).2.2.2.1,(f b hb).2.1,(f b hb).2.2.2.2.1,(f b hb).2.2.2.2.2⟩
   obtain⟨m4,VV,_⟩:=I4.loc
   exact fin D C s4 H3 acc au (E1 _) O' Ic IX I4.free pD.2.1 ⟨m4,VV⟩ ⟨nl,pD.1⟩ Qw hz q
  ·refine cP (T.item (bF X scope (bU X.env.cells scope.names []) tgs fr C fp s H) rfl rfl rfl hc i _ s3 _ H3 _ U5 (fY Pb) Nk go) λ r s4 ⟨u,hr,h4⟩=>?_
   subst hr
   refine cP h4 λ _ s5 ⟨x,H5,I5,r5,y5,DT,TN⟩=>?_
   have Ub:=I5.pinned (fY TN) (T.obj _ _ DT)
   refine toF hE (hg _ _ _ _ _ _ s5 _ H5 x u _ Ub r5 (gk x _ H5 _ (step x H5 y5))) λ _ s6 ⟨σ6,H6,I6,q6,SF,k6⟩=>?_
   refine toF hE (ht _ _ _ _ _ _ s6 σ6 H6 _ I6 q6) λ ok s7 ⟨H7,I7,q7⟩=>?_
   have wk:∀{H':Hp} {s':Shared} {pl:List (Addr×Obj)},Inv (bF X scope (bU X.env.cells scope.names []) tgs fr C fp s H) pl σ6 H' s'->Inv (bF X scope (bU X.env.cells scope.names []) tgs fr C fp s H) pl (eU tgs.length fr σ) H' s':=λ J=>
    J.weak SF.symm λ k v e=>by
     by_cases hk:tgs.length<=k
     ·rw[k6 k hk];exact e
     ·unfold eU at e
      rw[g9 (by simpa using hk),j4,J4 (by omega)]at e
      cases e
   cases ok with
   |false=>
    simp only[p6,H9]at q7 ⊢
    obtain⟨m',hm,w7⟩:=hN _ _ q7
    have pD:=I7.pin (D,{cls:=.type "list",data:=.seq au.toArray nl}) (by simp)
    refine⟨m',hm,i+1,acc,au,H7,wk (I7.cG (pins':=[]) λ p hp=>absurd hp (by simp)),T.keep _ _ _ DT λ b hb o e=>(I7.pin (b,o) (k8 _ (k8 _ (dB hb e)))).1,λ b hb=>?_,pD.2.1,⟨nl,pD.1⟩,Qw,w7⟩
    obtain⟨o,e,d⟩:=T.obj _ _ DT b hb
    exact(I7.pin (b,o) (k8 _ (k8 _ (dB hb e)))).2.1
   |true=>
    simp only[if_true]at q7 ⊢
    refine toF hE (he _ _ _ _ _ _ s7 σ6 H7 _ I7 q7) λ uy s8 ⟨y,H8,I8,r8,n8⟩=>?_
    obtain⟨m',hm,w8⟩:=hN _ _ n8
    have pD:=I8.pin (D,{cls:=.type "list",data:=.seq au.toArray nl}) (by simp)
    have hits:au.toArray.size<=sizeLine:=by
     have:=Qw.length
     simp only[x4]
     omega
    refine wpAny_list_append_plain (hsz:=hits) (show s8.heap.PlainList D au.toArray from⟨nl,pD.1⟩) λ h9 V5 Ux=>?_
    have I9:Inv (bF X scope (bU X.env.cells scope.names []) tgs fr C fp s H) [] σ6 H8 {s8 with heap:=h9,toks:=s8.toks}:=
     (I8.cG (pins':=[]) λ p hp=>absurd hp (by simp)).turned (it:=D) (λ b o hb e=>Ux.extBut b o hb e) pD.2.1 Ic (.inr (Nat.le_of_eq O_)) Xg λ p hp=>absurd hp (by simp[bF])
    refine⟨m',hm,i+1,acc++[y],au++[uy],H8,wk I9,T.keep _ _ _ DT λ b hb o e=>Ux.extBut b o (below b (HZ b hb)).2 (I8.pin (b,o) (k8 _ (k8 _ (dB hb e)))).1,λ b hb=>?_,pD.2.1,?_,Qw.append (.cons r8 .nil),w8⟩
    ·obtain⟨o,e,d⟩:=T.obj _ _ DT b hb
     exact(I8.pin (b,o) (k8 _ (k8 _ (dB hb e)))).2.1
    ·have e:(au++[uy]).toArray=au.toArray.push uy:=by simp
     rw[e];exact V5
 exact codeAny_compStart_list (loop _ rfl) (T.self _ 0 _ _ _ Uj (loop _ rfl))
theorem iU(B:kH X scope fr)(hc:X.calm=true)(hE:∀e s,X.xe e s->False)(hi:PI X tg iter wi)
  (hg:∀cl C fp s H,PG (bF X scope cl tgs fr C fp s H) tg g) (gk:iA tgs.length g)
  (ht:∀cl C fp s H,MV (bF X scope cl tgs fr C fp s H) ifs tt)
  (he:∀cl C fp s H,PE (bF X scope cl tgs fr C fp s H) elt te)
  (hs:∀x,foldedSetIterable iter X.env x=pure x:=by intro _;rfl):PE X (.ListComp elt [⟨tg,iter,ifs,0⟩] scope pos) (mq wi g tt te tgs.length fr):=by
 intro pins s σ H Q I h
 rw[eval_ListComp]
 have To:=fv (scope:=scope) (env:=X.env) λ n hn=>I.ok.has n (B.has n hn)
 refine wpAny_comprehension_free (use:=none) rfl hs To B.kind B.names (G7 (hi pins s σ H _ I h) (λ xv s1 h1=>G7 h1 (λ QZ s2 h2=>?_) λ _ _ e=>e) λ _ _ e=>e)
 obtain⟨it,fp,tn,J,H2,rfl,I2,T,Nl,f2,W,⟨m0,w0⟩,turn⟩:=h2
 refine oW (R:=λ acc C=>compPost (model X.prog X.w) X.A X.xe none (EP X pins σ Q) acc C) (Qe:=λ acc H=>∀p,H p=none->Q (.ref p) (upd H p (.lst acc))) B hc hE hg gk ht he I2 T Nl f2 W m0 w0 turn ?_
 intro D C s1 H1 acc au hD hC Ic I1 nC nD ⟨m,hn⟩ hl rv hz q
 refine⟨m,hn,λ h' vK=>?_⟩
 have fC:=I2.iu (b:=C) (H':=H1) hC nC
 have fD:=I2.iu (b:=D) (H':=H1) hD nD
 have I3:Inv X pins σ H1 {s1 with heap:=h',toks:=s1.toks}:=I1.turned (it:=C) (λ b o hb e=>vK.extBut b o hb e) nC fC.2.1 fC.2.2.2.1 fC.2.2.2.2.1 fC.2.2.2.2.2
 obtain⟨k,e⟩:=hl.extBut vK.extBut Ic
 exact⟨.ref D,upd H1 D (.lst acc),I3.oq nD ⟨hz,au,k,rv,e⟩ fD.2.1 (D9 I2.sz hD) fD.2.2.2.2.1 fD.2.2.2.2.2,rfl,q D nD⟩
theorem ve{i:Nat}{y:Str}{py rA:Pos}(hN:X.N.Nodup)(hiy:X.N[i]?=some y)(hy:Loc X.env.scope y)(B:kH X scope fr)(hc:X.calm=true)(hE:∀e s,X.xe e s->False)(hi:PI X tg iter wi)
  (hg:∀cl C fp s H,PG (bF X scope cl tgs fr C fp s H) tg g) (gk:iA tgs.length g)
  (ht:∀cl C fp s H,MV (bF X scope cl tgs fr C fp s H) ifs tt)
  (he:∀cl C fp s H,PE (bF X scope cl tgs fr C fp s H) elt te)
  (hsw:swapsWith (.ListComp elt [⟨tg,iter,ifs,0⟩] scope pos) (some (.Name y py)) rA.line X.env=pure true:=by rfl)
  (hf:X.fn y=true\/X.env.scope.names.lookup y=some .local:=by first|exact .inl rfl|exact .inr rfl|assumption)
  (hs:∀x,foldedSetIterable iter X.env x=pure x:=by intro _;rfl):PS X (.Assign [.Name y py] (.ListComp elt [⟨tg,iter,ifs,0⟩] scope pos) rA) (DS (mq wi g tt te tgs.length fr) (eD i)):=by
 intro pins s σ H D0 I h
 rw[exec_Assign_Name_used _ _ _ _ hsw]
 have To:=fv (scope:=scope) (env:=X.env) λ n hn=>I.ok.has n (B.has n hn)
 refine E9 (wpAny_standAt (E9 ?_))
 show wpAny _ X.A (do let _ <- comprehension (.ListComp elt [⟨tg,iter,ifs,0⟩] scope pos) scope X.env _ (newList []) false (eval iter X.env) (some (assign (.Name y py) X.env))) _ _ s
 refine E9 (G7 (wpAny_comprehension_free (use:=some (assign (.Name y py) X.env)) (Q:=λ _ s'=>SP X pins D0 .next s') rfl hs To B.kind B.names
  (G7 (hi pins s σ H _ I h) (λ xv s1 h1=>G7 h1 (λ QZ s2 h2=>?_) λ _ _ e=>e) λ _ _ e=>e)) (λ _ s' hq=>G0 (G0 hq)) λ _ _ e=>e)
 obtain⟨it,fp,tn,J,H2,rfl,I2,T,Nl,f2,W,⟨m0,w0⟩,turn⟩:=h2
 refine oW (R:=λ acc C=>compPost (model X.prog X.w) X.A X.xe (some (assign (.Name y py) X.env)) (λ _ s'=>SP X pins D0 .next s') acc C) (Qe:=λ acc H=>∀p,H p=none->eD i (.ref p) σ (upd H p (.lst acc)) D0.nx) B hc hE hg gk ht he I2 T Nl f2 W m0 w0 turn ?_
 intro D C s1 H1 acc au hD hC Ic I1 nC nD ⟨m,hn⟩ hl rv hz q
 have fC:=I2.iu (b:=C) (H':=H1) hC nC
 have fD:=I2.iu (b:=D) (H':=H1) hD nD
 obtain⟨k,e⟩:=hl
 have I3:Inv X pins σ (upd H1 D (.lst acc)) s1:=I1.oq nD ⟨hz,au,k,rv,e⟩ fD.2.1 (D9 I2.sz hD) fD.2.2.2.2.1 fD.2.2.2.2.2
 show wpAny _ X.A (assign (.Name y py) X.env (.ref D)) _ _ s1
 refine wpAny_assign_Name (ox I3 hN hiy hy (show RelV (.ref D) (.ref D)from rfl) (λ s2 J2 ⟨a,VH,ha⟩=>?_) hf)
 have aC:C≠a:=by
  rcases ha with z|z
  ·rw[z];exact fC.2.1
  ·exact J3 (fC.2.2.2.2.1 _ _ z)
 refine⟨m,hn.sameBut VH aC,λ h' vK=>?_⟩
 have Vp:(upd H1 D (.lst acc)) C=none:=by rw[aP (J3 Ic)];exact nC
 have I4:Inv X pins (σ.set i (some (.ref D))) (upd H1 D (.lst acc)) {s2 with heap:=h',toks:=s2.toks}:=J2.turned (it:=C) (λ b o hb e=>vK.extBut b o hb e) Vp fC.2.1 fC.2.2.2.1 fC.2.2.2.2.1 fC.2.2.2.2.2
 exact⟨_,_,I4,q D nD⟩
end
end L2
namespace L2
open PySem PySem.Spec PyProof.Rows
def nT(x:Str)(lo hi:Option Int):Str:=⟨((x.cps.toList.drop (HT.bY x.length 0 lo)).take (HT.bY x.length x.length hi - HT.bY x.length 0 lo)).toArray⟩
theorem G'(x:Str)(lo hi:Option Int):(nT x lo hi).length<=x.length:=by
 show((x.cps.toList.drop (HT.bY x.length 0 lo)).take (HT.bY x.length x.length hi - HT.bY x.length 0 lo)).toArray.size<=x.cps.size
 rw[x4,A0,y6,n9]
 omega
theorem zX(lo hi:Option Int)(n:Nat):Builtin.Str.strSliceIndices lo hi 1 n=sliceRange ((HT.bY n 0 lo:Nat):Int) ((HT.bY n n hi:Nat):Int) 1:=by
 obtain⟨h1,h2,h3⟩:=iM lo hi n
 rw[<- h1,<- h2]
 rfl
theorem yu(x:Str)(lo hi:Option Int):Txt.slice x lo hi=nT x lo hi:=by
 have e:((Builtin.Str.strSliceIndices lo hi 1 x.length).filterMap (x.cps[·]?)).toArray=(nT x lo hi).cps:=by
  rw[zX,sliceRange_one,pick_run]
  rfl
 unfold Txt.slice
 split
 ·rename_i h
  have hl:(Builtin.Str.strSliceIndices lo hi 1 x.length).length=x.length:=by simpa using h
  rw[zX,sliceRange_one,B4,w6]at hl
  have b1:=HT.uV x.length 0 (E3 _) lo
  have b2:=HT.uV x.length x.length (E1 _) hi
  have hlen:x.cps.toList.length=x.length:=by simp[Str.length]
  unfold nT
  by_cases h0:x.length=0
  ·have:x.cps.toList=[]:=j6.mp (by omega)
   rw[this]
   cases x with
   |mk c=>simp at this;subst this;simp
  ·have ea:HT.bY x.length 0 lo=0:=by omega
   have eb:HT.bY x.length x.length hi=x.length:=by omega
   rw[ea,eb,drop_zero,Nat.sub_zero,j7 (by omega)]
 ·exact J1 Str.mk e
section
variable {X:Cx}
def Sa:V->Option Int->Option Int->Hp->VK->Prop:=λ x lo hi H Q=>∃z,x=.str z/\z.length<=sizeLine/\Q (.str (nT z lo hi)) H
theorem vJ{h:Heap}{sl:Addr}{vl vu:Value}{lo hi:Option Int}(hs:h.IsSliceOf sl vl vu .none)(pl:IsPart vl lo)(pu:IsPart vu hi):
  ∃l u:Option (Int×Tok),h.IsSlice sl l u none/\l.map (·.1)=lo/\u.map (·.1)=hi:=by
 cases pl with
 |none=>
  cases pu with
  |none=>exact⟨none,none,hs,rfl,rfl⟩
  |int i t=>exact⟨none,some (i,t),hs,rfl,rfl⟩
 |int i t=>
  cases pu with
  |none=>exact⟨some (i,t),none,hs,rfl,rfl⟩
  |int j u=>exact⟨some (i,t),some (j,u),hs,rfl,rfl⟩
theorem IV:xZ X Sa:=by
 intro pins s σ H x v vl vu lo hi sl Q I rx hs pl pu h
 obtain⟨z,rfl,hz,q⟩:=h
 obtain⟨t,rfl⟩:=rx
 obtain⟨l,u,MG,rfl,rfl⟩:=vJ hs pl pu
 refine⟨"str",_,PySem.F.slot_str_getitem.lookup,typeIs_str _ _ _,wpAny_getItem_str_slice (l:=l) (u:=u) (st:=none) MG rfl ?_⟩
 rw[<- yu]at q
 exact post_val_or_str ⟨D9 (Txt.slice_le z _ _) hz,λ t' k=>⟨.str (Txt.slice z (l.map (·.1)) (u.map (·.1))),H,I.tok k,⟨_,rfl⟩,q⟩⟩
theorem yI:fb X (compareOp .LtE) (λ x y H Q=>∃i j,x=.str i/\y=.str j/\Q (.bl (!decide (j.cps.toList < i.cps.toList))) H):=by
 intro pins s σ H x y v u Q I rx ry h
 obtain⟨i,j,rfl,rfl,q⟩:=h
 obtain⟨t,rfl⟩:=rx
 obtain⟨t',rfl⟩:=ry
 exact PySem.P.le_str ⟨.bl (!decide (j.cps.toList < i.cps.toList)),H,I,rfl,q⟩
theorem uO{ys:List Str}:∀{us:List Value},Vals (ys.map V.str) us->StrsAre us ys:=by
 induction ys with
 |nil=>intro us r;rw[map_nil]at r;cases r;exact .nil
 |cons n ns ih=>
  intro us r
  rw[C6]at r
  cases r with
  |cons r1 r2=>
   obtain⟨t,e⟩:=r1
   subst e
   exact .cons n t (ih r2)
def rJoin(K:PySem.W.Frag):V->List V->Hp->VK->Prop:=λ x vs H Q=>∃(z:Str) (p:Addr) (ys:List Str),x=.str z/\vs=[.ref p]/\du K H p (ys.map V.str)/\(ys.map (·.length)).sum+ys.length*z.length<=16777216/\Q (.str (Txt.join z ys)) H
theorem FX:Ru X "str.join" (rJoin X.K):=by
 intro pins s σ H x xs v us Q I rx r h
 obtain⟨z,p,ys,rfl,rfl,hq,hz,q⟩:=h
 obtain⟨t,rfl⟩:=rx
 obtain⟨u,rfl,r1⟩:=Vals.one r
 cases r1
 obtain⟨au,rv,pl,_⟩:=I.list hq
 exact join_list pl.isList (by simpa using uO rv) hz λ t' k=>⟨.str (Txt.join z ys),H,I.tok k,⟨_,rfl⟩,q⟩
def NJ:R2:=λ x y H Q=>∃z n,x=.str z/\y=.int n/\MulOk z n/\Q (.str (Txt.mul z n)) H
theorem vm:fb X (binaryOp .Mult) NJ:=by
 intro pins s σ H x y v u Q I rx ry h
 obtain⟨z,n,rfl,rfl,bN,q⟩:=h
 obtain⟨t,rfl⟩:=rx
 obtain⟨t',rfl⟩:=ry
 exact SB.mul bN λ t' k=>⟨.str (Txt.mul z n),H,I.tok k,⟨_,rfl⟩,q⟩
theorem uf(hc:X.calm=true):dv X (.builtin "all") (λ xs H Q=>∃(p:Addr) (bs:List Bool),xs=[.ref p]/\du X.K H p (bs.map V.bl)/\Q (.bl (bs.all id)) H):=by
 intro pins s σ H xs us Q I r h
 obtain⟨p,bs,rfl,hq,q⟩:=h
 obtain⟨u,rfl,r1⟩:=vals1 r
 cases r1
 obtain⟨au,rv,pl,hz⟩:=I.list hq
 refine call_all_walk (w5 pl.isList ?_)
 have f_:p≠s.heap.objs.size:=by
  obtain⟨o,n,e,_⟩:=pl
  exact D1 (D3 e)
 have hlen:au.length=bs.length:=by rw[<- rv.length,B4]
 refine⟨s.heap.objs.size,_,_,_,_,_,λ i=>(bs[i]?).getD false,rfl,Walks.list (A:=X.A.in1) (show X.A.in1.handled=none from I.ok.hd hc) s.heap.objs.size p f_ au.toArray,⟨⟨_,o7 _ rfl,rfl,rfl⟩,pl.isList.at λ o e=>k4 _ e⟩,?_,λ h' tk hk=>?_⟩
 ·intro i v s' Q' E' hP hQ
  have Ib:au[i]?=some v:=by simpa using hP
  have hi:i < bs.length:=by rw[<- hlen];exact(i5.mp Ib).1
  have hb:(bs.map V.bl)[i]?=some (V.bl bs[i]):=by simp[hi]
  obtain⟨u,hu,ru⟩:=rv.get hb
  rw[Ib]at hu
  cases hu
  have e:v=Value.bool bs[i]:=ru
  subst e
  have:(bs[i]?).getD false=bs[i]:=by simp[hi]
  dsimp only at hQ
  rw[this]at hQ
  exact u9 hQ
 ·refine⟨.bl (bs.all id),H,I.kept (t':=tk) λ b o e=>hk b o (by simpa using D1 (D3 e)) (k4 _ e),?_,q⟩
  show Value.bool _=Value.bool _
  congr 1
  rw[x4,hlen]
  rw[A2]
  simp only[List.all_eq_true,mem_range,id]
  constructor
  ·intro h b hb
   obtain⟨i,hi,rfl⟩:=m7.mp hb
   have:=h i hi
   simpa[hi]using this
  ·intro h i hi
   simpa[hi]using h bs[i] (A1 hi)
end
def MW(x:Str):It:=⟨λ i _=>i < x.cps.size,λ i H v H'=>H'=H/\∃c,x.cps[i]?=some c/\v=.str ⟨#[c]⟩,λ i _=>i=x.cps.size⟩
theorem rj{P:Program}{w:World}{K:PySem.W.Frag}{tg:Expr}(it:Addr)(x:Str)(t:Tok)(ty:String)(hty:["enumerate","zip","dict_itemiterator","dict_reverseitemiterator","odict_iterator","itertools.zip_longest","itertools.pairwise"].contains ty=false)
  (W:∀A':Around,A'.handled=none->Walks P w A' it [it] [it] x.cps.size (SignAt x) (λ i h=>h.IsStrIter it ty x t i))
  (self:∀(A:Around) (i:Nat) (s:Shared) (Q:Value->Shared->Prop) (E:Value->Shared->Prop),s.heap.IsStrIter it ty x t i->Q (.ref it) s->wpAny (model P w) A (pyIter (.ref it)) Q E s):
  Turn P w K tg (MW x) [it] it (λ i h=>h.IsStrIter it ty x t i) where
 mem:=by simp
 obj:=λ i h st b hb=>by
  have e:b=it:=by simpa using hb
  subst e
  obtain⟨o,e,c,d⟩:=st
  exact⟨o,e,λ v z=>by rw[d]at z;cases z⟩
 keep:=λ i h h' st k=>by
  obtain⟨o,e,c,d⟩:=st
  exact⟨o,k it (by simp) o e,c,d⟩
 item:=by
  intro X hP hw hK hc i pins s σ H E I hf st hg
  subst hP hw hK
  obtain⟨f0,f1,f2,f3,f4,f5⟩:=hf it (by simp)
  refine(W X.A (I.ok.hd hc)).item i s _ _ hg st λ v h' tk hv aG kk=>?_
  obtain⟨c,u,hx,rfl⟩:=hv
  have I1:Inv X pins σ H {s with heap:=h',toks:=tk}:=I.turned (λ b o hb e=>kk b o (by simpa using hb) e) f0 f1 f3 f4 f5
  obtain⟨o,e,cc,d⟩:=id aG
  exact⟨_,rfl,xy (s:={s with heap:=h',toks:=tk}) e cc d hty ⟨.str ⟨#[c]⟩,H,I1,⟨u,rfl⟩,⟨rfl,c,hx,rfl⟩,aG,λ b hb=>(hf b hb).1⟩⟩
 done:=by
  intro X hP hw hK hc i pins s σ H E I hf st hg
  subst hP hw hK
  obtain⟨f0,f1,f2,f3,f4,f5⟩:=hf it (by simp)
  have hg:i=x.cps.size:=hg
  subst hg
  exact(W X.A (I.ok.hd hc)).done s _ _ st λ h' tk kk=>⟨rfl,I.turned (λ b o hb e=>kk b o (by simpa using hb) e) f0 f1 f3 f4 f5⟩
 self:=self
end L2
namespace L2
open PySem PySem.Spec PyProof.Rows
section
variable {X:Cx}
theorem wm.imp {r r':R2}(h:wm X r)(k:∀x y H Q,r' x y H Q->r x y H Q):wm X r':=λ value slice pins s σ H x y v u Q I rx ry q=>h value slice pins s σ H x y v u Q I rx ry (k x y H Q q)
theorem xZ.imp {r r':V->Option Int->Option Int->Hp->VK->Prop}(h:xZ X r)(k:∀x lo hi H Q,r' x lo hi H Q->r x lo hi H Q):xZ X r':=
 λ pins s σ H x v vl vu lo hi sl Q I rx hs pl pu q=>h pins s σ H x v vl vu lo hi sl Q I rx hs pl pu (k x lo hi H Q q)
def XA(K:PySem.W.Frag):R2:=λ x y H Q=>match x,y with
 | .ref p,.int i=>∃xs v,(du K H p xs\/fz K H p xs)/\gY xs i=some v/\Q v H
 | .str z,.int i=>z.length<=sizeLine/\∃c,gY z.cps.toList i=some c/\Q (.str ⟨#[c]⟩) H
 |_,_=>False
theorem bo:wm X (XA X.K):=Lq.imp λ x y H Q q=>by
 cases x <;> cases y <;> first
  |exact False.elim q
  |(obtain⟨xs,v,h|h,e,q⟩:=q
    ·exact .inl ⟨_,xs,_,v,rfl,rfl,h,e,q⟩
    ·exact .inr (.inl ⟨_,xs,_,v,rfl,rfl,h,e,q⟩))
  |(obtain⟨hz,c,e,q⟩:=q
    exact .inr (.inr ⟨_,_,c,rfl,rfl,hz,e,q⟩))
def Xz(K:PySem.W.Frag):V->Option Int->Option Int->Hp->VK->Prop:=λ x lo hi H Q=>match x with
 | .str z=>z.length<=sizeLine/\Q (.str (nT z lo hi)) H
 | .ref a=>NH K (.ref a) lo hi H Q\/NG K (.ref a) lo hi H Q
 |_=>False
theorem pB:xZ X (Xz X.K):=(IV.or (DY.or IU)).imp λ x lo hi H Q q=>by
 cases x <;> first|exact False.elim q|exact .inl ⟨_,rfl,q⟩|exact .inr q
end
end L2
namespace L2
open PySem PySem.Spec PyProof.Rows
structure bG(P:Program)(w:World)(K:PySem.W.Frag)(mg:Str->Option Value)(base:Heap)(k:Nat)(x:Str)(ps:List Str)(sp:Sp):Prop where
 ex:∃(f:Addr) (fd:FuncData),bS P w K mg base fc k f fd ps sp/\mg x=some (.ref f)/\PySem.W.keepIn K (.ref f)=true/\Binds K fd ps []
theorem bG.of {P:Program}{w:World}{K:PySem.W.Frag}{mg:Str->Option Value}{base:Heap}{k:Nat}{x qual:Str}{ps:List Str}{sp:Sp}{st:Stmt}{f:Addr}{fd:FuncData}(F:gb K x qual st f fd)(G:bS P w K mg base fc k f fd ps sp)(hm:mg x=some (.ref f))(b:Binds K fd ps []):
  bG P w K mg base k x ps sp:=⟨f,fd,G,hm,F.kp,b⟩
def tD(sp:Sp)(t:TA):TE:=λ σ H Q=>t σ H λ vs H1=>sp vs H1 Q E0
section
variable {X:Cx}{x:Str}{p pos:Pos}{e:Expr}{es:List Expr}{t:TA}{k j:Nat}{ps:List Str}{sp:Sp}
theorem Kr(d:bG X.prog X.w X.K X.mg X.base k x ps sp)(hr:cD k X.A)(hg:Gl X x)(ha:PA X (e::es) t)(hdb:(x==("__debug__":Str))=false:=by decide)(he:starEach (e::es) X.env=(false,eval e X.env)::starEach es X.env:=by rfl)
  (hpl:(backTo pos (starEach es X.env)).any (·.1)=false:=by rfl):PE X (.Call (.Name x p) (e::es) [] pos) (tD sp t):=by
 obtain⟨f,fd,G,hm,kp,b⟩:=d.ex
 intro pins s σ H Q I h
 have h':Hr sp [] E0 t σ H Q:=by
  show t σ H λ vs H1=>sp (vs++[]) H1 Q E0
  have e:(λ(vs:List V) (H1:Hp)=>sp (vs++[]) H1 Q E0)=λ vs H1=>sp vs H1 Q E0:=by
   funext vs H1
   rw[A3]
  rw[e]
  exact h
 exact Fw (E:=E0) G hr hg hm kp b .nil Oc ha hdb he hpl pins s σ H Q I h'
end
def ug(X:Cx)(scope:Scope)(fr:List Nat):Bool:=
 (scope.kind==.function)&&(scope.names.all λ y=>y.2 != .cell&&(y.2 != .local||scope.names.lookup y.1==some .local)&&(y.2 != .free||X.env.kindOf y.1==some .cell||X.env.kindOf y.1==some .free))&&
 (fr.all λ j=>decide (j < X.N.length)&&scope.names.lookup (X.N.getD j "")==some .free)
theorem bA{X:Cx}{scope:Scope}{fr:List Nat}(h:ug X scope fr=true):kH X scope fr:=by
 unfold ug at h
 rw[z9,z9]at h
 obtain⟨⟨h1,h2⟩,h3⟩:=h
 rw[List.all_eq_true]at h2 h3
 refine⟨by simpa using h1,λ y hy=>?_,λ y hy hl=>?_,λ n hn=>?_,λ j hj=>?_⟩
 ·have:=h2 y hy
  simp only[z9]at this
  simpa using this.1.1
 ·have:=h2 y hy
  simp only[z9]at this
  have:=this.1.2
  rw[hl]at this
  simpa using this
 ·have:=h2 _ hn
  simp only[z9]at this
  have:=this.2
  simpa using this
 ·have:=h3 j hj
  rw[z9]at this
  exact⟨by simpa using this.1,by simpa using this.2⟩
section
variable {X:Cx}{tg:Expr}
def SJ(K:PySem.W.Frag)(tl:TE):TI:=λ σ H R=>tl σ H λ x H1=>match x with
 | .str z=>R (MW z) H1
 | .ref a=>(∃xs,du K H1 a xs/\R (Rx K a) H1)\/(∃xs,fz K H1 a xs/\R (T_ K a) H1)
 |_=>False
theorem Kh{l:Expr}{tl:TE}(hl:PE X l tl):PI X tg l (SJ X.K tl):=by
 intro pins s σ H R I h
 have sY:PE X l (λ σ' H' Q=>Q=Q/\tl σ' H' Q):=λ pins s σ H Q I q=>hl pins s σ H Q I q.2
 refine cP (hl pins s σ H _ I h) λ v s1 ⟨x,H1,I1,r1,q1⟩=>?_
 have fp:∀b∈[s1.heap.objs.size],fS X pins H1 b:=λ b hb=>by
  have e:b=s1.heap.objs.size:=by simpa using hb
  subst e
  exact I1.iu (E1 _) (I1.bN.fresh (E1 _))
 cases x with
 |str z=>
  have q:R (MW z) H1:=q1
  obtain⟨t,rfl⟩:=r1
  cases ha:z.cps.all (· < 128)
  ·exact wpAny_pyIter_wide ha ⟨s1.heap.objs.size,[s1.heap.objs.size],_,MW z,H1,rfl,I1.kept (t':=s1.toks) λ b o e=>k4 _ e,rj _ z t "str_iterator" (by decide) (λ A' hA=>Walks.strWide hA _ z t) (λ _ _ _ _ _ st h=>wpAny_pyIter_striter_wide st h),⟨_,o7 _ rfl,rfl,rfl⟩,fp,q⟩
  ·exact wpAny_pyIter_ascii ha ⟨s1.heap.objs.size,[s1.heap.objs.size],_,MW z,H1,rfl,I1.kept (t':=s1.toks) λ b o e=>k4 _ e,rj _ z t "str_ascii_iterator" (by decide) (λ A' hA=>Walks.strAscii hA _ z t) (λ _ _ _ _ _ st h=>wpAny_pyIter_striter_ascii st h),⟨_,o7 _ rfl,rfl,rfl⟩,fp,q⟩
 |ref a=>
  cases(show v=Value.ref a from r1)
  rcases q1 with⟨xs,hq,q⟩|⟨xs,hq,q⟩
  ·obtain⟨au,rv,p,hz⟩:=I1.list hq
   exact w5 p.isList ⟨s1.heap.objs.size,[s1.heap.objs.size],_,_,H1,rfl,I1.kept (t':=s1.toks) λ b o e=>k4 _ e,ym a _,⟨_,o7 _ rfl,rfl,rfl⟩,fp,q⟩
  ·obtain⟨au,rv,p,hz⟩:=I1.tuple hq
   exact wpAny_pyIter_tuple (show s1.heap.IsTuple a au.toArray from p) ⟨s1.heap.objs.size,[s1.heap.objs.size],_,_,H1,rfl,I1.kept (t':=s1.toks) λ b o e=>k4 _ e,uL a _,⟨_,o7 _ rfl,rfl,rfl⟩,fp,q⟩
 |_=>exact False.elim q1
end
end L2
namespace L2
open PySem PySem.Spec PyProof.Rows
inductive IK where
 |i (n:Int)
 |t (ks:List IK)
noncomputable instance:DecidableEq IK:=λ a b=>Classical.propDecidable (a=b)
mutual
def IK.dep:IK->Nat
 | .i _=>0
 | .t ks=>IK.jm ks+1
def IK.jm:List IK->Nat
 |[]=>0
 |k::ks=>max k.dep (IK.jm ks)
end
mutual
def Cu:IK->Int
 | .i n=>hashInt n
 | .t ks=>reduceHash (Builtin.Tuple.tupleHashOf (qg ks))
def qg:List IK->List Int
 |[]=>[]
 |k::ks=>Cu k::qg ks
end
mutual
def zE:IK->Nat
 | .i _=>1
 | .t ks=>gH ks+1
def gH:List IK->Nat
 |[]=>0
 |k::ks=>zE k+gH ks
end
mutual
def df(h:Heap):IK->Value->Prop
 | .i n,v=>∃t,v=.int n t
 | .t ks,v=>∃(a:Addr) (o:Obj) (au:List Value) (n:Nat),v=.ref a/\h.get? a=some o/\o.cls=.type "tuple"/\o.data=.seq au.toArray n/\cq h ks au
def cq(h:Heap):List IK->List Value->Prop
 |[],vs=>vs=[]
 |k::ks,vs=>∃v r,vs=v::r/\df h k v/\cq h ks r
end
mutual
def oK:IK->PyData
 | .i n=>.int n
 | .t ks=>.tuple (gG ks)
def gG:List IK->List PyData
 |[]=>[]
 |k::ks=>oK k::gG ks
end
theorem sW:∀ks:List IK,qg ks=ks.map Cu
 |[]=>by unfold qg;rfl
 |k::ks=>by unfold qg;rw[sW ks];rfl
theorem sV:∀(ks ls:List IK),gH (ks++ls)=gH ks+gH ls
 |[],ls=>by rw[A4];unfold gH;split <;> omega
 |k::ks,ls=>by
  rw[cons_append]
  have:=sV ks ls
  show zE k+gH (ks++ls)=zE k+gH ks+gH ls
  omega
theorem Cs(k:IK):gH [k]=zE k:=by show zE k+gH []=zE k;unfold gH;omega
theorem Ct:gH []=0:=by unfold gH;rfl
theorem jl:∀{ks:List IK} {k:IK},k∈ks->k.dep<=IK.jm ks
 |k0::ks,k,h=>by
  show k.dep<=max k0.dep (IK.jm ks)
  rcases C7.mp h with rfl|h
  ·exact Nat.le_max_left _ _
  ·exact D9 (jl h) (Nat.le_max_right _ _)
section
variable {prog:Program}{w:World}
theorem Gq:∀(n:Nat) (k:IK),k.dep<=n->∀{A:Around} {E:Value->Shared->Prop} {s:Shared} {v:Value} {Q:Int->Shared->Prop},A.units+k.dep < cLine->df s.heap k v->Q (Cu k) {s with toks:=s.toks+zE k}->wpAny (model prog w) A (pyHash v) Q E s:=by
 intro n
 induction n with
 |zero=>
  intro k hk A E s v Q hu hi h
  cases k with
  |i m=>
   unfold df at hi
   obtain⟨t,rfl⟩:=hi
   unfold Cu zE at h
   exact wpAny_pyHash_int h
  |t ks=>unfold IK.dep at hk;omega
 |succ n ih=>
  intro k hk A E s v Q hu hi h
  cases k with
  |i m=>
   unfold df at hi
   obtain⟨t,rfl⟩:=hi
   unfold Cu zE at h
   exact wpAny_pyHash_int h
  |t ks=>
   unfold df at hi
   obtain⟨a,o,au,m,rfl,ho,hc,hd,hits⟩:=hi
   have je:IK.jm ks<=n:=by unfold IK.dep at hk;omega
   have Q4:A.units+(IK.jm ks+1) < cLine:=by unfold IK.dep at hu;exact hu
   have hT:s.TypeIs (.ref a) "tuple":=⟨o,ho,hc⟩
   unfold pyHash;(first|unfold pyHashByItsType|skip);(first|refine E9 (wpAny_cRoomFor_or (.inr (show A.units < cLine by omega)) ?_)|skip)
   refine E9 (wpAny_specialOf hT F.slot_tuple_hash.lookup ?_);show wpAny _ _ (if(some (Value.builtin "tuple.__hash__")==some Value.none)=true then _ else _) Q E s;rw[J5 (by rw[beq_builtin_none];exact o9)]
   refine E9 (wpAny_specialOf hT F.slot_tuple_hash.lookup ?_);show wpAny _ _ (callSpecialIfBoundUnlessNone? (.ref a) "__hash__" _ >>= _) Q E s
   refine E9 (wpAny_callSpecialIfBoundUnlessNone?_slot hT F.slot_tuple_hash (y9 F.slot_tuple_hash hT F.entry_tuple_hash ?_ (F.args_tuple_hash_1 _)));show wpAny _ _ (Builtin.Tuple.tupleItemsOf (.ref a) >>= _) _ _ s
   refine E9 (wpAny_tupleItemsOf ho hd (E9 ?_));rw[<- Array.forIn_toList]
   refine wpAny_forIn_list _ (λ rest (b:Array Int) s'=>∃done left,ks=done++left/\cq s.heap left rest/\b.toList=done.map Cu/\s'={s with toks:=s.toks+gH done}) _ ?_ ?_ _ _ ⟨[],ks,rfl,hits,rfl,by rw[Ct];rfl⟩
   ·rintro x rest b s' ⟨done,left,rfl,hl,hb,rfl⟩
    cases left with
    |nil=>unfold cq at hl;cases hl
    |cons k1 left=>
     unfold cq at hl
     obtain⟨v,r,e,h1,h2⟩:=hl
     cases e
     have hm:=jl (ks:=done++k1::left) (k:=k1) (by simp)
     refine E9 (ih k1 (by omega) (A:=A.in1) (show A.units+1+_ < cLine by omega) h1 ?_)
     have fin:∃d2 l2,done++k1::left=d2++l2/\cq s.heap l2 rest/\(b.push (Cu k1)).toList=d2.map Cu/\({s with toks:=s.toks+gH done+zE k1}:Shared)={s with toks:=s.toks+gH d2}:=
      ⟨done++[k1],left,by simp,h2,by simp[hb],by rw[sV,Cs,Nat.add_assoc]⟩
     first|exact G0 fin|exact E9 (G0 (G0 fin))
   ·rintro b s' ⟨done,left,rfl,hl,hb,rfl⟩
    cases left with
    |cons k1 left=>unfold cq at hl;obtain⟨v,r,e,_⟩:=hl;cases e
    |nil=>
     rw[A3]at h
     show wpAny _ _ (retInt (Builtin.Tuple.tupleHashOf b.toList)) _ _ _;rw[hb,<- sW];refine wpAny_ret_mkInt ?_
     show wpAny _ _ (if(decide (-(2:Int)^63<=Builtin.Tuple.tupleHashOf (qg done))&&decide (Builtin.Tuple.tupleHashOf (qg done) < 2^63))=true then _ else _) Q E _
     unfold Cu zE reduceHash at h
     by_cases hr:(decide (-(2:Int)^63<=Builtin.Tuple.tupleHashOf (qg done))&&decide (Builtin.Tuple.tupleHashOf (qg done) < 2^63))=true
     ·rw[J4 hr]at h ⊢;exact G0 (by simpa[Nat.add_assoc]using h)
     ·rw[J5 hr]at h ⊢;exact E9 (G5 (G0 (by simpa[Nat.add_assoc]using h)))
end
end L2
namespace L2
open PySem PySem.Spec PyProof.Rows
mutual
theorem mV{h:Heap}:∀(k:IK) {v:Value},df h k v->∃as,Reads h v (oK k) as
 | .i n,v,x=>by
  unfold df at x
  obtain⟨t,rfl⟩:=x
  unfold oK
  exact⟨_,Reads.int n t⟩
 | .t ks,v,x=>by
  unfold df at x
  obtain⟨a,o,au,n,rfl,ho,hc,hd,q⟩:=x
  obtain⟨as,r⟩:=oJ ks q
  unfold oK
  exact⟨_,reads_tuple_at ho hc hd (by simpa using r)⟩
theorem oJ{h:Heap}:∀(ks:List IK) {vs:List Value},cq h ks vs->∃as,ReadsAll h vs (gG ks) as
 |[],vs,x=>by
  unfold cq at x
  subst x
  unfold gG
  exact⟨_,ReadsAll.nil⟩
 |k::ks,vs,x=>by
  unfold cq at x
  obtain⟨v,r,rfl,h1,h2⟩:=x
  obtain⟨as,a⟩:=mV k h1
  obtain⟨bs,b⟩:=oJ ks h2
  unfold gG
  exact⟨_,ReadsAll.cons a b⟩
end
mutual
theorem qe:∀k:IK,(oK k).canLay0=true
 | .i n=>by unfold oK;simp[PyData.canLay0]
 | .t ks=>by unfold oK;simp only[PyData.canLay0];exact sT ks
theorem sT:∀ks:List IK,PyData.canLayAll0 (gG ks)=true
 |[]=>by unfold gG;simp[PyData.canLayAll0]
 |k::ks=>by unfold gG;simp only[PyData.canLayAll0];rw[qe k,sT ks];rfl
end
mutual
theorem qf:∀k:IK,(oK k).depth=k.dep
 | .i n=>by unfold oK IK.dep;simp[PyData.depth]
 | .t ks=>by unfold oK IK.dep;simp only[PyData.depth];rw[sU ks]
theorem sU:∀ks:List IK,PyData.depthAll (gG ks)=IK.jm ks
 |[]=>by unfold gG IK.jm;simp[PyData.depthAll]
 |k::ks=>by unfold gG IK.jm;simp only[PyData.depthAll];rw[qf k,sU ks]
end
mutual
theorem Cr:∀a b:IK,PyData.eqv (oK a) (oK b)=true↔a=b
 | .i n,.i m=>by unfold oK;simp[PyData.eqv]
 | .i n,.t ks=>by unfold oK;simp[PyData.eqv]
 | .t ks,.i n=>by unfold oK;simp[PyData.eqv]
 | .t ks,.t ls=>by unfold oK;simp only[PyData.eqv,IK.t.injEq];exact xt ks ls
theorem xt:∀as bs:List IK,PyData.eqvAll (gG as) (gG bs)=true↔as=bs
 |[],[]=>by unfold gG;simp[PyData.eqvAll]
 |[],b::bs=>by unfold gG;simp[PyData.eqvAll]
 |a::as,[]=>by unfold gG;simp[PyData.eqvAll]
 |a::as,b::bs=>by
  unfold gG
  simp only[PyData.eqvAll,z9,List.cons.injEq]
  rw[Cr a b,xt as bs]
end
mutual
theorem Cp{h:Heap}:∀(x y:IK) {v:Value},df h x v->df h y v->x=y
 | .i n,.i m,v,a,b=>by
  unfold df at a b
  obtain⟨t,rfl⟩:=a
  obtain⟨u,e⟩:=b
  cases e
  rfl
 | .i n,.t ks,v,a,b=>by
  unfold df at a b
  obtain⟨t,rfl⟩:=a
  obtain⟨_,_,_,_,e,_⟩:=b
  cases e
 | .t ks,.i n,v,a,b=>by
  unfold df at a b
  obtain⟨t,rfl⟩:=b
  obtain⟨_,_,_,_,e,_⟩:=a
  cases e
 | .t ks,.t ls,v,a,b=>by
  unfold df at a b
  obtain⟨a1,o1,i1,n1,rfl,g1,_,d1,q1⟩:=a
  obtain⟨a2,o2,i2,n2,e,g2,_,d2,q2⟩:=b
  cases e
  rw[g1]at g2
  cases g2
  rw[d1]at d2
  cases d2
  rw[xq ks ls q1 q2]
theorem xq{h:Heap}:∀(xs ys:List IK) {vs:List Value},cq h xs vs->cq h ys vs->xs=ys
 |[],[],vs,_,_=>rfl
 |[],y::ys,vs,a,b=>by
  unfold cq at a b
  subst a
  obtain⟨_,_,e,_⟩:=b
  cases e
 |x::xs,[],vs,a,b=>by
  unfold cq at a b
  subst b
  obtain⟨_,_,e,_⟩:=a
  cases e
 |x::xs,y::ys,vs,a,b=>by
  unfold cq at a b
  obtain⟨v,r,rfl,a1,a2⟩:=a
  obtain⟨v2,r2,e,b1,b2⟩:=b
  cases e
  rw[Cp x y a1 b1,xq xs ys a2 b2]
end
theorem Lv{h:Heap}{k:IK}{v:Value}(x:df h k v){d:Addr}{o:Obj}{es:Array DictEntry}{ep:Nat}(ho:h.get? d=some o)(hd:o.data=.dict es ep){h':Heap}(hs:Heap.SameBut d h h'):df h' k v:=by
 have gen:∀(n:Nat) (k:IK),k.dep<=n->∀v,df h k v->df h' k v:=by
  intro n
  induction n with
  |zero=>
   intro k hk v x
   cases k with
   |i m=>unfold df at x ⊢;exact x
   |t ks=>unfold IK.dep at hk;omega
  |succ n ih=>
   intro k hk v x
   cases k with
   |i m=>unfold df at x ⊢;exact x
   |t ks=>
    unfold df at x ⊢
    obtain⟨a,o',au,m,e,qj,hc,jf,r⟩:=x
    have f_:a≠d:=λ z=>by
     subst z
     rw[ho]at qj
     cases qj
     rw[hd]at jf
     cases jf
    refine⟨a,o',au,m,e,(hs.2 a f_).trans qj,hc,jf,?_⟩
    have je:IK.jm ks<=n:=by unfold IK.dep at hk;omega
    have all:∀(ls:List IK) (vs:List Value),(∀l∈ls,l.dep<=n)->cq h ls vs->cq h' ls vs:=by
     intro ls
     induction ls with
     |nil=>intro vs _ y;unfold cq at y ⊢;exact y
     |cons l ls Vt=>
      intro vs hl y
      unfold cq at y ⊢
      obtain⟨v,r,e,h1,h2⟩:=y
      exact⟨v,r,e,ih l (hl l (o8 ..)) v h1,Vt r (λ z hz=>hl z (m3 _ hz)) h2⟩
    exact all ks au (λ l hl=>D9 (jl hl) je) r
 exact gen k.dep k (E1 _) v x
section
variable {prog:Program}{w:World}
theorem Co:∀(n:Nat) (k:IK),k.dep<=n->∀{A:Around} {E:Value->Shared->Prop} {s:Shared} {v:Value} {Q:Bool->Shared->Prop},df s.heap k v->Q true s->wpAny (model prog w) A (eqIsQuiet n v) Q E s:=by
 intro n
 induction n with
 |zero=>
  intro k hk A E s v Q hi h
  cases k with
  |i m=>
   unfold df at hi
   obtain⟨t,rfl⟩:=hi
   rw[eqIsQuiet_byValue _ rfl]
   exact G0 h
  |t ks=>unfold IK.dep at hk;omega
 |succ n ih=>
  intro k hk A E s v Q hi h
  cases k with
  |i m=>
   unfold df at hi
   obtain⟨t,rfl⟩:=hi
   rw[eqIsQuiet_byValue _ rfl]
   exact G0 h
  |t ks=>
   unfold df at hi
   obtain⟨a,o,au,m,rfl,ho,hc,hd,hits⟩:=hi
   have je:IK.jm ks<=n:=by unfold IK.dep at hk;omega
   have hT:s.TypeIs (.ref a) "tuple":=⟨o,ho,hc⟩
   unfold eqIsQuiet;refine E9 (wpAny_specialOf hT F.slot_tuple_eq.lookup ?_);show wpAny _ _ (isInstance (.ref a) (.type "tuple") >>= _) _ _ s
   refine E9 (wpAny_isInstance hT isSubtype_tuple_tuple ?_);simp only[Bool.not_true,p6,H9]
   refine E9 (B9 ho hd (E9 ?_));show wpAny _ _ (forIn au.toArray _ _) _ _ s;rw[<- Array.forIn_toList]
   refine wpAny_forIn_list _ (λ rest r s'=>r.1=none/\s'=s/\∃left,(∀l∈left,l∈ks)/\cq s.heap left rest) _ ?_ ?_ _ _ ⟨rfl,rfl,ks,λ l hl=>hl,hits⟩
   ·rintro x rest r s' ⟨hr,rfl,left,OR,hl⟩
    cases left with
    |nil=>unfold cq at hl;cases hl
    |cons k1 left=>
     unfold cq at hl
     obtain⟨v,r',e,h1,h2⟩:=hl
     cases e
     refine E9 (ih k1 (D9 (jl (OR k1 (o8 ..))) je) h1 ?_);simp only[Bool.not_true,p6,H9]
     exact G0 ⟨rfl,rfl,left,λ l hl=>OR l (m3 _ hl),h2⟩
   ·rintro⟨r1,r2⟩ s' ⟨hr,rfl,_⟩
    simp only at hr
    subst hr
    exact G0 h
def iK(prog:Program)(w:World):HeapKind prog w IK where
 is:=λ h k a=>k.dep<=5/\df h k (.ref a)
 hash:=Cu
 draws:=zE
 room:=λ A=>A.units+8 < cLine
 inj:=λ hx hy=>Cp _ _ hx.2 hy.2
 keeps:=λ x ho hd hs=>⟨x.1,Lv x.2 ho hd hs⟩
 pyHash:=λ hu hk h=>Gq 5 _ hk.1 (by have:=hk.1;omega) hk.2 h
 eqBool:=λ{A E s x y a b Q} hu hx hy h=>by
  obtain⟨as,ra⟩:=mV x hx.2
  obtain⟨bs,rb⟩:=mV y hy.2
  refine x5 (oK x) (oK y) A s _ _ _ _ ra rb (qe x) (qe y) ?_ prog w E Q ?_
  ·rw[qf,qf]
   have:=hx.1
   have:=Nat.min_le_left x.dep y.dep
   omega
  ·have e:PyData.eqv (oK x) (oK y)=decide (x=y):=by
    rw[A2,s9]
    exact Cr x y
   rw[e]
   exact h
 quiet:=λ hk h=>Co 8 _ (D9 hk.1 (by decide)) hk.2 h
end
end L2
namespace L2
open PySem PySem.Spec PyProof.Rows
section
variable {κ:Type}[DecidableEq κ]
def ie(kvs:List (κ×V))(k:κ):Option V:=(kvs.find? λ kv=>decide (kv.1=k)).map (·.2)
def putK(kvs:List (κ×V))(k:κ)(v:V):List (κ×V):=
 if(kvs.any λ kv=>decide (kv.1=k))=true then kvs.map (λ kv=>if kv.1=k then(kv.1,v)else kv)else kvs++[(k,v)]
theorem md{p:κ×V}{r:List (κ×V)}{k:κ}(e:p.1=k):ie (p::r) k=some p.2:=by simp[ie,A5,e]
theorem me{p:κ×V}{r:List (κ×V)}{k:κ}(e:¬p.1=k):ie (p::r) k=ie r k:=by simp[ie,A5,e]
theorem mf(k:κ):∀kvs:List (κ×V),(kvs.any λ kv=>decide (kv.1=k))=(ie kvs k).isSome
 |[]=>rfl
 |p::r=>by
  rw[any_cons]
  by_cases e:p.1=k
  ·simp only[md e,B8 e,Bool.true_or,Option.isSome_some]
  ·rw[me e,A6 e,Bool.false_or];exact mf k r
theorem kh(kvs:List (κ×V))(k:κ)(v:V):(putK kvs k v).length<=kvs.length+1:=by
 unfold putK
 split
 ·rw[B4];omega
 ·rw[p5,x9,length_nil];omega
theorem js.d_ {o:Option V}{u:Option Value}(r:js o u):o.isSome=u.isSome:=by
 cases o with
 |none=>cases u with
  |none=>rfl
  |some _=>exact(show False from r).elim
 |some _=>cases u with
  |none=>exact(show False from r).elim
  |some _=>rfl
theorem KV.val {kvs:List (κ×V)}{vs:List (κ×Value)}(r:KV kvs vs)(k:κ):js (ie kvs k) (valueAt vs k):=by
 unfold KV at r
 induction r with
 |nil=>exact True.intro
 |@cons p q ps qs h t ih=>
  obtain⟨h1,h2⟩:=h
  by_cases e:p.1=k
  ·have e':q.1=k:=h1.symm.trans e
   have b:valueAt (q::qs) k=some q.2:=by simp[valueAt,A5,e']
   rw[md e,b];exact h2
  ·have e':¬q.1=k:=λ z=>e (h1.trans z)
   have b:valueAt (q::qs) k=valueAt qs k:=by simp[valueAt,A5,e']
   rw[me e,b];exact ih
theorem KV.any {kvs:List (κ×V)}{vs:List (κ×Value)}(r:KV kvs vs)(k:κ):(kvs.any λ kv=>decide (kv.1=k))=vs.any λ kv=>decide (kv.1=k):=by
 unfold KV at r
 induction r with
 |nil=>rfl
 |cons h t ih=>rw[any_cons,any_cons,ih,h.1]
theorem KV.Ax {kvs:List (κ×V)}{vs:List (κ×Value)}(r:KV kvs vs)(k:κ){y:V}{u:Value}(ry:RelV y u):
  KV (kvs.map λ kv=>if kv.1=k then(kv.1,y)else kv) (vs.map λ kv=>if kv.1=k then(kv.1,u)else kv):=by
 unfold KV at r ⊢
 induction r with
 |nil=>exact .nil
 |@cons p q ps qs h t ih=>
  rw[C6,C6]
  refine .cons ?_ ih
  obtain⟨h1,h2⟩:=h
  by_cases e:p.1=k
  ·rw[J4 e,J4 (h1.symm.trans e)];exact⟨h1,ry⟩
  ·rw[J5 e,J5 (λ z=>e (h1.trans z))];exact⟨h1,h2⟩
theorem KV.put {kvs:List (κ×V)}{vs:List (κ×Value)}(r:KV kvs vs)(k:κ){y:V}{u:Value}(ry:RelV y u):KV (putK kvs k y) (stored vs k u):=by
 unfold putK stored
 rw[r.any k]
 by_cases e:(vs.any λ kv=>decide (kv.1=k))=true
 ·rw[J4 e,J4 e];exact r.Ax k ry
 ·rw[J5 e,J5 e];exact Paired.snoc r ⟨rfl,ry⟩
theorem KV.length {kvs:List (κ×V)}{vs:List (κ×Value)}(r:KV kvs vs):kvs.length=vs.length:=C4 r
end
theorem sQ{P:Program}{w:World}{k:Key}{u:Value}(r:RelV (kV k) u):(cm P w).is k u=true:=by
 cases k with
 |inl i=>obtain⟨t,e⟩:=(show ∃t,u=Value.int i t from r);subst e;exact kg P w i t
 |inr x=>obtain⟨t,e⟩:=(show ∃t,u=Value.str x t from r);subst e;exact sm P w x t
theorem oI{P:Program}{w:World}:∀{ks:List Key} {us:List Value},Vals (ks.map kV) us->ItemsAre (cm P w) ks us
 |[],_,r=>by rw[map_nil]at r;cases r;exact .nil
 |k::ks,_,r=>by
  rw[C6]at r
  cases r with
  |cons h t=>exact .cons (sQ h) (oI t)
abbrev KT(H:Hp):List (List Key×V)->List (List Key×Addr×Value)->Prop:=Paired λ p q=>p.1=q.1/\H q.2.1=some (.tup (p.1.map kV))/\RelV p.2 q.2.2
theorem KT.val {H:Hp}{kvs:List (List Key×V)}{xs:List (List Key×Addr×Value)}(r:KT H kvs xs)(k:List Key):js (ie kvs k) ((atKey xs k).map (·.2)):=by
 induction r with
 |nil=>exact True.intro
 |@cons p q ps qs h t ih=>
  obtain⟨h1,_,h2⟩:=h
  by_cases e:p.1=k
  ·have e':q.1=k:=h1.symm.trans e
   have b:atKey (q::qs) k=some q.2:=by simp[atKey,A5,e']
   rw[md e,b];exact h2
  ·have e':¬q.1=k:=λ z=>e (h1.trans z)
   have b:atKey (q::qs) k=atKey qs k:=by simp[atKey,A5,e']
   rw[me e,b];exact ih
theorem KT.Ax {H:Hp}{kvs:List (List Key×V)}{xs:List (List Key×Addr×Value)}(r:KT H kvs xs)(k:List Key){y:V}{u:Value}(ry:RelV y u):
  KT H (kvs.map λ kv=>if kv.1=k then(kv.1,y)else kv) (xs.map (putAt k u)):=by
 induction r with
 |nil=>exact .nil
 |@cons p q ps qs h t ih=>
  rw[C6,C6]
  refine .cons ?_ ih
  obtain⟨h1,h2,h3⟩:=h
  unfold putAt
  by_cases e:p.1=k
  ·rw[J4 e,J4 (h1.symm.trans e)];exact⟨h1,h2,ry⟩
  ·rw[J5 e,J5 (λ z=>e (h1.trans z))];exact⟨h1,h2,h3⟩
theorem KT.put {H:Hp}{kvs:List (List Key×V)}{xs:List (List Key×Addr×Value)}(r:KT H kvs xs)(k:List Key){b:Addr}{y:V}{u:Value}(hb:H b=some (.tup (k.map kV)))(ry:RelV y u):
  KT H (putK kvs k y) (storedH xs k b u):=by
 have e:(kvs.any λ kv=>decide (kv.1=k))=(atKey xs k).isSome:=by
  rw[mf,(r.val k).d_,w9]
 unfold putK storedH
 rw[e]
 by_cases q:(atKey xs k).isSome=true
 ·rw[J4 q,J4 q];exact r.Ax k ry
 ·rw[J5 q,J5 q];exact Paired.snoc r ⟨rfl,hb,ry⟩
theorem KT.keeps {H H':Hp}{kvs:List (List Key×V)}{xs:List (List Key×Addr×Value)}(r:KT H kvs xs)(ht:∀b ys,H b=some (.tup ys)->H' b=some (.tup ys)):KT H' kvs xs:=
 Paired.BJ r λ _ _ z=>⟨z.1,ht _ _ z.2.1,z.2.2⟩
section
variable {P:Program}{w:World}{H:Hp}{h:Heap}{a:Addr}
theorem HC{u:HO}(ok:iD P w H h)(e:Rd H a u):bL P w H h a u:=e.ok ok
theorem oT{kvs:List (Key×V)}(ok:iD P w H h)(e:Rd H a (.dK kvs)):kvs.length<=sizeLine/\(a==sysModules)=false/\∃vs,KV kvs vs/\h.DictOf (cm P w) a vs:=
 show bL P w H h a (.dK kvs)from HC ok e
theorem Ph{kvs:List (Key×V)}(ok:iD P w H h)(e:H a=some (.dK kvs)):kvs.length<=sizeLine/\(a==sysModules)=false/\∃vs,KV kvs vs/\h.DictOf (cm P w) a vs:=oT ok (.inl e)
theorem mS{ks:List Key}(ok:iD P w H h)(e:H a=some (.tup (ks.map kV))):(tupleKind (cm P w)).is h ks a:=by
 obtain⟨_,au,r,o,h1,h2,n,h3⟩:=(show bL P w H h a (.tup (ks.map kV))from ok a _ e)
 exact⟨o,au.toArray,n,h1,h2,h3,by simpa using oI r⟩
theorem tG{kvs:List (List Key×V)}(ok:iD P w H h)(e:Rd H a (.dT kvs)):kvs.length<=sizeLine/\(a==sysModules)=false/\
  ∃xs,KT H kvs xs/\h.DictOfH (tupleKind (cm P w)) a xs:=by
 obtain⟨z,y,xs,r,o,es,ep,h1,h2,h3,h4,h5⟩:=(show bL P w H h a (.dT kvs)from HC ok e)
 refine⟨z,y,xs,r,o,es,ep,h1,h2,h3,h4,λ x hx=>?_,h5⟩
 have all:∀{l:List (List Key×V)} {m:List (List Key×Addr×Value)},KT H l m->∀x∈m,(tupleKind (cm P w)).is h x.1 x.2.1:=by
  intro l m q
  induction q with
  |nil=>intro x hx;exact nomatch hx
  |@cons p q ps qs hq t ih=>
   intro x hx
   rcases C7.mp hx with e|hx
   ·subst e
    exact mS ok (by rw[<- hq.1];exact hq.2.1)
   ·exact ih x hx
 exact all r x hx
theorem Pg{kvs:List (List Key×V)}(ok:iD P w H h)(e:H a=some (.dT kvs)):kvs.length<=sizeLine/\(a==sysModules)=false/\
  ∃xs,KT H kvs xs/\h.DictOfH (tupleKind (cm P w)) a xs:=tG ok (.inl e)
end
def nZ(H:Hp)(a:Addr)(y:V)(r:Option V):Prop:=
 (∃kvs k,Rd H a (.dK kvs)/\y=kV k/\r=ie kvs k)\/∃kvs k b,Rd H a (.dT kvs)/\y=.ref b/\H b=some (.tup (k.map kV))/\r=ie kvs k
def Dw(H:Hp)(a:Addr)(y v:V)(H':Hp):Prop:=
 (∃kvs k,H a=some (.dK kvs)/\y=kV k/\kvs.length < sizeLine/\H'=upd H a (.dK (putK kvs k v)))\/
 ∃kvs k b,H a=some (.dT kvs)/\y=.ref b/\H b=some (.tup (k.map kV))/\kvs.length < sizeLine/\H'=upd H a (.dT (putK kvs k v))
theorem nZ.k {H:Hp}{a:Addr}{kvs:List (Key×V)}{k:Key}(e:H a=some (.dK kvs)):nZ H a (kV k) (ie kvs k):=.inl ⟨kvs,k,.inl e,rfl,rfl⟩
theorem Dw.k {H:Hp}{a:Addr}{kvs:List (Key×V)}{k:Key}{v:V}(e:H a=some (.dK kvs))(hl:kvs.length < sizeLine):Dw H a (kV k) v (upd H a (.dK (putK kvs k v))):=.inl ⟨kvs,k,e,rfl,hl,rfl⟩
section
variable {X:Cx}{pins:List (Addr×Obj)}{σ:St}{H:Hp}{s:Shared}{a:Addr}{y v:V}{u r:Value}{o:Option V}{A:Around}{E:Value->Shared->Prop}
theorem Inv.big (I:Inv X pins σ H s):sysModules < s.heap.objs.size:=by
 have h:mainGlobals < s.heap.objs.size:=(I.mod.glob.keeps I.bk).lt
 exact Nat.lt_trans (by decide) h
theorem zl{Q:Value->Shared->Prop}(hu:A.units+1 < cLine)(I:Inv X pins σ H s)(g:nZ H a y (some v))(ry:RelV y u)(h:∀w' s',Inv X pins σ H s'->RelV v w'->Q w' s'):
  wpAny (model X.prog X.w) A (getItem (.ref a) u) Q E s:=by
 rcases g with⟨kvs,k,e,ey,l⟩|⟨kvs,k,b,e,ey,eb,l⟩
 ·subst ey
  obtain⟨z,hd,vs,rel,dd⟩:=oT I.bN e
  obtain⟨w',hw,uW⟩:=js.some_of (v:=v) (o:=valueAt vs k) (by rw[l];exact rel.val k)
  exact wpAny_getItem_of (sQ ry) dd.mapOf hw (h w' _ (I.tok _) uW)
 ·subst ey
  cases(show u=Value.ref b from ry)
  obtain⟨z,hd,xs,rel,dd⟩:=tG I.bN e
  obtain⟨w',hw,uW⟩:=js.some_of (v:=v) (o:=(atKey xs k).map (·.2)) (by rw[l];exact rel.val k)
  obtain⟨p,hp,gT⟩:=Option.map_eq_some_iff.mp hw
  refine wpAny_getItem_heap (tupleKind_room_in1 hu) (mS I.bN eb) dd hp ?_
  rw[gT]
  exact h w' _ (I.tok _) uW
theorem TX{Q:Value->Shared->Prop}(hu:A.units+1 < cLine)(I:Inv X pins σ H s)(g:nZ H a y o)(ry:RelV y u)(h:∀s',Inv X pins σ H s'->Q (.bool o.isSome) s'):
  wpAny (model X.prog X.w) A (compareOp .In u (.ref a)) Q E s:=by
 rcases g with⟨kvs,k,e,ey,l⟩|⟨kvs,k,b,e,ey,eb,l⟩
 ·subst ey
  obtain⟨z,hd,vs,rel,dd⟩:=oT I.bN e
  refine wpAny_in_of (sQ ry) hd dd.mapOf ?_
  rw[<- (rel.val k).d_,<- l]
  exact h _ (I.tok _)
 ·subst ey
  cases(show u=Value.ref b from ry)
  obtain⟨z,hd,xs,rel,dd⟩:=tG I.bN e
  refine wpAny_in_heap (tupleKind_room_in1 hu) (mS I.bN eb) hd dd ?_
  have q:=(rel.val k).d_
  rw[w9]at q
  rw[<- q,<- l]
  exact h _ (I.tok _)
theorem GV{Q:Value->Shared->Prop}(hu:A.units+1 < cLine)(I:Inv X pins σ H s)(g:nZ H a y o)(ry:RelV y u)(h:∀s',Inv X pins σ H s'->Q (.bool (!o.isSome)) s'):
  wpAny (model X.prog X.w) A (compareOp .NotIn u (.ref a)) Q E s:=by
 rcases g with⟨kvs,k,e,ey,l⟩|⟨kvs,k,b,e,ey,eb,l⟩
 ·subst ey
  obtain⟨z,hd,vs,rel,dd⟩:=oT I.bN e
  refine wpAny_notIn_of (sQ ry) hd dd.mapOf ?_
  rw[<- (rel.val k).d_,<- l]
  exact h _ (I.tok _)
 ·subst ey
  cases(show u=Value.ref b from ry)
  obtain⟨z,hd,xs,rel,dd⟩:=tG I.bN e
  refine wpAny_notIn_heap (tupleKind_room_in1 hu) (mS I.bN eb) hd dd ?_
  have q:=(rel.val k).d_
  rw[w9]at q
  rw[<- q,<- l]
  exact h _ (I.tok _)
theorem lT{h':Heap}{t':Nat}{ob:HO}(I:Inv X pins σ H s)(mu:PQ (H a))(hs:Heap.SameBut a s.heap h')(he:∃q,h'.get? a=some q)(new:bL X.prog X.w (upd H a ob) h' a ob):
  Inv X pins σ (upd H a ob) {s with heap:=h',toks:=t'}:=
 I.write (x:=a) (e:=a) mu (.inl rfl) (λ b q hb z=>(hs.2 b hb).trans z) he new
theorem LW{P:Program}{w:World}{H':Hp}{h':Heap}{kvs:List (Key×V)}{vs:List (Key×Value)}(z:kvs.length<=sizeLine)(hd:(a==sysModules)=false)(rel:KV kvs vs)(dd:h'.DictOf (cm P w) a vs):
  bL P w H' h' a (.dK kvs):=⟨z,hd,vs,rel,dd⟩
theorem zj{H':Hp}{Q:Unit->Shared->Prop}(hu:A.units+1 < cLine)(I:Inv X pins σ H s)(g:Dw H a y v H')(ry:RelV y u)(rv:RelV v r)(h:∀s',Inv X pins σ H' s'->Q () s'):
  wpAny (model X.prog X.w) A (setItem (.ref a) u r) Q E s:=by
 rcases g with⟨kvs,k,e,ey,l,eH⟩|⟨kvs,k,b,e,ey,eb,l,eH⟩
 ·subst ey eH
  obtain⟨z,hd,vs,rel,dd⟩:=Ph I.bN e
  have hz:vs.length<=sizeLine:=by rw[<- rel.length];exact z
  have hl:(putK kvs k v).length<=sizeLine:=by have:=kh kvs k v;omega
  refine wpAny_setItem_pairs (hsz:=hz) (sQ ry) dd λ h' Ij hs=>h _ ?_
  have he:∃q,h'.get? a=some q:=let⟨q,_,_,hq,_⟩:=Ij;⟨q,hq⟩
  exact lT I (by rw[e];exact True.intro) hs he (LW hl hd (rel.put k rv) Ij)
 ·subst ey eH
  cases(show u=Value.ref b from ry)
  obtain⟨z,hd,xs,rel,dd⟩:=Pg I.bN e
  have hz:xs.length<=sizeLine:=by rw[<- C4 rel];exact z
  have hl:(putK kvs k v).length<=sizeLine:=by have:=kh kvs k v;omega
  refine wpAny_setItem_heap (hsz:=hz) (tupleKind_room_in1 hu) (mS I.bN eb) dd λ h' Ij hs=>h _ ?_
  obtain⟨q,es,ep,hq,h2,h3,h4,_,h5⟩:=Ij
  refine lT I (by rw[e];exact True.intro) hs ⟨q,hq⟩ ⟨hl,hd,_,(rel.put k eb rv).keeps λ c ys ec=>?_,q,es,ep,hq,h2,h3,h4,h5⟩
  rw[aP (aZ ec e (λ z=>nomatch z))]
  exact ec
end
section
variable {X:Cx}{pins:List (Addr×Obj)}{σ:St}{H:Hp}{s:Shared}{a:Addr}{kvs:List (Key×V)}{k:Key}{u:Value}{A:Around}{E:Value->Shared->Prop}
theorem Pl{Q:Value->Shared->Prop}(I:Inv X pins σ H s)(e:Rd H a (.dK kvs))(h:∀t s',Inv X pins σ H s'->Q (.int kvs.length t) s'):wpAny (model X.prog X.w) A (call (.builtin "len") [.ref a]) Q E s:=by
 obtain⟨z,hd,vs,rel,dd⟩:=oT I.bN e
 refine call_len_dict hd dd (by rw[<- rel.length];rw[E2]at z;omega) ?_
 rw[<- rel.length]
 exact h _ _ (I.tok _)
end
theorem tI{X:Cx}{pins:List (Addr×Obj)}{σ:St}{H:Hp}{s:Shared}{a:Addr}{y:V}{o:Option V}(I:Inv X pins σ H s)(g:nZ H a y o):s.TypeIs (.ref a) "dict":=by
 rcases g with⟨kvs,k,e,_,_⟩|⟨kvs,k,b,e,_,_,_⟩
 ·obtain⟨_,_,vs,_,dd⟩:=oT I.bN e
  exact dd.typeIs
 ·obtain⟨_,_,xs,_,dd⟩:=tG I.bN e
  exact dd.typeIs
theorem CQ{P:Program}{w:World}{H:Hp}(h:Heap)(hb:sysModules < h.objs.size):bL P w H (h.push {cls:=.type "dict",data:=.dict #[]}) h.objs.size (.dK []):=
 ⟨E3 _,beq_eq_false_iff_ne.mpr (J3 (D1 hb)),[],.nil,Heap.DictOf.new h⟩
def IP:TE:=λ _ H Q=>∀p,H p=none->Q (.ref p) (upd H p (.dK []))
section
variable {X:Cx}{pos:Pos}
theorem Bo:PE X (.Dict [] [] pos) IP:=λ pins s σ H Q I h=>
 wpAny_Dict_empty ⟨.ref s.heap.objs.size,_,I.laid (a:=s.heap.objs.size) (o:=.dK []) (t':=s.toks) (λ _ _ q=>k4 _ q) (E1 _) (CQ s.heap I.big),rfl,h _ (I.bN.fresh (E1 _))⟩
end
end L2
namespace L2
open PySem PySem.Spec PyProof.Rows
mutual
def gF(K:PySem.W.Frag)(H:Hp):IK->V->Prop
 | .i n,v=>v=.int n
 | .t ks,v=>∃p xs,v=.ref p/\fz K H p xs/\km K H ks xs
def km(K:PySem.W.Frag)(H:Hp):List IK->List V->Prop
 |[],xs=>xs=[]
 |k::ks,xs=>∃x r,xs=x::r/\gF K H k x/\km K H ks r
end
section
variable {X:Cx}{pins:List (Addr×Obj)}{σ:St}{H:Hp}{s:Shared}
mutual
theorem mQ(I:Inv X pins σ H s):∀(k:IK) {v:V} {u:Value},gF X.K H k v->RelV v u->df s.heap k u
 | .i n,v,u,h,r=>by
  unfold gF at h
  subst h
  unfold df
  exact r
 | .t ks,v,u,h,r=>by
  unfold gF at h
  obtain⟨p,xs,rfl,hq,hk⟩:=h
  cases(show u=Value.ref p from r)
  obtain⟨au,rv,⟨o,ho,hc,n,hd⟩,_⟩:=I.tuple hq
  unfold df
  exact⟨p,o,au,n,rfl,ho,hc,hd,xj I ks hk rv⟩
theorem xj(I:Inv X pins σ H s):∀(ks:List IK) {xs:List V} {us:List Value},km X.K H ks xs->Vals xs us->cq s.heap ks us
 |[],xs,us,h,r=>by
  unfold km at h
  subst h
  cases r
  unfold cq
  rfl
 |k::ks,xs,us,h,r=>by
  unfold km at h
  obtain⟨x,Rz,rfl,h1,h2⟩:=h
  cases r with
  |cons r1 r2=>
   unfold cq
   exact⟨_,_,rfl,mQ I k h1 r1,xj I ks h2 r2⟩
end
end
abbrev eM:=IK×Addr×V
def Pe(x:IK×Addr×Value):DictEntry:=⟨Cu x.1,.ref x.2.1,x.2.2⟩
abbrev x_:List eM->List (IK×Addr×Value)->Prop:=Paired λ p q=>p.1=q.1/\p.2.1=q.2.1/\RelV p.2.2 q.2.2
def TU(a:Addr)(kvs:List eM)(h:Heap):Prop:=kvs.length<=sizeLine/\(a==sysModules)=false/\∃xs,x_ kvs xs/\∃o es ep,h.get? a=some o/\o.ExactDict/\o.data=.dict es ep/\es.toList=xs.map Pe/\(xs.map (·.1)).Nodup
def nQ(a:Addr)(kvs:List eM):HO:=.ext (TU a kvs)
theorem qp{P:Program}{w:World}{H:Hp}{h:Heap}{a:Addr}{kvs:List eM}(x:TU a kvs h):bL P w H h a (nQ a kvs):=by
 obtain⟨z,y,xs,r,o,es,ep,e,c⟩:=id x
 exact⟨x,⟨o,e⟩,λ h1 h2 ⟨z,y,xs,r,o,es,ep,e,c⟩ q=>⟨z,y,xs,r,o,es,ep,q o e,c⟩⟩
noncomputable def iJ (kvs:List eM)(k:IK):Option V:=(kvs.find? λ p=>decide (p.1=k)).map (·.2.2)
noncomputable def iS (kvs:List eM)(k:IK)(p:Addr)(v:V):List eM:=if(iJ kvs k).isSome=true then kvs.map (λ x=>if x.1=k then(x.1,x.2.1,v)else x)else kvs++[(k,p,v)]
theorem rR(kvs:List eM)(k:IK)(p:Addr)(v:V):(iS kvs k p v).length<=kvs.length+1:=by
 unfold iS
 split
 ·simp
 ·simp
theorem x_.val {kvs:List eM}{xs:List (IK×Addr×Value)}(r:x_ kvs xs)(k:IK):js (iJ kvs k) ((atKey xs k).map (·.2)):=by
 induction r with
 |nil=>exact True.intro
 |@cons p q ps qs h t ih=>
  obtain⟨h1,_,h2⟩:=h
  unfold iJ atKey at ih ⊢
  by_cases e:p.1=k
  ·have e':q.1=k:=h1.symm.trans e
   simp only[A5,B8 e,B8 e',Option.map_some]
   exact h2
  ·have e':¬q.1=k:=λ z=>e (h1.trans z)
   simp only[A5,A6 e,A6 e']
   exact ih
theorem x_.Ax {kvs:List eM}{xs:List (IK×Addr×Value)}(r:x_ kvs xs)(k:IK){y:V}{u:Value}(ry:RelV y u):x_ (kvs.map λ x=>if x.1=k then(x.1,x.2.1,y)else x) (xs.map (putAt k u)):=by
 induction r with
 |nil=>exact .nil
 |@cons p q ps qs h t ih=>
  rw[C6,C6]
  refine .cons ?_ ih
  obtain⟨h1,h2,h3⟩:=h
  unfold putAt
  by_cases e:p.1=k
  ·rw[J4 e,J4 (h1.symm.trans e)];exact⟨h1,h2,ry⟩
  ·rw[J5 e,J5 (λ z=>e (h1.trans z))];exact⟨h1,h2,h3⟩
theorem qc{o:Option V}{u:Option Value}(r:js o u):o.isSome=u.isSome:=r.d_
theorem x_.put {kvs:List eM}{xs:List (IK×Addr×Value)}(r:x_ kvs xs)(k:IK){b:Addr}{y:V}{u:Value}(ry:RelV y u):x_ (iS kvs k b y) (storedH xs k b u):=by
 have e:(iJ kvs k).isSome=(atKey xs k).isSome:=by
  rw[qc (r.val k),w9]
 unfold iS storedH
 rw[e]
 by_cases q:(atKey xs k).isSome=true
 ·rw[J4 q,J4 q];exact r.Ax k ry
 ·rw[J5 q,J5 q];exact Paired.snoc r ⟨rfl,rfl,ry⟩
structure nF(K:PySem.W.Frag)(H:Hp)(a:Addr)(kvs:List eM):Prop where
 at_:H a=some (nQ a kvs)
 key:∀p∈kvs,p.1.dep<=5/\gF K H p.1 (.ref p.2.1)
section
variable {X:Cx}{pins:List (Addr×Obj)}{σ:St}{H:Hp}{s:Shared}{a b:Addr}{kvs:List eM}{k:IK}{A:Around}{E:Value->Shared->Prop}{v:V}{u r:Value}
theorem nF.of (I:Inv X pins σ H s)(d:nF X.K H a kvs):kvs.length<=sizeLine/\(a==sysModules)=false/\∃xs,x_ kvs xs/\s.heap.DictOfH (iK X.prog X.w) a xs:=by
 obtain⟨⟨z,y,xs,rel,o,es,ep,h1,h2,h3,h4,h5⟩,_,_⟩:=(show bL X.prog X.w H s.heap a (nQ a kvs)from I.bN a _ d.at_)
 refine⟨z,y,xs,rel,o,es,ep,h1,h2,h3,h4,?_,h5⟩
 have all:∀{l:List eM} {m:List (IK×Addr×Value)},x_ l m->(∀p∈l,p.1.dep<=5/\gF X.K H p.1 (.ref p.2.1))->∀x∈m,(iK X.prog X.w).is s.heap x.1 x.2.1:=by
  intro l m q
  induction q with
  |nil=>intro _ x hx;cases hx
  |@cons p q ps qs hq t ih=>
   intro hl x hx
   rcases C7.mp hx with rfl|hx
   ·obtain⟨c1,c2⟩:=hl p (o8 ..)
    rw[hq.1,hq.2.1]at c2
    rw[hq.1]at c1
    exact⟨c1,mQ I _ c2 rfl⟩
   ·exact ih (λ p hp=>hl p (m3 _ hp)) x hx
 exact all rel d.key
theorem iO(hu:A.units+64 < cLine):(iK X.prog X.w).room A.in1:=(show A.units+1+8 < cLine by omega)
theorem yr{Q:Value->Shared->Prop}(hu:A.units+64 < cLine)(I:Inv X pins σ H s)(d:nF X.K H a kvs)(hk:k.dep<=5)(uA:gF X.K H k (.ref b))(g:iJ kvs k=some v)(h:∀w' s',Inv X pins σ H s'->RelV v w'->Q w' s'):
  wpAny (model X.prog X.w) A (getItem (.ref a) (.ref b)) Q E s:=by
 obtain⟨z,hd,xs,rel,dd⟩:=d.of I
 obtain⟨w',hw,uW⟩:=js.some_of (v:=v) (o:=(atKey xs k).map (·.2)) (by rw[<- g];exact rel.val k)
 obtain⟨p,hp,gT⟩:=Option.map_eq_some_iff.mp hw
 refine wpAny_getItem_heap (iO hu) ⟨hk,mQ I k uA rfl⟩ dd hp ?_
 rw[gT]
 exact h w' _ (I.tok _) uW
theorem RE{Q:Value->Shared->Prop}(hu:A.units+64 < cLine)(I:Inv X pins σ H s)(d:nF X.K H a kvs)(hk:k.dep<=5)(uA:gF X.K H k (.ref b))(h:∀s',Inv X pins σ H s'->Q (.bool (iJ kvs k).isSome) s'):
  wpAny (model X.prog X.w) A (compareOp .In (.ref b) (.ref a)) Q E s:=by
 obtain⟨z,hd,xs,rel,dd⟩:=d.of I
 refine wpAny_in_heap (iO hu) ⟨hk,mQ I k uA rfl⟩ hd dd ?_
 have q:=qc (rel.val k)
 rw[w9]at q
 rw[<- q]
 exact h _ (I.tok _)
theorem DQ{Q:Value->Shared->Prop}(hu:A.units+64 < cLine)(I:Inv X pins σ H s)(d:nF X.K H a kvs)(hk:k.dep<=5)(uA:gF X.K H k (.ref b))(h:∀s',Inv X pins σ H s'->Q (.bool (!(iJ kvs k).isSome)) s'):
  wpAny (model X.prog X.w) A (compareOp .NotIn (.ref b) (.ref a)) Q E s:=by
 obtain⟨z,hd,xs,rel,dd⟩:=d.of I
 refine wpAny_notIn_heap (iO hu) ⟨hk,mQ I k uA rfl⟩ hd dd ?_
 have q:=qc (rel.val k)
 rw[w9]at q
 rw[<- q]
 exact h _ (I.tok _)
theorem yq{Q:Unit->Shared->Prop}(hu:A.units+64 < cLine)(I:Inv X pins σ H s)(d:nF X.K H a kvs)(hk:k.dep<=5)(uA:gF X.K H k (.ref b))(hl:kvs.length < sizeLine)(rv:RelV v r)(h:∀s',Inv X pins σ (upd H a (nQ a (iS kvs k b v))) s'->Q () s'):
  wpAny (model X.prog X.w) A (setItem (.ref a) (.ref b) r) Q E s:=by
 obtain⟨z,hd,xs,rel,dd⟩:=d.of I
 have hz:xs.length<=sizeLine:=by rw[<- C4 rel];exact z
 have sY:(iS kvs k b v).length<=sizeLine:=by have:=rR kvs k b v;omega
 refine wpAny_setItem_heap (hsz:=hz) (iO hu) ⟨hk,mQ I k uA rfl⟩ dd λ h' Ij hs=>h _ ?_
 obtain⟨q,es,ep,hq,h2,h3,h4,_,h5⟩:=Ij
 exact lT I (by rw[d.at_];exact True.intro) hs ⟨q,hq⟩ (qp ⟨sY,hd,_,rel.put k rv,q,es,ep,hq,h2,h3,h4,h5⟩)
end
section
variable {X:Cx}{pos:Pos}
theorem xD(h:Heap)(hb:sysModules < h.objs.size):TU h.objs.size [] (h.push {cls:=.type "dict",data:=.dict #[]}):=
 ⟨E3 _,beq_eq_false_iff_ne.mpr (J3 (D1 hb)),[],.nil,_,#[],0,o7 _ rfl,⟨rfl,rfl,rfl⟩,rfl,rfl,nodup_nil⟩
def IQ:TE:=λ _ H Q=>∀p,H p=none->Q (.ref p) (upd H p (nQ p []))
theorem Bp:PE X (.Dict [] [] pos) IQ:=λ pins s σ H Q I h=>
 wpAny_Dict_empty ⟨.ref s.heap.objs.size,_,I.laid (a:=s.heap.objs.size) (o:=nQ s.heap.objs.size []) (t':=s.toks) (λ _ _ q=>k4 _ q) (E1 _) (qp (xD s.heap I.big)),rfl,h _ (I.bN.fresh (E1 _))⟩
end
section
variable {prog:Program}{w:World}
theorem JI{d:Addr}(hd:(d==sysModules)=false):MeetsIn prog w (Builtin.«dict.__len__» ⟨[.ref d],[]⟩) (λ _ R s=>∃o es ep,s.heap.get? d=some o/\o.data=.dict es ep/\R (.ok (.ret (.int es.size s.toks))) {s with toks:=s.toks+1}):=
 .of_wp λ A R s ⟨o,es,ep,ho,LG,h⟩=>by
  show wpAny _ _ (dictSize d >>= _) _ _ s;unfold dictSize;refine E9 (E9 (wpAny_dictEntries ho LG (G0 ?_)))
  show wpAny _ _ (Builtin.Dict.pendingCount d >>= _) _ _ s;refine E9 (wpAny_pendingCount_other hd (wpAny_ret_mkInt ?_));rw[Nat.add_zero];exact h
theorem ue{A:Around}{E:Value->Shared->Prop}{s:Shared}{d:Addr}{o:Obj}{es:Array DictEntry}{ep:Nat}{Q:Value->Shared->Prop}(hd:(d==sysModules)=false)(ho:s.heap.get? d=some o)(hc:o.cls=.type "dict")(LG:o.data=.dict es ep)(hz:es.size<=sizeLine)
  (h:∀t n,Q (.int es.size t) {s with toks:=n}):wpAny (model prog w) A (call (.builtin "len") [.ref d]) Q E s:=by
 have hT:s.TypeIs (.ref d) "dict":=⟨o,ho,hc⟩
 have MG:sizeLine=16777216:=by decide
 have O2:((es.size:Nat):Int) < 2^63:=by omega
 refine Calls.call_function_entry kind_len plain_len entry_len (args_len1 _) ?_
 unfold Builtin.«len»;refine E9 (m:=oneArg "len" _) (G0 ?_)
 refine E9 (m:=callSpecial? (.ref d) (Str.ofString "__len__")) (j5 (name:=Str.ofString "__len__") hT F.slot_dict_len (call_meetsIn F.slot_dict_len hT F.entry_dict_len (F.args_dict_len_1 _) (JI hd) ⟨o,es,ep,ho,LG,?_⟩))
 show wpAny _ _ _ _ _ {s with toks:=s.toks+1};refine E9 (C2 (G0 (E9 (E8 ?_))))
 show wpAny _ _ (if((es.size:Nat):Int) < 0 then _ else _) _ _ _;rw[J5 (by omega)]
 show wpAny _ _ (if((es.size:Nat):Int) ≥ 2^63 then _ else _) _ _ _;rw[J5 (by omega)]
 exact E9 (wpAny_mkInt (G0 ⟨_,rfl,h _ _⟩))
end
section
variable {X:Cx}{pins:List (Addr×Obj)}{σ:St}{H:Hp}{s:Shared}{a:Addr}{kvs:List eM}{A:Around}{E:Value->Shared->Prop}
theorem Nb{Q:Value->Shared->Prop}(I:Inv X pins σ H s)(e:H a=some (nQ a kvs))(h:∀t s',Inv X pins σ H s'->Q (.int kvs.length t) s'):wpAny (model X.prog X.w) A (call (.builtin "len") [.ref a]) Q E s:=by
 obtain⟨⟨z,y,xs,rel,o,es,ep,h1,h2,h3,h4,h5⟩,_,_⟩:=(show bL X.prog X.w H s.heap a (nQ a kvs)from I.bN a _ e)
 have e1:es.size=kvs.length:=by rw[<- n9,h4,B4];exact(C4 rel).symm
 refine ue y h1 h2.1 h3 (by rw[e1];exact z) λ t n=>?_
 rw[e1]
 exact h t _ (I.tok _)
end
end L2
namespace L3
open PySem PySem.Spec L2
inductive D where
 |bj|bl (b:Bool)|int (i:Int)|str (x:Str)|ty (n:String)|ref (a:Addr)
 |tup (xs:List D)
 |fl (xs:List D)
def Iu(K:PySem.W.Frag)(H:Hp)(p:Addr)(xs:List V):Prop:=
 (∃o,H p=some (.mY o (.lst xs)))\/∃(o:Obj) (au:Array Value) (n:Nat),K.lookup p=some o/\o.cls=.type "list"/\o.dict=none/\o.data=.seq au n/\au.size<=sizeLine/\Vals xs au.toList
theorem Iu.sq {K:PySem.W.Frag}{H:Hp}{p:Addr}{xs:List V}(h:Iu K H p xs):du K H p xs:=by
 rcases h with h|h
 ·exact .inl (.inr h)
 ·exact .inr h
mutual
def Dat(K:PySem.W.Frag)(H:Hp):D->V->Prop
 | .bj,v=>v=.bj
 | .bl b,v=>v=.bl b
 | .int i,v=>v=.int i
 | .str x,v=>v=.str x
 | .ty n,v=>v=.ty n
 | .ref a,v=>v=.ref a
 | .tup ds,v=>∃p xs,v=.ref p/\fz K H p xs/\aD K H ds xs
 | .fl ds,v=>∃p xs,v=.ref p/\Iu K H p xs/\aD K H ds xs
def aD(K:PySem.W.Frag)(H:Hp):List D->List V->Prop
 |[],xs=>xs=[]
 |d::ds,xs=>∃x r,xs=x::r/\Dat K H d x/\aD K H ds r
end
structure av(H H':Hp):Prop where
 tup:∀b xs,H b=some (.tup xs)->H' b=some (.tup xs)
 mY:∀b o u,H b=some (.mY o u)->H' b=some (.mY o u)
theorem av.refl (H:Hp):av H H:=⟨λ _ _ h=>h,λ _ _ _ h=>h⟩
theorem av.trans {H H1 H2:Hp}(a:av H H1)(b:av H1 H2):av H H2:=⟨λ c xs h=>b.tup c xs (a.tup c xs h),λ c o u h=>b.mY c o u (a.mY c o u h)⟩
theorem av.laid {H:Hp}{p:Addr}{o:HO}(h:H p=none):av H (upd H p o):=
 ⟨λ b xs e=>by rw[aP (ck e h)];exact e,λ b ob u e=>by rw[aP (ck e h)];exact e⟩
theorem av.lst {H:Hp}{p:Addr}{xs:List V}{o:HO}(h:H p=some (.lst xs)):av H (upd H p o):=
 ⟨λ b ys e=>by rw[aP (aZ e h (by intro z;cases z))];exact e,λ b ob u e=>by rw[aP (aZ e h (by intro z;cases z))];exact e⟩
theorem av.mut {H:Hp}{p:Addr}{u o:HO}(h:H p=some u)(n1:∀xs,u≠.tup xs)(n2:∀ob w,u≠.mY ob w):av H (upd H p o):=
 ⟨λ b ys e=>by rw[aP (λ z=>by subst z;rw[h]at e;exact n1 ys (A9 e))];exact e,λ b ob w e=>by rw[aP (λ z=>by subst z;rw[h]at e;exact n2 ob w (A9 e))];exact e⟩
theorem rq{K:PySem.W.Frag}{H H':Hp}(t:av H H'){p:Addr}{xs:List V}(h:fz K H p xs):fz K H' p xs:=by
 rcases h with(h|⟨o,h⟩)|h
 ·exact .inl (.inl (t.tup _ _ h))
 ·exact .inl (.inr ⟨o,t.mY _ _ _ h⟩)
 ·exact .inr h
theorem tj{K:PySem.W.Frag}{H H':Hp}(t:av H H'){p:Addr}{xs:List V}(h:Iu K H p xs):Iu K H' p xs:=by
 rcases h with⟨o,h⟩|h
 ·exact .inl ⟨o,t.mY _ _ _ h⟩
 ·exact .inr h
mutual
theorem Dat.mono {K:PySem.W.Frag}{H H':Hp}(t:av H H'):∀(d:D) {v:V},Dat K H d v->Dat K H' d v
 | .bj,v,h=>by unfold Dat at h ⊢;exact h
 | .bl b,v,h=>by unfold Dat at h ⊢;exact h
 | .int i,v,h=>by unfold Dat at h ⊢;exact h
 | .str x,v,h=>by unfold Dat at h ⊢;exact h
 | .ty n,v,h=>by unfold Dat at h ⊢;exact h
 | .ref a,v,h=>by unfold Dat at h ⊢;exact h
 | .tup ds,v,h=>by
  unfold Dat at h ⊢
  obtain⟨p,xs,e,q,r⟩:=h
  exact⟨p,xs,e,rq t q,aD.mono t ds r⟩
 | .fl ds,v,h=>by
  unfold Dat at h ⊢
  obtain⟨p,xs,e,q,r⟩:=h
  exact⟨p,xs,e,tj t q,aD.mono t ds r⟩
theorem aD.mono {K:PySem.W.Frag}{H H':Hp}(t:av H H'):∀(ds:List D) {xs:List V},aD K H ds xs->aD K H' ds xs
 |[],xs,h=>by unfold aD at h ⊢;exact h
 |d::ds,xs,h=>by
  unfold aD at h ⊢
  obtain⟨x,r,e,a,b⟩:=h
  exact⟨x,r,e,Dat.mono t d a,aD.mono t ds b⟩
end
section
variable {K:PySem.W.Frag}{H:Hp}
theorem dj{v:V}:Dat K H .bj v↔v=.bj:=by unfold Dat;exact Iff.rfl
theorem aN{b:Bool}{v:V}:Dat K H (.bl b) v↔v=.bl b:=by unfold Dat;exact Iff.rfl
theorem ax{i:Int}{v:V}:Dat K H (.int i) v↔v=.int i:=by unfold Dat;exact Iff.rfl
theorem aL{x:Str}{v:V}:Dat K H (.str x) v↔v=.str x:=by unfold Dat;exact Iff.rfl
theorem vT{n:String}{v:V}:Dat K H (.ty n) v↔v=.ty n:=by unfold Dat;exact Iff.rfl
theorem aB{a:Addr}{v:V}:Dat K H (.ref a) v↔v=.ref a:=by unfold Dat;exact Iff.rfl
theorem aM{ds:List D}{v:V}:Dat K H (.tup ds) v↔∃p xs,v=.ref p/\fz K H p xs/\aD K H ds xs:=by rw[Dat]
theorem iw{ds:List D}{v:V}:Dat K H (.fl ds) v↔∃p xs,v=.ref p/\Iu K H p xs/\aD K H ds xs:=by rw[Dat]
theorem ao{xs:List V}:aD K H [] xs↔xs=[]:=by unfold aD;exact Iff.rfl
theorem ai{d:D}{ds:List D}{xs:List V}:aD K H (d::ds) xs↔∃x r,xs=x::r/\Dat K H d x/\aD K H ds r:=by rw[aD]
theorem aD.length:∀{ds:List D} {xs:List V},aD K H ds xs->xs.length=ds.length
 |[],xs,h=>by rw[ao]at h;subst h;rfl
 |d::ds,xs,h=>by
  rw[ai]at h
  obtain⟨x,r,rfl,_,q⟩:=h
  rw[x9,x9,q.length]
theorem aD.get:∀{ds:List D} {xs:List V} {i:Nat} {d:D},aD K H ds xs->ds[i]?=some d->∃x,xs[i]?=some x/\Dat K H d x
 |[],xs,i,d,h,e=>by simp at e
 |d0::ds,xs,i,d,h,e=>by
  rw[ai]at h
  obtain⟨x,r,rfl,a,q⟩:=h
  cases i with
  |zero=>simp at e;subst e;exact⟨x,rfl,a⟩
  |succ i=>
   obtain⟨y,h1,h2⟩:=aD.get q (by simpa using e)
   exact⟨y,by simpa using h1,h2⟩
theorem aD.mX:∀{ds:List D} {xs:List V} {i:Nat} {x:V},aD K H ds xs->xs[i]?=some x->∃d,ds[i]?=some d/\Dat K H d x
 |[],xs,i,x,h,e=>by rw[ao]at h;subst h;simp at e
 |d0::ds,xs,i,x,h,e=>by
  rw[ai]at h
  obtain⟨y,r,rfl,a,q⟩:=h
  cases i with
  |zero=>simp at e;subst e;exact⟨d0,rfl,a⟩
  |succ i=>
   obtain⟨d,h1,h2⟩:=aD.mX q (by simpa using e)
   exact⟨d,by simpa using h1,h2⟩
theorem aD.append:∀{ds es:List D} {xs ys:List V},aD K H ds xs->aD K H es ys->aD K H (ds++es) (xs++ys)
 |[],es,xs,ys,h,q=>by rw[ao]at h;subst h;exact q
 |d::ds,es,xs,ys,h,q=>by
  rw[ai]at h
  obtain⟨x,r,rfl,a,b⟩:=h
  rw[cons_append,cons_append,ai]
  exact⟨x,_,rfl,a,b.append q⟩
theorem aD.one {d:D}{v:V}(h:Dat K H d v):aD K H [d] [v]:=by
 rw[ai]
 exact⟨v,[],rfl,h,by rw[ao]⟩
theorem aD.take:∀{ds:List D} {xs:List V} (n:Nat),aD K H ds xs->aD K H (ds.take n) (xs.take n)
 |ds,xs,0,h=>by simp[ao]
 |[],xs,n+1,h=>by rw[ao]at h;subst h;simp[ao]
 |d::ds,xs,n+1,h=>by
  rw[ai]at h
  obtain⟨x,r,rfl,a,b⟩:=h
  rw[take_succ_cons,take_succ_cons,ai]
  exact⟨x,_,rfl,a,b.take n⟩
theorem aD.drop:∀{ds:List D} {xs:List V} (n:Nat),aD K H ds xs->aD K H (ds.drop n) (xs.drop n)
 |ds,xs,0,h=>h
 |[],xs,n+1,h=>by rw[ao]at h;subst h;simp[ao]
 |d::ds,xs,n+1,h=>by
  rw[ai]at h
  obtain⟨x,r,rfl,a,b⟩:=h
  exact b.drop n
theorem aD.set {d:D}{x:V}(hd:Dat K H d x):∀{ds:List D} {xs:List V} (n:Nat),aD K H ds xs->aD K H (ds.set n d) (xs.set n x)
 |[],xs,n,h=>by rw[ao]at h;subst h;simp[ao]
 |d0::ds,xs,0,h=>by
  rw[ai]at h
  obtain⟨y,r,rfl,a,b⟩:=h
  rw[set_cons_zero,set_cons_zero,ai]
  exact⟨x,_,rfl,hd,b⟩
 |d0::ds,xs,n+1,h=>by
  rw[ai]at h
  obtain⟨y,r,rfl,a,b⟩:=h
  rw[set_cons_succ,set_cons_succ,ai]
  exact⟨y,_,rfl,a,b.set hd n⟩
theorem jR:∀(ns:List Int),aD K H (ns.map D.int) (ns.map V.int)
 |[]=>by simp[ao]
 |n::ns=>by
  rw[C6,C6,ai]
  exact⟨_,_,rfl,ax.mpr rfl,jR ns⟩
theorem tL:∀{bs:List Bool} {xs:List V},aD K H (bs.map D.bl) xs->xs=bs.map V.bl
 |[],xs,h=>by rw[map_nil,ao]at h;exact h
 |b::bs,xs,h=>by
  rw[C6,ai]at h
  obtain⟨x,r,rfl,a,q⟩:=h
  rw[aN]at a
  rw[a,tL q]
  rfl
theorem oU:∀{ys:List Str} {xs:List V},aD K H (ys.map D.str) xs->xs=ys.map V.str
 |[],xs,h=>by rw[map_nil,ao]at h;exact h
 |b::bs,xs,h=>by
  rw[C6,ai]at h
  obtain⟨x,r,rfl,a,q⟩:=h
  rw[aL]at a
  rw[a,oU q]
  rfl
end
def nN:Key->D
 | .inl i=>.int i
 | .inr x=>.str x
mutual
def kY:IK->D
 | .i n=>.int n
 | .t ks=>.tup (jM ks)
def jM:List IK->List D
 |[]=>[]
 |k::ks=>kY k::jM ks
end
mutual
theorem jS{K:PySem.W.Frag}{H:Hp}:∀(k:IK) {v:V},Dat K H (kY k) v->gF K H k v
 | .i n,v,h=>by
  unfold kY at h
  unfold gF
  exact ax.mp h
 | .t ks,v,h=>by
  unfold kY at h
  obtain⟨p,xs,rfl,hq,hx⟩:=aM.mp h
  unfold gF
  exact⟨p,xs,rfl,hq,tK ks hx⟩
theorem tK{K:PySem.W.Frag}{H:Hp}:∀(ks:List IK) {xs:List V},aD K H (jM ks) xs->km K H ks xs
 |[],xs,h=>by
  unfold jM at h
  unfold km
  exact ao.mp h
 |k::ks,xs,h=>by
  unfold jM at h
  obtain⟨x,r,rfl,h1,h2⟩:=ai.mp h
  unfold km
  exact⟨x,r,rfl,jS k h1,tK ks h2⟩
end
mutual
theorem qh:∀{a b:IK},kY a=kY b->a=b
 | .i n,.i m,h=>by unfold kY at h;cases h;rfl
 | .i n,.t ks,h=>by unfold kY at h;cases h
 | .t ks,.i n,h=>by unfold kY at h;cases h
 | .t ks,.t ls,h=>by unfold kY at h;rw[sX (D.tup.inj h)]
theorem sX:∀{as bs:List IK},jM as=jM bs->as=bs
 |[],[],_=>rfl
 |[],b::bs,h=>by unfold jM at h;cases h
 |a::as,[],h=>by unfold jM at h;cases h
 |a::as,b::bs,h=>by
  unfold jM at h
  injection h with h1 h2
  rw[qh h1,sX h2]
end
theorem sP{a b:Key}(h:nN a=nN b):a=b:=by
 cases a with
 |inl i=>cases b with
  |inl j=>have e:D.int i=D.int j:=h;cases e;rfl
  |inr y=>have e:D.int i=D.str y:=h;cases e
 |inr x=>cases b with
  |inl j=>have e:D.str x=D.int j:=h;cases e
  |inr y=>have e:D.str x=D.str y:=h;cases e;rfl
theorem qq{K:PySem.W.Frag}{H:Hp}{k:Key}{v:V}(h:Dat K H (nN k) v):v=kV k:=by
 cases k with
 |inl i=>exact ax.mp h
 |inr x=>exact aL.mp h
inductive MO where
 |lst (ds:List D)
  |dr (t:Bool) (kvs:List (D×D))
abbrev Hk(K:PySem.W.Frag)(H:Hp):List (D×D)->List (Key×V)->Prop:=Paired λ p q=>p.1=nN q.1/\Dat K H p.2 q.2
abbrev wo(K:PySem.W.Frag)(H:Hp):List (D×D)->List eM->Prop:=Paired λ p q=>p.1=kY q.1/\q.1.dep<=5/\Dat K H p.1 (.ref q.2.1)/\Dat K H p.2 q.2.2
theorem Hk.mono {K:PySem.W.Frag}{H H':Hp}(t:av H H'){kvs:List (D×D)}{xs:List (Key×V)}(h:Hk K H kvs xs):Hk K H' kvs xs:=Paired.BJ h λ p q z=>⟨z.1,Dat.mono t _ z.2⟩
theorem wo.mono {K:PySem.W.Frag}{H H':Hp}(t:av H H'){kvs:List (D×D)}{xs:List eM}(h:wo K H kvs xs):wo K H' kvs xs:=Paired.BJ h λ p q z=>⟨z.1,z.2.1,Dat.mono t _ z.2.2.1,Dat.mono t _ z.2.2.2⟩
abbrev Mem:=Addr->Option MO
def ak(M:Mem)(a:Addr)(o:MO):Mem:=λ b=>if b=a then some o else M b
theorem af{M:Mem}{a:Addr}{o:MO}:ak M a o a=some o:=by unfold ak;rw[J4 rfl]
theorem ah{M:Mem}{a b:Addr}{o:MO}(h:b≠a):ak M a o b=M b:=by unfold ak;rw[J5 h]
theorem cF{M:Mem}{a:Addr}{o u:MO}:ak (ak M a o) a u=ak M a u:=by funext b;unfold ak;split <;> rfl
def wg(K:PySem.W.Frag)(H:Hp)(a:Addr):MO->Prop
 | .lst ds=>∃xs,H a=some (.lst xs)/\aD K H ds xs
 | .dr false kvs=>∃xs,H a=some (.dK xs)/\Hk K H kvs xs
 | .dr true kvs=>∃xs,H a=some (nQ a xs)/\wo K H kvs xs
def RelM(K:PySem.W.Frag)(H:Hp)(M:Mem):Prop:=∀a o,M a=some o->wg K H a o
theorem wg.there {K:PySem.W.Frag}{H:Hp}{a:Addr}{o:MO}(h:wg K H a o):∃u,H a=some u:=by
 cases o with
 |lst ds=>obtain⟨xs,h,_⟩:=h;exact⟨_,h⟩
 |dr t kvs=>
  cases t with
  |false=>obtain⟨xs,h,_⟩:=h;exact⟨_,h⟩
  |true=>obtain⟨xs,h,_⟩:=h;exact⟨_,h⟩
theorem wg.mono {K:PySem.W.Frag}{H H':Hp}{a:Addr}{o:MO}(h:wg K H a o)(t:av H H')(e:H' a=H a):wg K H' a o:=by
 cases o with
 |lst ds=>obtain⟨xs,h,q⟩:=h;exact⟨xs,e.trans h,aD.mono t ds q⟩
 |dr b kvs=>
  cases b with
  |false=>obtain⟨xs,h,q⟩:=h;exact⟨xs,e.trans h,q.mono t⟩
  |true=>obtain⟨xs,h,q⟩:=h;exact⟨xs,e.trans h,q.mono t⟩
theorem RelM.free {K:PySem.W.Frag}{H:Hp}{M:Mem}(h:RelM K H M){p:Addr}(n:H p=none):M p=none:=by
 cases e:M p with
 |none=>rfl
 |some o=>obtain⟨u,q⟩:=(h p o e).there;rw[n]at q;cases q
theorem RelM.laid {K:PySem.W.Frag}{H:Hp}{M:Mem}(h:RelM K H M){p:Addr}{o:HO}(n:H p=none):RelM K (upd H p o) M:=λ a u e=>by
 obtain⟨w,q⟩:=(h a u e).there
 exact(h a u e).mono (av.laid n) (aP (ck q n))
theorem RelM.put {K:PySem.W.Frag}{H:Hp}{M:Mem}(h:RelM K H M){p:Addr}{o:HO}{u:MO}(t:av H (upd H p o))(new:wg K (upd H p o) p u):RelM K (upd H p o) (ak M p u):=λ a w e=>by
 by_cases ha:a=p
 ·subst ha;rw[af]at e;cases e;exact new
 ·rw[ah ha]at e
  exact(h a w e).mono t (aP ha)
def lp(M M':Mem):Prop:=∀a o,M a=some o->M' a=some o
theorem lp.refl (M:Mem):lp M M:=λ _ _ h=>h
theorem lp.put {M M':Mem}{p:Addr}{o:MO}(h:lp M M')(n:M p=none):lp M (ak M' p o):=λ a u e=>by
 rw[ah (λ z=>by subst z;rw[n]at e;cases e)]
 exact h a u e
theorem RelM.sub {K:PySem.W.Frag}{H:Hp}{M M':Mem}(h:RelM K H M')(s:lp M M'):RelM K H M:=λ a o e=>h a o (s a o e)
abbrev dq:=List (Option D)
structure cC(K:PySem.W.Frag)(H:Hp)(δ:dq)(σ:St):Prop where
 len:δ.length=σ.length
 get:∀(i:Nat) (d:D),δ[i]?=some (some d)->∃v,σ[i]?=some (some v)/\Dat K H d v
theorem cC.mono {K:PySem.W.Frag}{H H':Hp}{δ:dq}{σ:St}(h:cC K H δ σ)(t:av H H'):cC K H' δ σ:=
 ⟨h.len,λ i d e=>let⟨v,q,r⟩:=h.get i d e;⟨v,q,Dat.mono t d r⟩⟩
theorem cC.set {K:PySem.W.Frag}{H:Hp}{δ:dq}{σ:St}(h:cC K H δ σ){i:Nat}{d:D}{v:V}(r:Dat K H d v):cC K H (δ.set i (some d)) (σ.set i (some v)):=by
 refine⟨by rw[length_set,length_set];exact h.len,λ j e hj=>?_⟩
 by_cases nH:i=j
 ·subst nH
  have hi:i < δ.length:=by
   have:=(i5.mp hj).1
   simpa using this
  rw[getElem?_set_self hi]at hj
  cases hj
  exact⟨v,by rw[getElem?_set_self (by rw[<- h.len];exact hi)],r⟩
 ·rw[getElem?_set_ne nH]at hj
  obtain⟨u,q,w⟩:=h.get j e hj
  exact⟨u,by rw[getElem?_set_ne nH];exact q,w⟩
abbrev bD:=D->Mem->Prop
abbrev bV:=dq->Mem->bD->Prop
abbrev eJ:=dq->Mem->(Bool->Mem->Prop)->Prop
abbrev iy:=dq->Mem->(List D->Mem->Prop)->Prop
structure nE where
 nx:dq->Mem->Prop
 rt:bD
 bk:dq->Mem->Prop:=λ _ _=>False
 ct:dq->Mem->Prop:=λ _ _=>False
abbrev jU:=nE->dq->Mem->Prop
def iB(K:PySem.W.Frag)(H:Hp)(Q2:bD)(Q:VK):Prop:=∀v H' d M',Dat K H' d v->RelM K H' M'->av H H'->Q2 d M'->Q v H'
def ur(K:PySem.W.Frag)(H:Hp)(Q2:Bool->Mem->Prop)(Q:Bool->Hp->Prop):Prop:=∀b H' M',RelM K H' M'->av H H'->Q2 b M'->Q b H'
def PY(K:PySem.W.Frag)(H:Hp)(Q2:List D->Mem->Prop)(Q:List V->Hp->Prop):Prop:=∀vs H' ds M',aD K H' ds vs->RelM K H' M'->av H H'->Q2 ds M'->Q vs H'
def kG(K:PySem.W.Frag)(H:Hp)(N2:dq->Mem->Prop)(N:St->Hp->Prop):Prop:=∀σ' H' δ' M',cC K H' δ' σ'->RelM K H' M'->av H H'->N2 δ' M'->N σ' H'
structure x'(K:PySem.W.Frag)(H:Hp)(D2:nE)(E:Ends):Prop where
 nx:kG K H D2.nx E.nx
 rt:iB K H D2.rt E.rt
 bk:kG K H D2.bk E.bk
 ct:kG K H D2.ct E.ct
theorem iB.mono {K:PySem.W.Frag}{H H1:Hp}{Q2:bD}{Q:VK}(c:iB K H Q2 Q)(t:av H H1):iB K H1 Q2 Q:=λ v H' d M' a b e q=>c v H' d M' a b (t.trans e) q
theorem ur.mono {K:PySem.W.Frag}{H H1:Hp}{Q2:Bool->Mem->Prop}{Q:Bool->Hp->Prop}(c:ur K H Q2 Q)(t:av H H1):ur K H1 Q2 Q:=λ v H' M' b e q=>c v H' M' b (t.trans e) q
theorem kG.mono {K:PySem.W.Frag}{H H1:Hp}{N2:dq->Mem->Prop}{N:St->Hp->Prop}(c:kG K H N2 N)(t:av H H1):kG K H1 N2 N:=λ v H' d M' a b e q=>c v H' d M' a b (t.trans e) q
theorem x'.mono {K:PySem.W.Frag}{H H1:Hp}{D2:nE}{E:Ends}(c:x' K H D2 E)(t:av H H1):x' K H1 D2 E:=⟨c.nx.mono t,c.rt.mono t,c.bk.mono t,c.ct.mono t⟩
def up(K:PySem.W.Frag)(t:bV):TE:=λ σ H Q=>∃δ M Q2,cC K H δ σ/\RelM K H M/\t δ M Q2/\iB K H Q2 Q
def wy(K:PySem.W.Frag)(t:eJ):TT:=λ σ H Q=>∃δ M Q2,cC K H δ σ/\RelM K H M/\t δ M Q2/\ur K H Q2 Q
def Ue(K:PySem.W.Frag)(t:iy):TA:=λ σ H Q=>∃δ M Q2,cC K H δ σ/\RelM K H M/\t δ M Q2/\PY K H Q2 Q
def RB(K:PySem.W.Frag)(t:jU):TS:=λ E σ H=>∃δ M D2,cC K H δ σ/\RelM K H M/\t D2 δ M/\x' K H D2 E
abbrev QE(X:Cx)(e:Expr)(t:bV):Prop:=PE X e (up X.K t)
abbrev QT(X:Cx)(e:Expr)(t:eJ):Prop:=PT X e (wy X.K t)
abbrev QW(X:Cx)(e:Expr)(t:eJ):Prop:=PW X e (wy X.K t)
abbrev QA(X:Cx)(es:List Expr)(t:iy):Prop:=PA X es (Ue X.K t)
abbrev QS(X:Cx)(st:Stmt)(t:jU):Prop:=PS X st (RB X.K t)
abbrev DD(X:Cx)(Qu:List Stmt)(t:jU):Prop:=uD X Qu (RB X.K t)
theorem bO{X:Cx}{e:Expr}{t t':TE}(h:PE X e t)(k:∀σ H Q,t' σ H Q->t σ H Q):PE X e t':=λ pins s σ H Q I q=>h pins s σ H Q I (k σ H Q q)
theorem Bc{X:Cx}{e:Expr}{t t':TT}(h:PT X e t)(k:∀σ H Q,t' σ H Q->t σ H Q):PT X e t':=λ pins s σ H Q I q=>h pins s σ H Q I (k σ H Q q)
theorem HE{X:Cx}{e:Expr}{t t':TT}(h:PW X e t)(k:∀σ H Q,t' σ H Q->t σ H Q):PW X e t':=λ wh pins s σ H Q I q=>h wh pins s σ H Q I (k σ H Q q)
theorem Br{X:Cx}{es:List Expr}{t t':TA}(h:PA X es t)(k:∀σ H Q,t' σ H Q->t σ H Q):PA X es t':=λ pos pins s σ H Q I q=>h pos pins s σ H Q I (k σ H Q q)
theorem ke{X:Cx}{st:Stmt}{t t':TS}(h:PS X st t)(k:∀E σ H,t' E σ H->t E σ H):PS X st t':=λ pins s σ H E I q=>h pins s σ H E I (k E σ H q)
theorem Be{X:Cx}{Qu:List Stmt}{t t':TS}(h:uD X Qu t)(k:∀E σ H,t' E σ H->t E σ H):uD X Qu t':=λ pins s σ H E I q=>h pins s σ H E I (k E σ H q)
end L3
namespace L3
open PySem PySem.Spec L2
abbrev fA:=D->D->Mem->bD->Prop
def Mp(K:PySem.W.Frag)(r:R2)(r2:fA):Prop:=∀x y d e H M Q2 Q,Dat K H d x->Dat K H e y->RelM K H M->r2 d e M Q2->iB K H Q2 Q->r x y H Q
def T7(K:PySem.W.Frag)(r:V->Hp->VK->Prop)(r2:D->Mem->bD->Prop):Prop:=∀x d H M Q2 Q,Dat K H d x->RelM K H M->r2 d M Q2->iB K H Q2 Q->r x H Q
def Mq(K:PySem.W.Frag)(r:List V->Hp->VK->Prop)(r2:List D->Mem->bD->Prop):Prop:=∀xs ds H M Q2 Q,aD K H ds xs->RelM K H M->r2 ds M Q2->iB K H Q2 Q->r xs H Q
def T8(K:PySem.W.Frag)(r:V->List V->Hp->VK->Prop)(r2:D->List D->Mem->bD->Prop):Prop:=∀x xs d ds H M Q2 Q,Dat K H d x->aD K H ds xs->RelM K H M->r2 d ds M Q2->iB K H Q2 Q->r x xs H Q
def PL(K:PySem.W.Frag)(r:V->Option Int->Option Int->Hp->VK->Prop)(r2:D->Option Int->Option Int->Mem->bD->Prop):Prop:=∀x d lo hi H M Q2 Q,Dat K H d x->RelM K H M->r2 d lo hi M Q2->iB K H Q2 Q->r x lo hi H Q
def fB(X:Cx)(f:Value->Value->Sem Value)(r2:fA):Prop:=∃r,fb X f r/\Mp X.K r r2
def T6(X:Cx)(f:Value->Sem Value)(r2:D->Mem->bD->Prop):Prop:=∃r,Rq X f r/\T7 X.K r r2
def PU(X:Cx)(r2:fA):Prop:=∃r,wm X r/\Mp X.K r r2
def PM(X:Cx)(r2:D->Option Int->Option Int->Mem->bD->Prop):Prop:=∃r,xZ X r/\PL X.K r r2
def cU(X:Cx)(f:Value)(r2:List D->Mem->bD->Prop):Prop:=∃r,dv X f r/\Mq X.K r r2
def zI(X:Cx)(id:String)(r2:D->List D->Mem->bD->Prop):Prop:=∃r,Ru X id r/\T8 X.K r r2
section
variable {X:Cx}{a b c e:Expr}{ta tb tc:bV}{pos:Pos}
def Ak(i:Nat):bV:=λ δ M Q=>match δ[i]? with
 |some (some d)=>Q d M
 |_=>False
def sC(d:D):bV:=λ _ M Q=>Q d M
theorem Vn(i:Nat){x:Str}(hN:X.N[i]?=some x:=by rfl)(hv:Rp X.env.scope x:=by first|exact Or.inl rfl|exact Or.inr (Or.inl rfl)|exact Or.inr (Or.inr rfl))(hd:(x==("__debug__":Str))=false:=by decide)
  (hcd:(x==("__classdict__":Str))=false:=by decide):QE X (.Name x pos) (Ak i):=bO (Kl hN hv hd hcd) λ σ H Q ⟨δ,M,Q2,hs,hm,q,k⟩=>by
 unfold Ak at q
 cases e:δ[i]? with
 |none=>rw[e]at q;exact q.elim
 |some o=>
  cases o with
  |none=>rw[e]at q;exact q.elim
  |some d=>
   rw[e]at q
   obtain⟨v,h1,h2⟩:=hs.get i d e
   exact⟨v,h1,k v H d M h2 hm (av.refl H) q⟩
theorem NY{i j}:QE X (.Constant (.int i) j pos) (sC (.int i)):=bO vi λ σ H Q ⟨δ,M,Q2,hs,hm,q,k⟩=>k _ H (.int i) M (ax.mpr rfl) hm (av.refl H) q
theorem Sl{i j}:QE X (.Constant (.bool i) j pos) (sC (.bl i)):=bO Ob λ σ H Q ⟨δ,M,Q2,hs,hm,q,k⟩=>k _ H (.bl i) M (aN.mpr rfl) hm (av.refl H) q
theorem HD{i j}:QE X (.Constant (.str i) j pos) (sC (.str i)):=bO Kn λ σ H Q ⟨δ,M,Q2,hs,hm,q,k⟩=>k _ H (.str i) M (aL.mpr rfl) hm (av.refl H) q
theorem NW{j}:QE X (.Constant .none j pos) (sC .bj):=bO Kp λ σ H Q ⟨δ,M,Q2,hs,hm,q,k⟩=>k _ H .bj M (dj.mpr rfl) hm (av.refl H) q
theorem Sh{x:Str}{n:String}(hg:Gl X x)(hm:X.mg x=none)(hv:bootBuiltins x=some (.type n))(hn:x≠"__name__":=by decide)(hd:(x==("__debug__":Str))=false:=by decide):QE X (.Name x pos) (sC (.ty n)):=
 bO (Fx (v:=.ty n) hg hm hv rfl hn hd) λ σ H Q ⟨δ,M,Q2,hs,hm,q,k⟩=>k _ H (.ty n) M (vT.mpr rfl) hm (av.refl H) q
def Dy(r2:fA)(ta tb:bV):bV:=λ δ M Q=>ta δ M λ d M1=>tb δ M1 λ e M2=>r2 d e M2 Q
theorem lJ{K:PySem.W.Frag}{r:R2}{r2:fA}(hr:Mp K r r2):∀σ H Q,up K (Dy r2 ta tb) σ H Q->Nf r (up K ta) (up K tb) σ H Q:=by
 rintro σ H Q ⟨δ,M,Q2,hs,hm,q,k⟩
 refine⟨δ,M,_,hs,hm,q,λ x H1 d M1 hd bR t1 q1=>?_⟩
 refine⟨δ,M1,_,hs.mono t1,bR,q1,λ y H2 e M2 he ux t2 q2=>?_⟩
 exact hr x y d e H2 M2 Q2 Q (Dat.mono t2 d hd) he ux q2 (k.mono (t1.trans t2))
theorem Si{op:Operator}{r2:fA}(o:fB X (binaryOp op) r2)(ha:QE X a ta)(hb:QE X b tb):QE X (.BinOp a op b pos) (Dy r2 ta tb):=by
 obtain⟨r,ho,hr⟩:=o
 exact bO (N' ho ha hb) (lJ hr)
def RS(r2:D->Mem->bD->Prop)(ta:bV):bV:=λ δ M Q=>ta δ M λ d M1=>r2 d M1 Q
theorem Sg{op:UnaryOp}{r2:D->Mem->bD->Prop}(o:T6 X (unaryOp op) r2)(ha:QE X a ta):QE X (.UnaryOp op a pos) (RS r2 ta):=by
 obtain⟨r,ho,hr⟩:=o
 refine bO (N_ ho ha) ?_
 rintro σ H Q ⟨δ,M,Q2,hs,hm,q,k⟩
 exact⟨δ,M,_,hs,hm,q,λ x H1 d M1 hd bR t1 q1=>hr x d H1 M1 Q2 Q hd bR q1 (k.mono t1)⟩
theorem N5{op:CmpOp}{r2:fA}(o:fB X (compareOp op) r2)(ha:QE X a ta)(hb:QE X b tb)(hm:behindInMarks op b=false):QE X (.Compare a [op] [b] pos) (Dy r2 ta tb):=by
 obtain⟨r,ho,hr⟩:=o
 exact bO (Fv ho ha hb hm) (lJ hr)
def rJ(t:bV):eJ:=λ δ M Q=>t δ M λ d M1=>match d with
 | .bl k=>Q k M1
 |_=>False
theorem ou{K:PySem.W.Frag}{H:Hp}{Q2:Bool->Mem->Prop}{Q:Bool->Hp->Prop}(k:ur K H Q2 Q):iB K H (λ d M1=>match d with| .bl k=>Q2 k M1|_=>False) (λ x H'=>∃k,x=.bl k/\Q k H'):=λ v H' d M' hd hm t q=>by
 cases d with
 |bl b=>exact⟨b,aN.mp hd,k b H' M' hm t q⟩
 |_=>exact q.elim
theorem JP{op:CmpOp}{r2:fA}(o:fB X (compareOp op) r2)(ha:QE X a ta)(hb:QE X b tb)(hm:behindInMarks op b=false):QT X (.Compare a [op] [b] pos) (rJ (Dy r2 ta tb)):=by
 obtain⟨r,ho,hr⟩:=o
 refine Bc (Fh ho ha hb hm) ?_
 rintro σ H Q ⟨δ,M,Q2,hs,hm,q,k⟩
 exact lJ hr σ H _ ⟨δ,M,_,hs,hm,q,ou k⟩
theorem JN(h:QE X e ta)(he:∀whole,isTrue e X.env whole=(do let v <- whole;standAt e.pos;holding [v] (truthy v)):=by intro _;rfl):QT X e (rJ ta):=by
 refine Bc (Ka h he) ?_
 rintro σ H Q ⟨δ,M,Q2,hs,hm,q,k⟩
 exact⟨δ,M,_,hs,hm,q,ou k⟩
variable {tA tB:eJ}{rest:List Expr}
def Je(t u:eJ):eJ:=λ δ M Q=>t δ M λ c M1=>if c=true then u δ M1 Q else Q false M1
def RU(t u:eJ):eJ:=λ δ M Q=>t δ M λ c M1=>if c=true then Q true M1 else u δ M1 Q
def IZ(t:eJ):eJ:=λ δ M Q=>t δ M λ c M1=>Q (!c) M1
theorem EN(ha:QT X a tA):QW X (.BoolOp .And [a] pos) tA:=Ff ha
theorem JL(ha:QT X a tA):QW X (.BoolOp .Or [a] pos) tA:=J_ ha
theorem JM(ha:QT X a tA)(hb:QW X (.BoolOp .And (b::rest) pos) tB):QW X (.BoolOp .And (a::b::rest) pos) (Je tA tB):=HE (J' ha hb) λ σ H Q ⟨δ,M,Q2,hs,hm,q,k⟩=>by
 refine⟨δ,M,_,hs,hm,q,λ c H1 M1 bR t1 q1=>?_⟩
 cases c with
 |true=>
  rw[J4 rfl]at q1 ⊢
  exact⟨δ,M1,Q2,hs.mono t1,bR,q1,k.mono t1⟩
 |false=>
  rw[J5 o9]at q1 ⊢
  exact k _ _ _ bR t1 q1
theorem NS(ha:QT X a tA)(hb:QW X (.BoolOp .Or (b::rest) pos) tB):QW X (.BoolOp .Or (a::b::rest) pos) (RU tA tB):=HE (N8 ha hb) λ σ H Q ⟨δ,M,Q2,hs,hm,q,k⟩=>by
 refine⟨δ,M,_,hs,hm,q,λ c H1 M1 bR t1 q1=>?_⟩
 cases c with
 |true=>
  rw[J4 rfl]at q1 ⊢
  exact k _ _ _ bR t1 q1
 |false=>
  rw[J5 o9]at q1 ⊢
  exact⟨δ,M1,Q2,hs.mono t1,bR,q1,k.mono t1⟩
theorem JO(ha:QT X a tA):QT X (.UnaryOp .Not a pos) (IZ tA):=Bc (Kb ha) λ σ H Q ⟨δ,M,Q2,hs,hm,q,k⟩=>⟨δ,M,_,hs,hm,q,λ c H1 M1 bR t1 q1=>k _ _ _ bR t1 q1⟩
def Av(ta tb:bV):bV:=λ δ M Q=>ta δ M λ d M1=>match d with
 | .bl c=>if c=true then tb δ M1 Q else Q (.bl false) M1
 |_=>False
theorem NV{op}(h:QE X a ta):QE X (.BoolOp op [a] pos) ta:=Ko h
theorem N7(ha:QE X a ta)(hb:QE X (.BoolOp .And (b::rest) pos) tb):QE X (.BoolOp .And (a::b::rest) pos) (Av ta tb):=bO (Kt ha hb) λ σ H Q ⟨δ,M,Q2,hs,hm,q,k⟩=>by
 refine⟨δ,M,_,hs,hm,q,λ x H1 d M1 hd bR t1 q1=>?_⟩
 cases d with
 |bl c=>
  refine⟨c,aN.mp hd,?_⟩
  have q1:if c=true then tb δ M1 Q2 else Q2 (.bl false) M1:=q1
  cases c with
  |true=>
   rw[J4 rfl]at q1 ⊢
   exact⟨δ,M1,Q2,hs.mono t1,bR,q1,k.mono t1⟩
  |false=>
   rw[J5 o9]at q1 ⊢
   exact k _ _ _ _ (aN.mpr rfl) bR t1 q1
 |_=>exact q1.elim
variable {es:List Expr}{t:iy}
def I_:iy:=λ _ M Q=>Q [] M
def Au(ta:bV)(tr:iy):iy:=λ δ M Q=>ta δ M λ d M1=>tr δ M1 λ ds M2=>Q (d::ds) M2
theorem A_:QA X [] I_:=Br ip λ σ H Q ⟨δ,M,Q2,hs,hm,q,k⟩=>k [] H [] M (by rw[ao]) hm (av.refl H) q
theorem wV(ha:QE X e ta)(hr:QA X es t)(hs:starEach (e::es) X.env=(false,eval e X.env)::starEach es X.env:=by rfl):QA X (e::es) (Au ta t):=Br (fN ha hr hs) λ σ H Q ⟨δ,M,Q2,hs,hm,q,k⟩=>by
 refine⟨δ,M,_,hs,hm,q,λ x H1 d M1 hd bR t1 q1=>?_⟩
 refine⟨δ,M1,_,hs.mono t1,bR,q1,λ xs H2 ds M2 GG ux t2 q2=>?_⟩
 exact k (x::xs) H2 (d::ds) M2 (ai.mpr ⟨x,xs,rfl,Dat.mono t2 d hd,GG⟩) ux (t1.trans t2) q2
def IW(t:iy):bV:=λ δ M Q=>t δ M λ ds M1=>ds.length<=sizeLine/\Q (.tup ds) M1
theorem fI{K:PySem.W.Frag}{H:Hp}{p:Addr}{xs:List V}{ds:List D}(hp:H p=none)(h:aD K H ds xs):Dat K (upd H p (.tup xs)) (.tup ds) (.ref p):=aM.mpr ⟨p,xs,rfl,fz.of br,aD.mono (av.laid hp) ds h⟩
theorem NU{x1}(h:QA X es t):QE X (.Tuple es x1 pos) (IW t):=bO (Km h) λ σ H Q ⟨δ,M,Q2,hs,hm,q,k⟩=>by
 refine⟨δ,M,_,hs,hm,q,λ xs H1 ds M1 hd bR t1 q1=>?_⟩
 refine⟨by rw[hd.length];exact q1.1,λ p hp=>?_⟩
 exact k _ _ (.tup ds) M1 (fI hp hd) (bR.laid hp) (t1.trans (av.laid hp)) q1.2
def Ja(t:iy):bV:=λ δ M Q=>t δ M λ ds M1=>ds.length<=sizeLine/\∀p,M1 p=none->Q (.ref p) (ak M1 p (.lst ds))
theorem cZ{K:PySem.W.Frag}{H:Hp}{M:Mem}{p:Addr}{xs:List V}{ds:List D}(hp:H p=none)(h:aD K H ds xs)(hm:RelM K H M):RelM K (upd H p (.lst xs)) (ak M p (.lst ds)):=
 hm.put (av.laid hp) ⟨xs,br,aD.mono (av.laid hp) ds h⟩
theorem NX(h:QA X es t):QE X (.List es pos) (Ja t):=bO (Kq h) λ σ H Q ⟨δ,M,Q2,hs,hm,q,k⟩=>by
 refine⟨δ,M,_,hs,hm,q,λ xs H1 ds M1 hd bR t1 q1=>?_⟩
 refine⟨by rw[hd.length];exact q1.1,λ p hp=>?_⟩
 exact k _ _ (.ref p) _ (aB.mpr rfl) (cZ hp hd bR) (t1.trans (av.laid hp)) (q1.2 p (bR.free hp))
theorem Sj{r2:fA}(o:PU X r2)(ha:QE X a ta)(hb:QE X b tb)(hs:qI b):QE X (.Subscript a b pos) (Dy r2 ta tb):=by
 obtain⟨r,ho,hr⟩:=o
 exact bO (Oa ho ha hb hs) (lJ hr)
abbrev Hi:=dq->Mem->(Option Int->Mem->Prop)->Prop
def PV(K:PySem.W.Frag)(H:Hp)(Q2:Option Int->Mem->Prop)(Q:Option Int->Hp->Prop):Prop:=∀o H' M',RelM K H' M'->av H H'->Q2 o M'->Q o H'
def U8(K:PySem.W.Frag)(t:Hi):TO:=λ σ H Q=>∃δ M Q2,cC K H δ σ/\RelM K H M/\t δ M Q2/\PV K H Q2 Q
abbrev QO(X:Cx)(e:Option Expr)(t:Hi):Prop:=PO X e (U8 X.K t)
theorem HF{e:Option Expr}{t t':TO}(h:PO X e t)(k:∀σ H Q,t' σ H Q->t σ H Q):PO X e t':=λ pins s σ H Q I q=>h pins s σ H Q I (k σ H Q q)
def pF:Hi:=λ _ M Q=>Q none M
def An(t:bV):Hi:=λ δ M Q=>t δ M λ d M1=>match d with
 | .int i=>Q (some i) M1
 |_=>False
theorem EU:QO X none pF:=HF Fo λ σ H Q ⟨δ,M,Q2,hs,hm,q,k⟩=>k _ _ _ hm (av.refl H) q
theorem ET(h:QE X e ta):QO X (some e) (An ta):=HF (Fn h) λ σ H Q ⟨δ,M,Q2,hs,hm,q,k⟩=>by
 refine⟨δ,M,_,hs,hm,q,λ x H1 d M1 hd bR t1 q1=>?_⟩
 cases d with
 |int i=>exact⟨i,ax.mp hd,k _ _ _ bR t1 q1⟩
 |_=>exact q1.elim
variable {lo hi:Option Expr}{tl th:Hi}{p2:Pos}
def RT(r2:D->Option Int->Option Int->Mem->bD->Prop)(te:bV)(tl th:Hi):bV:=λ δ M Q=>te δ M λ d M1=>tl δ M1 λ l M2=>th δ M2 λ u M3=>r2 d l u M3 Q
theorem Fb{r2:D->Option Int->Option Int->Mem->bD->Prop}(o:PM X r2)(he:QE X e ta)(hl:QO X lo tl)(hu:QO X hi th):QE X (.Subscript e (.Slice lo hi none p2) pos) (RT r2 ta tl th):=by
 obtain⟨r,ho,hr⟩:=o
 refine bO (Bn ho he hl hu) ?_
 rintro σ H Q ⟨δ,M,Q2,hs,hm,q,k⟩
 refine⟨δ,M,_,hs,hm,q,λ x H1 d M1 hd bR t1 q1=>?_⟩
 refine⟨δ,M1,_,hs.mono t1,bR,q1,λ l H2 M2 ux t2 q2=>?_⟩
 refine⟨δ,M2,_,hs.mono (t1.trans t2),ux,q2,λ u H3 M3 Cy t3 q3=>?_⟩
 exact hr x d l u H3 M3 Q2 Q (Dat.mono (t2.trans t3) d hd) Cy q3 (k.mono (t1.trans (t2.trans t3)))
def My(r2:List D->Mem->bD->Prop)(t:iy):bV:=λ δ M Q=>t δ M λ ds M1=>r2 ds M1 Q
variable {x:Str}{p:Pos}{id T:String}
theorem xU{K:PySem.W.Frag}{r:List V->Hp->VK->Prop}{r2:List D->Mem->bD->Prop}(hr:Mq K r r2):∀σ H Q,up K (My r2 t) σ H Q->Qb r (Ue K t) σ H Q:=by
 rintro σ H Q ⟨δ,M,Q2,hs,hm,q,k⟩
 exact⟨δ,M,_,hs,hm,q,λ xs H1 ds M1 hd bR t1 q1=>hr xs ds H1 M1 Q2 Q hd bR q1 (k.mono t1)⟩
theorem Fe{r2:List D->Mem->bD->Prop}(o:cU X (.builtin id) r2)(hg:Gl X x)(hm:X.mg x=none)(hv:bootBuiltins x=some (.builtin id))(ha:QA X (e::es) t)(hn:x≠"__name__":=by decide)(hdb:(x==("__debug__":Str))=false:=by decide)
  (he:starEach (e::es) X.env=(false,eval e X.env)::starEach es X.env:=by rfl) (hpl:(backTo pos (starEach es X.env)).any (·.1)=false:=by rfl):QE X (.Call (.Name x p) (e::es) [] pos) (My r2 t):=by
 obtain⟨r,ho,hr⟩:=o
 exact bO (rV ho hg hm hv ha hn hdb he hpl) (xU hr)
theorem Fd{r2:List D->Mem->bD->Prop}(o:cU X (.type T) r2)(hg:Gl X x)(hm:X.mg x=none)(hv:bootBuiltins x=some (.type T))(ha:QA X (e::es) t)(hn:x≠"__name__":=by decide)(hdb:(x==("__debug__":Str))=false:=by decide)
  (he:starEach (e::es) X.env=(false,eval e X.env)::starEach es X.env:=by rfl) (hpl:(backTo pos (starEach es X.env)).any (·.1)=false:=by rfl):QE X (.Call (.Name x p) (e::es) [] pos) (My r2 t):=by
 obtain⟨r,ho,hr⟩:=o
 exact bO (oA ho hg hm hv ha hn hdb he hpl) (xU hr)
end
end L3
namespace L3
open PySem PySem.Spec L2
def Hn(T:String)(d:D)(M:Mem):Prop:=match d with
 | .str _=>T="str"
 | .ref a=>T="list"/\∃ds,M a=some (.lst ds)
 |_=>False
theorem Hn.v {K:PySem.W.Frag}{H:Hp}{M:Mem}{T:String}{d:D}{x:V}(h:Hn T d M)(r:Dat K H d x)(hm:RelM K H M):P_ K T x H:=by
 cases d with
 |str z=>cases(aL.mp r);exact h
 |ref a=>
  cases(aB.mp r)
  obtain⟨e,ds,q⟩:=h
  obtain⟨xs,hx,_⟩:=hm a _ q
  exact .inl ⟨e,xs,du.of hx⟩
 |_=>exact h.elim
section
variable {X:Cx}{o e:Expr}{es:List Expr}{to:bV}{t:iy}{T id:String}{name:Str}{apos bJ:Pos}
def RV(T:String)(r2:D->List D->Mem->bD->Prop)(to:bV)(t:iy):bV:=λ δ M Q=>to δ M λ d M1=>Hn T d M1/\t δ M1 λ ds M2=>r2 d ds M2 Q
def Jd(T:String)(r2:D->List D->Mem->bD->Prop)(to:bV):bV:=λ δ M Q=>to δ M λ d M1=>Hn T d M1/\r2 d [] M1 Q
theorem N6{r2:D->List D->Mem->bD->Prop}(pa:PlainAttrs T)(slot:Slot T name id)(hty:typeOf (.builtin id)=pure (.type "method_descriptor"))(hm:zI X id r2)(ho:QE X o to)
  (hbase:attributeBase o name X.env (eval o X.env)=eval o X.env:=by rfl) (hline:(apos.endLine==bJ.line)=true:=by rfl):QE X (.Call (.Attribute o name apos) [] [] bJ) (Jd T r2 to):=by
 obtain⟨r,h1,hr⟩:=hm
 refine bO (Ks pa slot hty h1 ho hbase hline) ?_
 rintro σ H Q ⟨δ,M,Q2,hs,hm,q,k⟩
 exact⟨δ,M,_,hs,hm,q,λ x H1 d M1 hd bR t1 q1=>⟨q1.1.v hd bR,hr x [] d [] H1 M1 Q2 Q hd (by rw[ao]) bR q1.2 (k.mono t1)⟩⟩
theorem Sk{r2:D->List D->Mem->bD->Prop}(pa:PlainAttrs T)(slot:Slot T name id)(hty:typeOf (.builtin id)=pure (.type "method_descriptor"))(hm:zI X id r2)(ho:QE X o to)(ha:QA X (e::es) t)
  (hbase:attributeBase o name X.env (eval o X.env)=eval o X.env:=by rfl)
  (hfew:((backTo bJ (starEach (e::es) X.env)).all (λ x=>!x.1)&&(backToKw bJ (keywordEach [] X.env)).all (λ x=>x.1.isSome)
   &&decide ((e::es).length+([]:List Keyword).length+(if([]:List Keyword).isEmpty then 0 else 1) < 30))=true:=by rfl)
  (hline:(apos.endLine==bJ.line)=true:=by rfl) (hs:starEach (e::es) X.env=(false,eval e X.env)::starEach es X.env:=by rfl) (hplain:(backTo bJ (starEach es X.env)).any (·.1)=false:=by rfl):
  QE X (.Call (.Attribute o name apos) (e::es) [] bJ) (RV T r2 to t):=by
 obtain⟨r,h1,hr⟩:=hm
 refine bO (HH pa slot hty h1 ho ha hbase hfew hline hs hplain) ?_
 rintro σ H Q ⟨δ,M,Q2,hs,hm,q,k⟩
 refine⟨δ,M,_,hs,hm,q,λ x H1 d M1 hd bR t1 q1=>⟨q1.1.v hd bR,δ,M1,_,hs.mono t1,bR,q1.2,λ xs H2 ds M2 GG ux t2 q2=>?_⟩⟩
 exact hr x xs d ds H2 M2 Q2 Q (Dat.mono t2 d hd) GG ux q2 (k.mono (t1.trans t2))
end
abbrev eK:=List D->Mem->bD->Prop
def cA(K:PySem.W.Frag)(sp:eK):Sp:=λ vs H Q _=>∃ds M Q2,aD K H ds vs/\RelM K H M/\sp ds M Q2/\iB K H Q2 Q
def sD(sp:eK)(t:iy):bV:=λ δ M Q=>t δ M λ ds M1=>sp ds M1 Q
abbrev bM(P:Program)(w:World)(K:PySem.W.Frag)(mg:Str->Option Value)(base:Heap)(k:Nat)(x:Str)(ps:List Str)(sp:eK):Prop:=bG P w K mg base k x ps (cA K sp)
section
variable {X:Cx}{x:Str}{p pos:Pos}{e:Expr}{es:List Expr}{t:iy}{k j:Nat}{ps:List Str}{sp:eK}
theorem NZ(d:bM X.prog X.w X.K X.mg X.base k x ps sp)(hr:cD k X.A)(hg:Gl X x)(ha:QA X (e::es) t)(hdb:(x==("__debug__":Str))=false:=by decide)(he:starEach (e::es) X.env=(false,eval e X.env)::starEach es X.env:=by rfl)
  (hpl:(backTo pos (starEach es X.env)).any (·.1)=false:=by rfl):QE X (.Call (.Name x p) (e::es) [] pos) (sD sp t):=by
 refine bO (Kr d hr hg ha hdb he hpl) ?_
 rintro σ H Q ⟨δ,M,Q2,hs,hm,q,k⟩
 exact⟨δ,M,_,hs,hm,q,λ xs H1 ds M1 hd bR t1 q1=>⟨ds,M1,Q2,hd,bR,q1,k.mono t1⟩⟩
end
def jC(N:List Str)(ds:List D):dq:=ds.map some++List.replicate (N.length - ds.length) none
theorem yt{K:PySem.W.Frag}{H:Hp}{N:List Str}{ds:List D}{vs:List V}(h:aD K H ds vs):cC K H (jC N ds) (L2.start N vs):=by
 have hl:=h.length
 refine⟨by unfold jC L2.start;simp[hl],λ i d e=>?_⟩
 unfold jC at e
 by_cases hi:i < ds.length
 ·rw[g9 (by simpa using hi),r9]at e
  cases q:ds[i]? with
  |none=>rw[q]at e;cases e
  |some d'=>
   rw[q]at e
   have e:d'=d:=by simpa using e
   subst e
   obtain⟨v,hv,r⟩:=h.get q
   refine⟨v,?_,r⟩
   unfold L2.start
   rw[g9 (by simp;omega),r9,hv]
   rfl
 ·rw[e7 (by simpa using hi),j4]at e
  split at e <;> cases e
def fin2(Q:bD):bD:=λ d M'=>∃Ir,lp Ir M'/\Q d Ir
theorem aA{Q:bD}{d:D}{M:Mem}(q:Q d M):fin2 Q d M:=⟨M,lp.refl M,q⟩
section
variable {P:Program}{w:World}{K:PySem.W.Frag}{mg:Str->Option Value}{base:Heap}
theorem Vo{x qual:Str}{st:Stmt}{f:Addr}{fd:FuncData}{N ps:List Str}{k:Nat}{sp:eK}(F:gb K x qual st f fd)(S:aK N ps (ay st))(len:∀ds M Q,sp ds M Q->ds.length=ps.length)
  (mW:∀(cT:Value) (A:Around) (outer:List Env) (s:Shared) (H:Hp) (E:XK) (ds:List D) (M:Mem) (Q:bD),cD k (A.deeper (PyProof.Rows.envOfC qual (ay st) s.heap.objs.size f cT))->sp ds M Q->
   ∃t,DD (tR fc P w K mg base N qual (ay st) f cT A outer s H E).MB (dh st) t/\t {nx:=λ _ M'=>fin2 Q .bj M',rt:=fin2 Q} (jC N ds) M):bS P w K mg base fc (k+1) f fd ps (cA K sp):=by
 refine F.ok S (λ vs H Q E h=>?_) (λ cT A outer s H vs Q E hr h=>?_)
 ·obtain⟨ds,M,Q2,hd,_,hs,_⟩:=h
  rw[hd.length]
  exact len ds M Q2 hs
 ·obtain⟨ds,M,Q2,hd,hm,hs,kk⟩:=h
  obtain⟨t,ht,q⟩:=mW cT A outer s H E ds M Q2 hr hs
  refine⟨_,ht,jC N ds,M,_,yt hd,hm,q,⟨?_,?_,?_,?_⟩⟩
  ·exact λ σ' H' δ' M' _ gf t' ⟨Ir,s,q⟩=>kk _ H' .bj Ir (dj.mpr rfl) (gf.sub s) t' q
  ·exact λ v H' d M' jf gf t' ⟨Ir,s,q⟩=>kk v H' d Ir jf (gf.sub s) t' q
  ·exact λ σ' H' δ' M' _ gf t' q=>q
  ·exact λ σ' H' δ' M' _ gf t' q=>q
end
section
variable {X:Cx}{st:Stmt}{rest:List Stmt}{t u:jU}{te:bV}{e:Expr}{pos:Pos}
def Ao:jU:=λ E δ M=>E.nx δ M
def D_(t u:jU):jU:=λ E δ M=>t {E with nx:=u E} δ M
theorem ER:DD X [] Ao:=Be Fj λ E σ H ⟨δ,M,D2,hs,hm,q,k⟩=>k.nx σ H δ M hs hm (av.refl H) q
theorem EO(h:QS X st t):DD X [st] t:=Fi h
theorem AX(h1:QS X st t)(h2:DD X rest u):DD X (st::rest) (D_ t u):=Be (Bd h1 h2) λ E σ H ⟨δ,M,D2,hs,hm,q,k⟩=>by
 refine⟨δ,M,_,hs,hm,q,⟨λ σ' H' δ' M' vK gf t' q'=>?_,k.rt,k.bk,k.ct⟩⟩
 exact⟨δ',M',D2,vK,gf,q',k.mono t'⟩
def Ar(te:bV):jU:=λ E δ M=>te δ M λ _ M1=>E.nx δ M1
theorem ES(he:QE X e te)(hs:swapsWith e none pos.line X.env=pure false:=by rfl):QS X (.Expr e pos) (Ar te):=ke (Fm he hs) λ E σ H ⟨δ,M,D2,hs,hm,q,k⟩=>
 ⟨δ,M,_,hs,hm,q,λ x H1 d M1 hd bR t1 q1=>k.nx σ H1 δ M1 (hs.mono t1) bR t1 q1⟩
def IY(te:bV):jU:=λ E δ M=>te δ M E.rt
theorem JR(he:QE X e te):QS X (.Return (some e) pos) (IY te):=ke (Kd he) λ E σ H ⟨δ,M,D2,hs,hm,q,k⟩=>⟨δ,M,_,hs,hm,q,k.rt⟩
def Jb(c:eJ)(t u:jU):jU:=λ E δ M=>c δ M λ b M1=>if b=true then t E δ M1 else u E δ M1
theorem NT{c:Expr}{a b:List Stmt}{tc:eJ}(hc:QT X c tc)(ha:DD X a t)(hb:DD X b u):QS X (.If c a b pos) (Jb tc t u):=ke (N9 hc ha hb) λ E σ H ⟨δ,M,D2,hs,hm,q,k⟩=>by
 refine⟨δ,M,_,hs,hm,q,λ b H1 M1 bR t1 q1=>?_⟩
 cases b with
 |true=>
  rw[J4 rfl]at q1 ⊢
  exact⟨δ,M1,D2,hs.mono t1,bR,q1,k.mono t1⟩
 |false=>
  rw[J5 o9]at q1 ⊢
  exact⟨δ,M1,D2,hs.mono t1,bR,q1,k.mono t1⟩
abbrev fX:=D->dq->Mem->(dq->Mem->Prop)->Prop
abbrev nA:=List D->dq->Mem->(dq->Mem->Prop)->Prop
def ID(K:PySem.W.Frag)(t:fX):TG:=λ v σ H Q=>∃d δ M Q2,Dat K H d v/\cC K H δ σ/\RelM K H M/\t d δ M Q2/\kG K H Q2 Q
def RC(K:PySem.W.Frag)(t:nA):xY:=λ vs σ H Q=>∃ds δ M Q2,aD K H ds vs/\cC K H δ σ/\RelM K H M/\t ds δ M Q2/\kG K H Q2 Q
abbrev QG(X:Cx)(tg:Expr)(t:fX):Prop:=PG X tg (ID X.K t)
abbrev PN(X:Cx)(tg:List Expr)(t:nA):Prop:=Ms X tg (RC X.K t)
theorem Bm{tg:Expr}{g g':TG}(h:PG X tg g)(k:∀v σ H Q,g' v σ H Q->g v σ H Q):PG X tg g':=λ pins s σ H v u Q I r q=>h pins s σ H v u Q I r (k v σ H Q q)
theorem Bl{tg:List Expr}{g g':xY}(h:Ms X tg g)(k:∀v σ H Q,g' v σ H Q->g v σ H Q):Ms X tg g':=λ pins s σ H v u Q I r q=>h pins s σ H v u Q I r (k v σ H Q q)
def hName(i:Nat):fX:=λ d δ M Q=>Q (δ.set i (some d)) M
theorem jH{K:PySem.W.Frag}{i:Nat}:∀v σ H Q,ID K (hName i) v σ H Q->eD i v σ H Q:=λ v σ H Q ⟨d,δ,M,Q2,hd,hs,hm,q,k⟩=>k _ H _ M (hs.set hd) hm (av.refl H) q
theorem E_{i:Nat}{x:Str}(hN:X.N.Nodup)(hi:X.N[i]?=some x)(hx:Loc X.env.scope x)(hf:X.fn x=true\/X.env.scope.names.lookup x=some .local:=by first|exact .inl rfl|exact .inr rfl|assumption):QG X (.Name x pos) (hName i):=
 Bm (aH hN hi hx hf) jH
def vO:nA:=λ ds δ M Q=>match ds with
 |[]=>Q δ M
 |_=>False
def fm(t:fX)(u:nA):nA:=λ ds δ M Q=>match ds with
 |d::r=>t d δ M λ δ' M'=>u r δ' M' Q
 |_=>False
theorem EZ:PN X [] vO:=Bl fM λ v σ H Q ⟨ds,δ,M,Q2,hd,hs,hm,q,k⟩=>by
 cases ds with
 |nil=>exact⟨ao.mp hd,k _ H _ M hs hm (av.refl H) q⟩
 |cons d r=>exact q.elim
theorem AZ{e:Expr}{es:List Expr}{t:fX}{u:nA}(h1:QG X e t)(h2:PN X es u)
  (hs:(assignEach (e::es) X.env).map (·.2)=assign e X.env::(assignEach es X.env).map (·.2):=by rfl):PN X (e::es) (fm t u):=Bl (bX h1 h2 hs) λ v σ H Q ⟨ds,δ,M,Q2,hd,hs,hm,q,k⟩=>by
 cases ds with
 |nil=>exact q.elim
 |cons d r=>
  obtain⟨x,xs,rfl,hx,SO⟩:=ai.mp hd
  refine⟨x,xs,rfl,d,δ,M,_,hx,hs,hm,q,λ σ' H' δ' M' vK gf t' q'=>?_⟩
  exact⟨r,δ',M',Q2,aD.mono t' r SO,vK,gf,q',k.mono t'⟩
def vN(n:Nat)(t:nA):fX:=λ d δ M Q=>match d with
 | .tup ds=>ds.length=n/\t ds δ M Q
 |_=>False
theorem JV{es:List Expr}{k:Nat}{t:nA}{n:Nat}(hc:X.calm=true)(h:PN X es t)
  (hn:(assignEach es X.env).length=n:=by rfl) (hst:(assignEach es X.env).findIdx? (·.1)=none:=by rfl):QG X (.Tuple es k pos) (vN n t):=Bm (il hc h hn hst) λ v σ H Q ⟨d,δ,M,Q2,hd,hs,hm,q,k⟩=>by
 cases d with
 |tup ds=>
  obtain⟨p,xs,rfl,hq,hx⟩:=aM.mp hd
  exact⟨p,xs,rfl,hq,by rw[hx.length];exact q.1,ds,δ,M,Q2,hx,hs,hm,q.2,k⟩
 |_=>exact q.elim
abbrev jr:=D->D->D->Mem->(Mem->Prop)->Prop
def PX(K:PySem.W.Frag)(H:Hp)(N2:Mem->Prop)(N:Hp->Prop):Prop:=∀H' M',RelM K H' M'->av H H'->N2 M'->N H'
def Mo(K:PySem.W.Frag)(r:zA)(r2:jr):Prop:=∀o i v d j e H M Q2 Q,Dat K H d o->Dat K H j i->Dat K H e v->RelM K H M->r2 d j e M Q2->PX K H Q2 Q->r o i v H Q
def Du(X:Cx)(r2:jr):Prop:=∃r,qJ X r/\Mo X.K r r2
def hSub(to ti:bV)(t:jr):fX:=λ e δ M Q=>to δ M λ d M1=>ti δ M1 λ j M2=>t d j e M2 λ M3=>Q δ M3
theorem JW{o i:Expr}{to ti:bV}{t:jr}(ho:QE X o to)(hi:QE X i ti)(hs:Du X t)
  (ha:∀v,assign (.Subscript o i pos) X.env v=(do
   let ov <- holding [v] (eval o X.env)
   let iv <- holding [v,ov] (eval i X.env)
   standAt pos
   holding [v,ov,iv] (setItem ov iv v)
   release [v,ov,iv] []):=by intro _;rfl):QG X (.Subscript o i pos) (hSub to ti t):=by
 obtain⟨r,h1,hr⟩:=hs
 refine Bm (Ki ho hi h1 ha) ?_
 rintro v σ H Q ⟨e,δ,M,Q2,hd,hs,hm,q,k⟩
 refine⟨δ,M,_,hs,hm,q,λ x H1 d M1 hx bR t1 q1=>?_⟩
 refine⟨δ,M1,_,hs.mono t1,bR,q1,λ y H2 j M2 hy ux t2 q2=>?_⟩
 exact hr x y v d j e H2 M2 _ _ (Dat.mono t2 d hx) hy (Dat.mono (t1.trans t2) e hd) ux q2 λ H3 M3 Cy t3 q3=>k σ H3 δ M3 (hs.mono (t1.trans (t2.trans t3))) Cy (t1.trans (t2.trans t3)) q3
def rL(te:bV)(g:fX):jU:=λ E δ M=>te δ M λ d M1=>g d δ M1 E.nx
theorem uo{K:PySem.W.Frag}{g:TG}{g2:fX}(hg:∀v σ H Q,ID K g2 v σ H Q->g v σ H Q):∀E σ H,RB K (rL te g2) E σ H->DS (up K te) g E σ H:=by
 rintro E σ H ⟨δ,M,D2,hs,hm,q,k⟩
 exact⟨δ,M,_,hs,hm,q,λ x H1 d M1 hd bR t1 q1=>hg x σ H1 _ ⟨d,δ,M1,_,hd,hs.mono t1,bR,q1,k.nx.mono t1⟩⟩
theorem JT{tg e:Expr}{g:fX}(he:QE X e te)(hg:QG X tg g)(hs:swapsWithSole [tg] e pos.line X.env=pure false:=by rfl)(hw:swappedStores [tg] e X.env=pure none:=by rfl)
  (h1:(assignEach [tg] X.env).map (·.2)=[assign tg X.env]:=by rfl):QS X (.Assign [tg] e pos) (rL te g):=ke (Kf he hg hs hw h1) (uo λ _ _ _ _ h=>h)
theorem JQ{i:Nat}{x:Str}{e:Expr}{pos':Pos}(hN:X.N.Nodup)(hi:X.N[i]?=some x)(hx:Loc X.env.scope x)(he:QE X e te)(hs:swapsWith e (some (.Name x pos')) pos.line X.env=pure false:=by rfl)
  (hf:X.fn x=true\/X.env.scope.names.lookup x=some .local:=by first|exact .inl rfl|exact .inr rfl|assumption):QS X (.Assign [.Name x pos'] e pos) (rL te (hName i)):=ke (Kc hN hi hx he hs hf) (uo jH)
end
end L3
namespace L3
open PySem PySem.Spec L2
inductive Src where
 |fix (ds:List D)
 |at(a:Addr)
 |fn (f:Mem->Option (List D))
def items(s:Src)(M:Mem):Option (List D):=match s with
 | .fix ds=>some ds
 | .at a=>match M a with
  |some (.lst ds)=>some ds
  |_=>none
 | .fn f=>f M
def nY(K:PySem.W.Frag)(H1:Hp)(J:It)(src:Src):Prop:=∀H M ds,av H1 H->RelM K H M->items src M=some ds->
 (∀i,i < ds.length->J.go i H)/\(∀i,i=ds.length->J.stop i H)/\(∀i x H',i < ds.length->J.DG i H x H'->av H H'/\RelM K H' M/\∃d,ds[i]?=some d/\Dat K H' d x)
abbrev lh:=dq->Mem->(Src->Mem->Prop)->Prop
def Mv(K:PySem.W.Frag)(t:lh):TI:=λ σ H R=>∃δ M R2,cC K H δ σ/\RelM K H M/\t δ M R2/\∀J H' src M',nY K H' J src->RelM K H' M'->av H H'->R2 src M'->R J H'
abbrev QI(X:Cx)(tg iter:Expr)(t:lh):Prop:=PI X tg iter (Mv X.K t)
theorem wX{X:Cx}{tg iter:Expr}{t t':TI}(h:PI X tg iter t)(k:∀σ H R,t' σ H R->t σ H R):PI X tg iter t':=λ pins s σ H R I q=>h pins s σ H R I (k σ H R q)
def jD(z:Str):List D:=z.cps.toList.map λ c=>D.str ⟨#[c]⟩
def gA(lo:Int)(n:Nat):List D:=(List.range n).map λ i=>D.int (lo+(i:Nat))
theorem aV(lo:Int)(n:Nat):(gA lo n).length=n:=by simp[gA]
theorem mI{lo:Int}{n i:Nat}(h:i < n):(gA lo n)[i]?=some (.int (lo+(i:Nat))):=by simp[gA,h]
theorem Ce{K:PySem.W.Frag}{H1:Hp}{z:Str}:nY K H1 (MW z) (.fix (jD z)):=λ H M ds t hm e=>by
 cases e
 have hl:(jD z).length=z.cps.size:=by simp[jD]
 refine⟨λ i hi=>by rw[hl]at hi;exact hi,λ i hi=>by rw[hl]at hi;exact hi,λ i x H' hi y=>?_⟩
 obtain⟨e,c,hc,rfl⟩:=y
 subst e
 refine⟨av.refl _,hm,.str ⟨#[c]⟩,?_,aL.mpr rfl⟩
 simp[jD,hc]
theorem Cd{K:PySem.W.Frag}{H1:Hp}{a:Addr}{xs:List V}{ds:List D}(h:fz K H1 a xs)(hd:aD K H1 ds xs):nY K H1 (T_ K a) (.fix ds):=λ H M es t hm e=>by
 cases e
 have hq:=rq t h
 have hx:=aD.mono t ds hd
 have hl:=hx.length
 refine⟨λ i hi=>⟨xs,xs[i]'(by omega),hq,by simp[hl,hi]⟩,λ i hi=>⟨xs,hq,by omega⟩,λ i x H' hi y=>?_⟩
 obtain⟨e,y⟩:=y
 obtain⟨d,h1,h2⟩:=hx.mX (y xs hq)
 subst e
 exact⟨av.refl _,hm,d,h1,h2⟩
theorem Cf{K:PySem.W.Frag}{H1:Hp}{a:Addr}:nY K H1 (Rx K a) (.at a):=λ H M ds t hm e=>by
 have e:(match M a with|some (.lst ds)=>some ds|_=>none)=some ds:=e
 cases q:M a with
 |none=>rw[q]at e;cases e
 |some o=>
  cases o with
  |dr b kvs=>rw[q]at e;cases e
  |lst es=>
   rw[q]at e
   have e:es=ds:=A9 e
   subst e
   obtain⟨xs,hx,hd⟩:=hm a _ q
   have hq:du K H a xs:=du.of hx
   have hl:=hd.length
   refine⟨λ i hi=>⟨xs,xs[i]'(by omega),hq,by simp[hl,hi]⟩,λ i hi=>⟨xs,hq,by omega⟩,λ i x H' hi y=>?_⟩
   obtain⟨e,y⟩:=y
   obtain⟨d,h1,h2⟩:=hd.mX (y xs hq)
   subst e
   exact⟨av.refl _,hm,d,h1,h2⟩
theorem Gk{K:PySem.W.Frag}{H1:Hp}{a:Addr}{xs:List V}{ds:List D}(h:Iu K H1 a xs)(hd:aD K H1 ds xs):nY K H1 (Rx K a) (.fix ds):=λ H M es t hm e=>by
 cases e
 have hq:=(tj t h).sq
 have hx:=aD.mono t ds hd
 have hl:=hx.length
 refine⟨λ i hi=>⟨xs,xs[i]'(by omega),hq,by simp[hl,hi]⟩,λ i hi=>⟨xs,hq,by omega⟩,λ i x H' hi y=>?_⟩
 obtain⟨e,y⟩:=y
 obtain⟨d,h1,h2⟩:=hx.mX (y xs hq)
 subst e
 exact⟨av.refl _,hm,d,h1,h2⟩
theorem vI{K:PySem.W.Frag}{H1:Hp}{lo:Int}{n:Nat}:nY K H1 (Rw lo n) (.fix (gA lo n)):=λ H M ds t hm e=>by
 cases e
 rw[aV]
 refine⟨λ i hi=>hi,λ i hi=>Nat.le_of_eq hi.symm,λ i x H' hi y=>?_⟩
 obtain⟨e,rfl⟩:=y
 subst e
 exact⟨av.refl _,hm,_,mI hi,ax.mpr rfl⟩
section
variable {X:Cx}{tg l:Expr}{tl:bV}{ta:iy}{a b:Expr}{p pos:Pos}
def Ln(tl:bV):lh:=λ δ M R=>tl δ M λ d M1=>match d with
 | .str z=>R (.fix (jD z)) M1
 | .tup ds=>R (.fix ds) M1
 | .fl ds=>R (.fix ds) M1
 | .ref a=>match M1 a with
  |some (.lst _)=>R (.at a) M1
  |_=>False
 |_=>False
theorem JU(hl:QE X l tl):QI X tg l (Ln tl):=wX (Kh hl) λ σ H R ⟨δ,M,R2,hs,hm,q,k⟩=>by
 refine⟨δ,M,_,hs,hm,q,λ x H1 d M1 hd bR t1 q1=>?_⟩
 cases d with
 |str z=>
  cases(aL.mp hd)
  exact k _ H1 _ M1 Ce bR t1 q1
 |tup ds=>
  obtain⟨p,xs,rfl,hq,hx⟩:=aM.mp hd
  exact .inr ⟨xs,hq,k _ H1 _ M1 (Cd hq hx) bR t1 q1⟩
 |fl ds=>
  obtain⟨p,xs,rfl,hq,hx⟩:=iw.mp hd
  exact .inl ⟨xs,hq.sq,k _ H1 _ M1 (Gk hq hx) bR t1 q1⟩
 |ref a=>
  cases(aB.mp hd)
  have q1:(match M1 a with|some (.lst _)=>R2 (.at a) M1|_=>False):=q1
  cases e:M1 a with
  |none=>rw[e]at q1;exact q1.elim
  |some o=>
   cases o with
   |dr b kvs=>rw[e]at q1;exact q1.elim
   |lst es=>
    rw[e]at q1
    obtain⟨xs,hx,_⟩:=bR a _ e
    exact .inl ⟨xs,du.of hx,k _ H1 _ M1 Cf bR t1 q1⟩
 |_=>exact q1.elim
def T'(j:Int):Prop:= -(2^62)<=j/\j < 2^62
theorem cv{j:Int}(h0: -1000000000<=j)(h1:j<=1000000000):T' j:=by
 constructor
 ·exact Int.le_trans (by decide) h0
 ·exact Int.lt_of_le_of_lt h1 (by decide)
def Cb(ta:iy):lh:=λ δ M R=>ta δ M λ ds M1=>match ds with
 |[.int j]=>T' j/\R (.fix (gA 0 j.toNat)) M1
 |_=>False
theorem yC(hg:Gl X "range")(hm:X.mg "range"=none)(ha:QA X [a] ta)(hs:starEach [a] X.env=[(false,eval a X.env)]:=by rfl):QI X tg (.Call (.Name "range" p) [a] [] pos) (Cb ta):=wX (yH hg hm ha hs) λ σ H R ⟨δ,M,R2,hs,hm,q,k⟩=>by
 refine⟨δ,M,_,hs,hm,q,λ xs H1 ds M1 hd bR t1 q1=>?_⟩
 cases ds with
 |nil=>exact q1.elim
 |cons d r=>
  cases r with
  |cons d2 r2=>cases d <;> exact q1.elim
  |nil=>
   cases d with
   |int j=>
    obtain⟨x,r,rfl,hx,hr⟩:=ai.mp hd
    cases(ao.mp hr)
    cases(ax.mp hx)
    obtain⟨⟨b1,b2⟩,q1⟩:=q1
    exact⟨j,rfl,b1,b2,k _ H1 _ M1 vI bR t1 q1⟩
   |_=>exact q1.elim
end
end L3
namespace L3
open PySem PySem.Spec L2
def Jc(wi:lh)(g:fX)(tb:jU):jU:=λ E δ M=>wi δ M λ src M1=>∃(B:Nat) (W:Nat->dq->Mem->Prop),W 0 δ M1/\∀i δ M,W i δ M->i<=B/\match items src M with
 |none=>False
 |some ds=>match ds[i]? with
  |none=>i=ds.length/\E.nx δ M
  |some d=>g d δ M λ δ2 M2=>tb {E with nx:=W (i+1),ct:=W (i+1),bk:=E.nx} δ2 M2
section
variable {X:Cx}{tg iter:Expr}{wi:lh}{g:fX}{tb:jU}{body:List Stmt}{pos:Pos}
theorem JS(hp:PassesOwn (model X.prog X.w) X.A X.env X.xe)(hc:X.calm=true)(hi:QI X tg iter wi)(hg:QG X tg g)(hb:DD X body tb)(hs:∀x,foldedSetIterable iter X.env x=pure x:=by intro _;rfl):
  QS X (.For tg iter body [] pos) (Jc wi g tb):=ke (Ke hp hc hi hg hb hs) λ E σ H ⟨δ,M,D2,hs,hm,q,k⟩=>by
 refine⟨δ,M,_,hs,hm,q,λ J H1 src M1 ok bR t1 q1=>?_⟩
 obtain⟨B,W,w0,turn⟩:=q1
 refine⟨λ i m σ' H'=>m=B+1 - i/\∃δ' M',cC X.K H' δ' σ'/\RelM X.K H' M'/\av H1 H'/\W i δ' M',⟨B+1,rfl,δ,M1,hs.mono t1,bR,av.refl _,w0⟩,?_⟩
 rintro i m σ' H' ⟨rfl,δ',M',vK,gf,t',w'⟩
 obtain⟨hB,h⟩:=turn i δ' M' w'
 cases ei:items src M' with
 |none=>rw[ei]at h;exact h.elim
 |some ds=>
  rw[ei]at h
  obtain⟨go,stop,DG⟩:=ok H' M' ds t' gf ei
  cases ed:ds[i]? with
  |none=>
   simp only[ed]at h
   exact .inl ⟨stop i h.1,k.nx σ' H' δ' M' vK gf (t1.trans t') h.2⟩
  |some d=>
   simp only[ed]at h
   have OY:i < ds.length:=(i5.mp ed).1
   refine .inr ⟨go i OY,λ σ2 H2=>∃δ2 M2,cC X.K H2 δ2 σ2/\RelM X.K H2 M2/\av H1 H2/\W (i+1) δ2 M2,λ σ2 H2 ⟨δ2,M2,a,b,c,w2⟩=>⟨B+1 - (i+1),by omega,rfl,δ2,M2,a,b,c,w2⟩,λ x H2 y=>?_⟩
   obtain⟨t2,ux,d',e',jf⟩:=DG i x H2 OY y
   rw[ed]at e'
   cases e'
   refine⟨d,δ',M',_,jf,vK.mono t2,ux,h,λ σ3 H3 δ3 M3 Q6 Cy t3 q3=>?_⟩
   refine⟨δ3,M3,_,Q6,Cy,q3,⟨?_,?_,?_,?_⟩⟩
   ·exact λ σ4 H4 δ4 M4 a b c w4=>⟨δ4,M4,a,b,t'.trans (t2.trans (t3.trans c)),w4⟩
   ·exact k.rt.mono (t1.trans (t'.trans (t2.trans t3)))
   ·exact k.nx.mono (t1.trans (t'.trans (t2.trans t3)))
   ·exact λ σ4 H4 δ4 M4 a b c w4=>⟨δ4,M4,a,b,t'.trans (t2.trans (t3.trans c)),w4⟩
end
end L3
namespace L3
open PySem PySem.Spec L2
def uT(c:eJ)(tb:jU):jU:=λ E δ M=>∃W:Nat->dq->Mem->Prop,(∃m,W m δ M)/\∀m δ M,W m δ M->c δ M λ b M1=>
 if b=true then ∃N:dq->Mem->Prop,(∀δ' M',N δ' M'->∃m',m' < m/\W m' δ' M')/\tb {E with nx:=N,ct:=N,bk:=E.nx} δ M1 else E.nx δ M1
section
variable {X:Cx}{c:Expr}{tc:eJ}{tb:jU}{body:List Stmt}{pos:Pos}
theorem AY(hp:PassesOwn (model X.prog X.w) X.A X.env X.xe)(hc:QT X c tc)(hb:DD X body tb):QS X (.While c body [] pos) (uT tc tb):=ke (Bf hp hc hb) λ E σ H ⟨δ,M,D2,hs,hm,q,k⟩=>by
 obtain⟨W,⟨m0,w0⟩,turn⟩:=q
 refine⟨λ m σ' H'=>∃δ' M',cC X.K H' δ' σ'/\RelM X.K H' M'/\av H H'/\W m δ' M',⟨m0,δ,M,hs,hm,av.refl _,w0⟩,?_⟩
 rintro m σ' H' ⟨δ',M',vK,gf,t',w'⟩
 refine⟨δ',M',_,vK,gf,turn m δ' M' w',λ b H1 M1 bR t1 q1=>?_⟩
 cases b with
 |false=>
  simp only[p6,H9]at q1
  exact k.nx σ' H1 δ' M1 (vK.mono t1) bR (t'.trans t1) q1
 |true=>
  simp only[if_true]at q1
  obtain⟨N,hN,q1⟩:=q1
  refine⟨λ σ2 H2=>∃δ2 M2,cC X.K H2 δ2 σ2/\RelM X.K H2 M2/\av H H2/\N δ2 M2,λ σ2 H2 ⟨δ2,M2,a,b,c,n2⟩=>?_,?_⟩
  ·obtain⟨m',gf,w2⟩:=hN δ2 M2 n2
   exact⟨m',gf,δ2,M2,a,b,c,w2⟩
  ·refine⟨δ',M1,_,vK.mono t1,bR,q1,⟨?_,?_,?_,?_⟩⟩
   ·exact λ σ4 H4 δ4 M4 a b c w4=>⟨δ4,M4,a,b,t'.trans (t1.trans c),w4⟩
   ·exact k.rt.mono (t'.trans t1)
   ·exact k.nx.mono (t'.trans t1)
   ·exact λ σ4 H4 δ4 M4 a b c w4=>⟨δ4,M4,a,b,t'.trans (t1.trans c),w4⟩
end
end L3
namespace L3
open PySem PySem.Spec L2
def ix(n:Nat)(fr:List Nat)(δ:dq):dq:=List.replicate n none++fr.map (λ j=>δ.getD j none)
theorem Hc{K:PySem.W.Frag}{H:Hp}{δ:dq}{σ:L2.St}(h:cC K H δ σ)(n:Nat)(fr:List Nat):cC K H (ix n fr δ) (eU n fr σ):=by
 refine⟨by simp[ix,eU],λ i d e=>?_⟩
 unfold ix at e
 by_cases hi:i < n
 ·rw[g9 (by simpa using hi),j4,J4 hi]at e
  cases e
 ·rw[e7 (by simpa using hi),l7,r9]at e
  cases ej:fr[i - n]? with
  |none=>rw[ej]at e;cases e
  |some j=>
   rw[ej]at e
   have e:δ.getD j none=some d:=A9 e
   have hj:j < δ.length:=by
    refine y0 λ z=>?_
    rw[e9,l8 z]at e
    cases e
   have e':δ[j]?=some (some d):=by
    rw[e9,i8 hj]at e
    rw[i8 hj]
    exact J1 some e
   obtain⟨v,hv,r⟩:=h.get j d e'
   refine⟨v,?_,r⟩
   unfold eU
   rw[e7 (by simpa using hi),l7,r9,ej]
   simp[e9,hv]
def fL(wi:lh)(g:fX)(tt:eJ)(te:bV)(n:Nat)(fr:List Nat):dq->Mem->(List D->Mem->Prop)->Prop:=λ δ M Q=>wi δ M λ src M1=>∃(B:Nat) (W:Nat->List D->Mem->Prop),W 0 [] M1/\∀i acc M,W i acc M->i<=B/\acc.length<=sizeLine/\match items src M with
 |none=>False
 |some ds=>match ds[i]? with
  |none=>i=ds.length/\Q acc M
  |some d=>g d (ix n fr δ) M λ δ2 M2=>tt δ2 M2 λ b M3=>if b=true then te δ2 M3 λ y M4=>W (i+1) (acc++[y]) M4 else W (i+1) acc M3
theorem fu{K:PySem.W.Frag}{wi:lh}{g:fX}{tt:eJ}{te:bV}{n:Nat}{fr:List Nat}{Qe:List D->Mem->Prop}{σ:L2.St}{δ:dq}{H:Hp}{M:Mem}{Q:V->Hp->Prop}{gv:TG}(V8:∀v σ H Q,ID K g v σ H Q->gv v σ H Q)(hs:cC K H δ σ)(hm:RelM K H M)(q:fL wi g tt te n fr δ M Qe)
  (k:∀acc xs H' M' p,aD K H' acc xs->RelM K H' M'->av H H'->acc.length<=sizeLine->H' p=none->Qe acc M'->Q (.ref p) (upd H' p (.lst xs))):mq (Mv K wi) gv (wy K tt) (up K te) n fr σ H Q:=by
 refine⟨δ,M,_,hs,hm,q,λ J H1 src M1 ok bR t1 q1=>?_⟩
 obtain⟨B,W,w0,turn⟩:=q1
 refine⟨λ i m xs H'=>m=B+1 - i/\∃acc M',aD K H' acc xs/\RelM K H' M'/\av H1 H'/\W i acc M',⟨B+1,rfl,[],M1,by rw[ao],bR,av.refl _,w0⟩,?_⟩
 rintro i m xs H' ⟨rfl,acc,M',jf,gf,t',w'⟩
 obtain⟨hB,hz,h⟩:=turn i acc M' w'
 refine⟨by rw[jf.length];exact hz,?_⟩
 cases ei:items src M' with
 |none=>rw[ei]at h;exact h.elim
 |some ds=>
  rw[ei]at h
  obtain⟨go,stop,DG⟩:=ok H' M' ds t' gf ei
  cases ed:ds[i]? with
  |none=>
   simp only[ed]at h
   exact .inl ⟨stop i h.1,λ p hp=>k acc xs H' M' p jf gf (t1.trans t') hz hp h.2⟩
  |some d=>
   simp only[ed]at h
   have OY:i < ds.length:=(i5.mp ed).1
   refine .inr ⟨go i OY,λ ys H2=>∃Hg M2,aD K H2 Hg ys/\RelM K H2 M2/\av H1 H2/\W (i+1) Hg M2,λ ys H2 ⟨Hg,M2,a,b,c,w2⟩=>⟨B+1 - (i+1),by omega,rfl,Hg,M2,a,b,c,w2⟩,λ x H2 y=>?_⟩
   obtain⟨t2,ux,d',e',HS⟩:=DG i x H2 OY y
   rw[ed]at e'
   cases e'
   refine V8 _ _ _ _ ⟨d,ix n fr δ,M',_,HS,Hc (hs.mono (t1.trans (t'.trans t2))) n fr,ux,h,λ σ3 H3 δ3 M3 Q6 Cy t3 q3=>?_⟩
   refine⟨δ3,M3,_,Q6,Cy,q3,λ b H4 M4 Q8 t4 q4=>?_⟩
   cases b with
   |false=>
    rw[J5 o9]at q4 ⊢
    exact⟨acc,M4,aD.mono (t2.trans (t3.trans t4)) acc jf,Q8,t'.trans (t2.trans (t3.trans t4)),q4⟩
   |true=>
    rw[J4 rfl]at q4 ⊢
    exact⟨δ3,M4,_,Q6.mono t4,Q8,q4,λ yv H5 y5 M5 Vw VZ t5 q5=>⟨acc++[y5],M5,(aD.mono (t2.trans (t3.trans (t4.trans t5))) acc jf).append (aD.one Vw),VZ,t'.trans (t2.trans (t3.trans (t4.trans t5))),q5⟩⟩
section
variable {X:Cx}{scope:Scope}{tgs:List Str}{fr:List Nat}{tg elt iter:Expr}{ifs:List Expr}{pos:Pos}{wi:lh}{g:fX}{tt:eJ}{te:bV}
abbrev Rt(X:Cx)(ifs:List Expr)(t:eJ):Prop:=MV X ifs (wy X.K t)
def pC:eJ:=λ _ M Q=>Q true M
theorem EW:Rt X [] pC:=λ pins s σ H Q I h=>Fs pins s σ H Q I (by
 obtain⟨δ,M,Q2,hs,hm,q,k⟩:=h
 exact k _ _ _ hm (av.refl H) q)
theorem EV{c:Expr}{t:eJ}(h:QT X c t):Rt X [c] t:=Fq h
def Rr(X:Cx)(scope:Scope)(tgs:List Str)(fr:List Nat)(tg:Expr)(g2:fX):Prop:=
 ∃g:TG,(∀cl C fp s H,PG (bF X scope cl tgs fr C fp s H) tg g)/\iA tgs.length g/\∀v σ H Q,ID X.K g2 v σ H Q->g v σ H Q
theorem DP{i:Nat}{x:Str}{ps:Pos}(h:∀cl C fp s H,PG (bF X scope cl tgs fr C fp s H) (.Name x ps) (eD i))(hi:i < tgs.length):Rr X scope tgs fr (.Name x ps) (hName i):=⟨_,h,qo hi,jH⟩
def Dv(g:TG):Prop:=∀x σ H Q Q',(∀σ' H',Q σ' H'->Q' σ' H')->g x σ H Q->g x σ H Q'
def qL(g:xY):Prop:=∀xs σ H Q Q',(∀σ' H',Q σ' H'->Q' σ' H')->g xs σ H Q->g xs σ H Q'
theorem qm{i:Nat}:Dv (eD i):=λ x σ H Q Q' k q=>k _ _ q
theorem CH:qL zh:=λ xs σ H Q Q' k q=>⟨q.1,k _ _ q.2⟩
theorem GK{t:TG}{u:xY}(ht:Dv t)(hu:qL u):qL (jh t u):=λ xs σ H Q Q' k ⟨v,r,e,q⟩=>⟨v,r,e,ht v σ H _ _ (λ σ' H' q'=>hu r σ' H' _ _ k q') q⟩
theorem xA{n:Nat}{t:TG}{u:xY}(h:iA n t)(k:lV n u)(ht:Dv t)(hu:qL u):lV n (jh t u):=λ xs σ H Q ⟨v,r,e,q⟩=>by
 refine⟨v,r,e,ht v σ H _ _ (λ σ' H' ⟨q',l',k'⟩=>?_) (h v σ H _ q)⟩
 refine hu r σ' H' _ _ (λ σ2 H2 ⟨q2,l2,k2⟩=>⟨q2,l2.trans l',λ j hj=>(k2 j hj).trans (k' j hj)⟩) (k r σ' H' _ q')
theorem LL{K:PySem.W.Frag}{m n:Nat}{t:xY}(h:lV m t):iA m (CI K n t):=λ x σ H Q ⟨a,xs,e,hq,hl,q⟩=>⟨a,xs,e,hq,hl,h xs σ H _ q⟩
theorem yp{K:PySem.W.Frag}{i j:Nat}:∀v σ H Q,ID K (vN 2 (fm (hName i) (fm (hName j) vO))) v σ H Q->CI K 2 (jh (eD i) (jh (eD j) zh)) v σ H Q:=λ v σ H Q ⟨d,δ,M,Q2,hd,hs,hm,q,k⟩=>by
 cases d with
 |tup ds=>
  obtain⟨p,xs,rfl,hq,hx⟩:=aM.mp hd
  obtain⟨hl,q⟩:=q
  match ds,hl,hx,q with
  |[a,b],hl,hx,q=>
   obtain⟨x,r,rfl,ha,hx⟩:=ai.mp hx
   obtain⟨y,r,rfl,hb,hx⟩:=ai.mp hx
   cases(ao.mp hx)
   exact⟨p,[x,y],rfl,hq,rfl,x,[y],rfl,y,[],rfl,rfl,k _ H _ M ((hs.set ha).set hb) hm (av.refl H) q⟩
 |_=>exact q.elim
theorem DO{i j k:Nat}{x y:Str}{px py pt:Pos}(h:∀cl C fp s H,PG (bF X scope cl tgs fr C fp s H) (.Tuple [.Name x px,.Name y py] k pt) (CI X.K 2 (jh (eD i) (jh (eD j) zh))))(hi:i < tgs.length)(hj:j < tgs.length):
  Rr X scope tgs fr (.Tuple [.Name x px,.Name y py] k pt) (vN 2 (fm (hName i) (fm (hName j) vO))):=
 ⟨_,h,LL (xA (qo hi) (xA (qo hj) LM qm CH) qm (GK qm CH)),yp⟩
def iC(X:Cx)(scope:Scope)(tgs:List Str)(fr:List Nat)(tg iter:Expr)(ifs:List Expr)(elt:Expr)(wi:lh)(g:fX)(tt:eJ)(te:bV):Prop:=
 kH X scope fr/\X.calm=true/\(∀e s,X.xe e s->False)/\QI X tg iter wi/\Rr X scope tgs fr tg g/\(∀cl C fp s H,Rt (bF X scope cl tgs fr C fp s H) ifs tt)/\(∀cl C fp s H,QE (bF X scope cl tgs fr C fp s H) elt te)
def rK(wi:lh)(g:fX)(tt:eJ)(te:bV)(n:Nat)(fr:List Nat):bV:=λ δ M Q=>fL wi g tt te n fr δ M λ ds M'=>∀p,M' p=none->Q (.ref p) (ak M' p (.lst ds))
theorem J9(C:iC X scope tgs fr tg iter ifs elt wi g tt te)(hs:∀x,foldedSetIterable iter X.env x=pure x:=by intro _;rfl):QE X (.ListComp elt [⟨tg,iter,ifs,0⟩] scope pos) (rK wi g tt te tgs.length fr):=by
 obtain⟨B,hc,hE,hi,⟨gv,hg,gk,gl⟩,ht,he⟩:=C
 refine bO (iU (tt:=wy X.K tt) (te:=up X.K te) B hc hE hi hg gk ht he hs) ?_
 rintro σ H Q ⟨δ,M,Q2,hs,hm,q,k⟩
 exact fu gl hs hm q λ acc xs H' M' p hd gf t' hz hp q'=>k _ _ (.ref p) _ (aB.mpr rfl) (cZ hp hd gf) (t'.trans (av.laid hp)) (q' p (gf.free hp))
theorem vc{i:Nat}{y:Str}{py rA:Pos}(hN:X.N.Nodup)(hiy:X.N[i]?=some y)(hy:Loc X.env.scope y)(C:iC X scope tgs fr tg iter ifs elt wi g tt te)
  (hsw:swapsWith (.ListComp elt [⟨tg,iter,ifs,0⟩] scope pos) (some (.Name y py)) rA.line X.env=pure true:=by rfl)
  (hf:X.fn y=true\/X.env.scope.names.lookup y=some .local:=by first|exact .inl rfl|exact .inr rfl|assumption)
  (hs:∀x,foldedSetIterable iter X.env x=pure x:=by intro _;rfl):QS X (.Assign [.Name y py] (.ListComp elt [⟨tg,iter,ifs,0⟩] scope pos) rA) (rL (rK wi g tt te tgs.length fr) (hName i)):=by
 obtain⟨B,hc,hE,hi,⟨gv,hg,gk,gl⟩,ht,he⟩:=C
 refine ke (ve (tt:=wy X.K tt) (te:=up X.K te) hN hiy hy B hc hE hi hg gk ht he hsw hf hs) ?_
 rintro E σ H ⟨δ,M,D2,hs,hm,q,k⟩
 exact fu gl hs hm q λ acc xs H' M' p hd gf t' hz hp q'=>k.nx _ _ _ _ (((hs.mono t').mono (av.laid hp)).set (aB.mpr rfl)) (cZ hp hd gf) (t'.trans (av.laid hp)) (q' p (gf.free hp))
def yx(r3:List D->Mem->bD->Prop)(wi:lh)(g:fX)(tt:eJ)(te:bV)(n:Nat)(fr:List Nat):bV:=λ δ M Q=>fL wi g tt te n fr δ M λ ds M'=>r3 ds M' Q
def kB(r2:List D->Mem->bD->Prop)(r3:List D->Mem->bD->Prop):Prop:=∀ds M p Q,M p=none->ds.length<=sizeLine->r3 ds M Q->r2 [.ref p] (ak M p (.lst ds)) (fin2 Q)
theorem tu{K:PySem.W.Frag}{H:Hp}{Q2:bD}{Q:VK}(k:iB K H Q2 Q):iB K H (fin2 Q2) Q:=λ v H' d M' hd hm t ⟨Ir,s,q⟩=>k v H' d Ir hd (hm.sub s) t q
variable {x:Str}{p:Pos}{id T:String}{bJ:Pos}
theorem rm{r:List V->Hp->VK->Prop}{r2 r3:List D->Mem->bD->Prop}{gv:TG}(gl:∀v σ H Q,ID X.K g v σ H Q->gv v σ H Q)(hr:Mq X.K r r2)(h3:kB r2 r3):∀σ H Q,up X.K (yx r3 wi g tt te tgs.length fr) σ H Q->Qb r (zW (mq (Mv X.K wi) gv (wy X.K tt) (up X.K te) tgs.length fr) IM) σ H Q:=by
 rintro σ H Q ⟨δ,M,Q2,hs,hm,q,k⟩
 show mq (Mv X.K wi) gv (wy X.K tt) (up X.K te) tgs.length fr σ H (λ x H1=>r [x] H1 Q)
 refine fu gl hs hm q λ acc xs H' M' p hd gf t' hz hp q'=>?_
 exact hr [.ref p] [.ref p] _ _ (fin2 Q2) Q (aD.one (aB.mpr rfl)) (cZ hp hd gf) (h3 acc M' p Q2 (gf.free hp) hz q') (tu (k.mono (t'.trans (av.laid hp))))
theorem JZ{r2 r3:List D->Mem->bD->Prop}(o:cU X (.builtin id) r2)(h3:kB r2 r3)(hg:Gl X x)(hm:X.mg x=none)(hv:bootBuiltins x=some (.builtin id))(C:iC X scope tgs fr tg iter ifs elt wi g tt te)(hn:x≠"__name__":=by decide)(hdb:(x==("__debug__":Str))=false:=by decide)
  (hs:∀x,foldedSetIterable iter X.env x=pure x:=by intro _;rfl):QE X (.Call (.Name x p) [.ListComp elt [⟨tg,iter,ifs,0⟩] scope bJ] [] pos) (yx r3 wi g tt te tgs.length fr):=by
 obtain⟨B,hc,hE,hi,⟨gv,CD,gk,gl⟩,ht,he⟩:=C
 obtain⟨r,ho,hr⟩:=o
 exact bO (rV ho hg hm hv (fN (iU (tt:=wy X.K tt) (te:=up X.K te) B hc hE hi CD gk ht he hs) ip) hn hdb) (rm gl hr h3)
theorem JX{r2 r3:List D->Mem->bD->Prop}(o:cU X (.type T) r2)(h3:kB r2 r3)(hg:Gl X x)(hm:X.mg x=none)(hv:bootBuiltins x=some (.type T))(C:iC X scope tgs fr tg iter ifs elt wi g tt te)(hn:x≠"__name__":=by decide)(hdb:(x==("__debug__":Str))=false:=by decide)
  (hs:∀x,foldedSetIterable iter X.env x=pure x:=by intro _;rfl):QE X (.Call (.Name x p) [.ListComp elt [⟨tg,iter,ifs,0⟩] scope bJ] [] pos) (yx r3 wi g tt te tgs.length fr):=by
 obtain⟨B,hc,hE,hi,⟨gv,CD,gk,gl⟩,ht,he⟩:=C
 obtain⟨r,ho,hr⟩:=o
 exact bO (oA ho hg hm hv (fN (iU (tt:=wy X.K tt) (te:=up X.K te) B hc hE hi CD gk ht he hs) ip) hn hdb) (rm gl hr h3)
variable {o:Expr}{to:bV}{name:Str}{apos:Pos}
def Am(T:String)(r3:D->List D->Mem->bD->Prop)(to:bV)(wi:lh)(g:fX)(tt:eJ)(te:bV)(n:Nat)(fr:List Nat):bV:=λ δ M Q=>to δ M λ d M1=>Hn T d M1/\fL wi g tt te n fr δ M1 λ ds M'=>r3 d ds M' Q
def we(r2:D->List D->Mem->bD->Prop)(r3:D->List D->Mem->bD->Prop):Prop:=∀d ds M p Q,M p=none->ds.length<=sizeLine->r3 d ds M Q->r2 d [.ref p] (ak M p (.lst ds)) (fin2 Q)
theorem JY{r2 r3:D->List D->Mem->bD->Prop}(pa:PlainAttrs T)(slot:Slot T name id)(hty:typeOf (.builtin id)=pure (.type "method_descriptor"))(hm:zI X id r2)(h3:we r2 r3)(ho:QE X o to)(C:iC X scope tgs fr tg iter ifs elt wi g tt te)
  (hs:∀x,foldedSetIterable iter X.env x=pure x:=by intro _;rfl)
  (hbase:attributeBase o name X.env (eval o X.env)=eval o X.env:=by rfl)
  (hfew:((backTo pos (starEach [.ListComp elt [⟨tg,iter,ifs,0⟩] scope bJ] X.env)).all (λ x=>!x.1)&&(backToKw pos (keywordEach [] X.env)).all (λ x=>x.1.isSome)
   &&decide (([.ListComp elt [⟨tg,iter,ifs,0⟩] scope bJ]:List Expr).length+([]:List Keyword).length+(if([]:List Keyword).isEmpty then 0 else 1) < 30))=true:=by rfl)
  (hline:(apos.endLine==pos.line)=true:=by rfl):
  QE X (.Call (.Attribute o name apos) [.ListComp elt [⟨tg,iter,ifs,0⟩] scope bJ] [] pos) (Am T r3 to wi g tt te tgs.length fr):=by
 obtain⟨B,hc,hE,hi,⟨gv,CD,gk,gl⟩,ht,he⟩:=C
 obtain⟨r,h1,hr⟩:=hm
 refine bO (HH pa slot hty h1 ho (fN (iU (tt:=wy X.K tt) (te:=up X.K te) B hc hE hi CD gk ht he hs) ip) hbase hfew hline) ?_
 rintro σ H Q ⟨δ,M,Q2,hs,hm,q,k⟩
 refine⟨δ,M,_,hs,hm,q,λ x H1 d M1 hd bR t1 q1=>⟨q1.1.v hd bR,?_⟩⟩
 show mq (Mv X.K wi) gv (wy X.K tt) (up X.K te) tgs.length fr σ H1 (λ y H2=>r x [y] H2 Q)
 refine fu gl (hs.mono t1) bR q1.2 λ acc xs H' M' p s_ gf t' hz hp q'=>?_
 exact hr x [.ref p] d [.ref p] _ _ (fin2 Q2) Q (Dat.mono (t'.trans (av.laid hp)) d hd) (aD.one (aB.mpr rfl)) (cZ hp s_ gf) (h3 d acc M' p Q2 (gf.free hp) hz q') (tu (k.mono (t1.trans (t'.trans (av.laid hp)))))
end
end L3
namespace L3
open PySem PySem.Spec L2
section
variable {X:Cx}
def dI(C:Int->Int->Prop)(g:Int->Int->D):fA:=λ x y M Q=>match x,y with
 | .int i,.int j=>C i j/\Q (g i j) M
 |_,_=>False
def L_(g:Int->Int->D):fA:=λ x y M Q=>match x,y with
 | .int i,.int j=>Q (g i j) M
 |_,_=>False
theorem si{f:Value->Value->Sem Value}{C:Int->Int->Prop}{g:Int->Int->Int}(h:fb X f (rI C λ i j=>.int (g i j))):fB X f (dI C λ i j=>.int (g i j)):=⟨_,h,λ x y d e H M Q2 Q hd he hm q k=>by
 cases d <;> cases e <;> first
  |exact q.elim
  |(cases(ax.mp hd);cases(ax.mp he);exact⟨_,_,rfl,rfl,q.1,k _ H _ M (ax.mpr rfl) hm (av.refl H) q.2⟩)⟩
theorem Vi{f:Value->Value->Sem Value}{g:Int->Int->Int}(h:fb X f (Dz λ i j=>.int (g i j))):fB X f (L_ λ i j=>.int (g i j)):=⟨_,h,λ x y d e H M Q2 Q hd he hm q k=>by
 cases d <;> cases e <;> first
  |exact q.elim
  |(cases(ax.mp hd);cases(ax.mp he);exact⟨_,_,rfl,rfl,k _ H _ M (ax.mpr rfl) hm (av.refl H) q⟩)⟩
theorem RR{f:Value->Value->Sem Value}{g:Int->Int->Bool}(h:fb X f (Dz λ i j=>.bl (g i j))):fB X f (L_ λ i j=>.bl (g i j)):=⟨_,h,λ x y d e H M Q2 Q hd he hm q k=>by
 cases d <;> cases e <;> first
  |exact q.elim
  |(cases(ax.mp hd);cases(ax.mp he);exact⟨_,_,rfl,rfl,k _ H _ M (aN.mpr rfl) hm (av.refl H) q⟩)⟩
theorem oB:fB X (binaryOp .Sub) (L_ λ i j=>.int (i - j)):=Vi Kv
theorem kf:fB X (binaryOp .Mod) (dI (λ _ j=>0 < j) λ i j=>.int (i % j)):=si KD
theorem pP:fB X (binaryOp .FloorDiv) (dI Mu λ i j=>.int (i / j)):=si FD
theorem Ol:fB X (binaryOp .Pow) (dI PZ λ i j=>.int (i^j.toNat)):=si Kx
theorem KZ:fB X (compareOp .Lt) (L_ λ i j=>.bl (decide (i < j))):=RR Oe
theorem rZ:fB X (compareOp .Gt) (L_ λ i j=>.bl (decide (j < i))):=RR Og
theorem Sv:fB X (compareOp .GtE) (L_ λ i j=>.bl (decide (j<=i))):=RR Oh
def G_:fA:=λ x y M Q=>match x,y with
 | .int i,.int j=>Q (.int (i+j)) M
 | .str i,.str j=>i.length+j.length<=sizeLine/\Q (.str (i++j)) M
 | .tup xs,.tup ys=>xs≠[]/\xs.length+ys.length<=sizeLine/\Q (.tup (xs++ys)) M
 | .ref a,.ref b=>match M a,M b with
  |some (.lst xs),some (.lst ys)=>xs.length+ys.length<=sizeLine/\∀p,M p=none->Q (.ref p) (ak M p (.lst (xs++ys)))
  |_,_=>False
 |_,_=>False
theorem Oq:fB X (binaryOp .Add) G_:=⟨_,KL.or (vn.or (KJ.or FE)),λ x y d e H M Q2 Q hd he hm q k=>by
 cases d with
 |int i=>
  cases e with
  |int j=>cases(ax.mp hd);cases(ax.mp he);exact .inl ⟨_,_,rfl,rfl,k _ H _ M (ax.mpr rfl) hm (av.refl H) q⟩
  |_=>exact q.elim
 |str i=>
  cases e with
  |str j=>cases(aL.mp hd);cases(aL.mp he);exact .inr (.inl ⟨_,_,rfl,rfl,q.1,k _ H _ M (aL.mpr rfl) hm (av.refl H) q.2⟩)
  |_=>exact q.elim
 |tup xs=>
  cases e with
  |tup ys=>
   obtain⟨p,vs,rfl,hp,hx⟩:=aM.mp hd
   obtain⟨p2,ws,rfl,gT,hy⟩:=aM.mp he
   obtain⟨f_,hlen,q⟩:=q
   refine .inr (.inr (.inr ⟨p,p2,vs,ws,rfl,rfl,hp,gT,?_,by rw[hx.length,hy.length];exact hlen,?_⟩))
   ·intro z
    have:=hx.length
    rw[z]at this
    exact f_ (j6.mp this.symm)
   ·refine⟨λ hz=>?_,λ hz p3 HV=>?_⟩
    ·have Vx:ys=[]:=by
      have:=hy.length
      rw[hz]at this
      exact j6.mp this.symm
     subst Vx
     rw[A3]at q
     exact k _ H _ M (aM.mpr ⟨p,vs,rfl,hp,hx⟩) hm (av.refl H) q
    ·exact k _ _ _ M (fI HV (hx.append hy)) (hm.laid HV) (av.laid HV) q
  |_=>exact q.elim
 |ref a=>
  cases e with
  |ref b=>
   cases(aB.mp hd);cases(aB.mp he)
   have q:(match M a,M b with|some (.lst xs),some (.lst ys)=>xs.length+ys.length<=sizeLine/\∀p,M p=none->Q2 (.ref p) (ak M p (.lst (xs++ys)))|_,_=>False):=q
   cases ea:M a with
   |none=>rw[ea]at q;exact q.elim
   |some oa=>
    cases eb:M b with
    |none=>rw[ea,eb]at q;cases oa <;> exact q.elim
    |some ob=>
     cases oa with
     |dr b kvs=>rw[ea,eb]at q;exact q.elim
     |lst xs=>
      cases ob with
      |dr b kvs=>rw[ea,eb]at q;exact q.elim
      |lst ys=>
       rw[ea,eb]at q
       obtain⟨vs,Ut,CN⟩:=hm a _ ea
       obtain⟨ws,Vz,UY⟩:=hm b _ eb
       refine .inr (.inr (.inl ⟨a,b,vs,ws,rfl,rfl,Ut,Vz,by rw[CN.length,UY.length];exact q.1,λ p hp=>?_⟩))
       exact k _ _ (.ref p) _ (aB.mpr rfl) (cZ hp (CN.append UY) hm) (av.laid hp) (q.2 p (hm.free hp))
  |_=>exact q.elim
 |_=>exact q.elim⟩
def GZ:fA:=λ x y M Q=>match x,y with
 | .int i,.int j=>qN i j/\Q (.int (i*j)) M
 | .str z,.int n=>MulOk z n/\Q (.str (Txt.mul z n)) M
 |_,_=>False
theorem Oo:fB X (binaryOp .Mult) GZ:=⟨_,KC.or vm,λ x y d e H M Q2 Q hd he hm q k=>by
 cases d <;> cases e <;> first
  |exact q.elim
  |(cases(ax.mp hd);cases(ax.mp he);exact .inl ⟨_,_,rfl,rfl,q.1,k _ H _ M (ax.mpr rfl) hm (av.refl H) q.2⟩)
  |(cases(aL.mp hd);cases(ax.mp he);exact .inr ⟨_,_,rfl,rfl,q.1,k _ H _ M (aL.mpr rfl) hm (av.refl H) q.2⟩)⟩
def U0:fA:=λ x y M Q=>match x,y with
 | .int i,.int j=>Q (.bl (decide (i<=j))) M
 | .str i,.str j=>Q (.bl (!decide (j.cps.toList < i.cps.toList))) M
 |_,_=>False
theorem Ss:fB X (compareOp .LtE) U0:=⟨_,Of.or yI,λ x y d e H M Q2 Q hd he hm q k=>by
 cases d <;> cases e <;> first
  |exact q.elim
  |(cases(ax.mp hd);cases(ax.mp he);exact .inl ⟨_,_,rfl,rfl,k _ H _ M (aN.mpr rfl) hm (av.refl H) q⟩)
  |(cases(aL.mp hd);cases(aL.mp he);exact .inr ⟨_,_,rfl,rfl,k _ H _ M (aN.mpr rfl) hm (av.refl H) q⟩)⟩
def ng:D->Option V
 | .bj=>some .bj
 | .bl b=>some (.bl b)
 | .int i=>some (.int i)
 | .str x=>some (.str x)
 |_=>none
theorem oQ{K:PySem.W.Frag}{H:Hp}{d:D}{x v:V}(e:ng d=some v)(h:Dat K H d x):x=v:=by
 cases d with
 |bj=>cases e;exact dj.mp h
 |bl b=>cases e;exact aN.mp h
 |int i=>cases e;exact ax.mp h
 |str z=>cases e;exact aL.mp h
 |ty n=>exact absurd e (by intro z;cases z)
 |ref a=>exact absurd e (by intro z;cases z)
 |tup xs=>exact absurd e (by intro z;cases z)
 |fl xs=>exact absurd e (by intro z;cases z)
theorem nc{d:D}{v:V}(e:ng d=some v):fV v=true:=by
 cases d with
 |bj=>cases e;rfl
 |bl b=>cases e;rfl
 |int i=>cases e;rfl
 |str z=>cases e;rfl
 |ty n=>exact absurd e (by intro z;cases z)
 |ref a=>exact absurd e (by intro z;cases z)
 |tup xs=>exact absurd e (by intro z;cases z)
 |fl xs=>exact absurd e (by intro z;cases z)
def Ma(neg:Bool):fA:=λ x y M Q=>match x,y with
 | .int i,.int j=>Q (.bl (xor neg (decide (i=j)))) M
 | .bl i,.bl j=>Q (.bl (xor neg (decide (i=j)))) M
 | .str i,.str j=>Q (.bl (xor neg (decide (i=j)))) M
 |_,_=>False
theorem Sw:fB X (compareOp .Eq) (Ma false):=⟨_,Oi,λ x y d e H M Q2 Q hd he hm q k=>by
 cases d <;> cases e <;> first
  |exact q.elim
  |(cases(ax.mp hd);cases(ax.mp he);refine⟨rfl,k _ H _ M (aN.mpr rfl) hm (av.refl H) ?_⟩;have q:Q2 (.bl (xor false (decide (_=_)))) M:=q;simpa using q)
  |(cases(aN.mp hd);cases(aN.mp he);refine⟨rfl,k _ H _ M (aN.mpr rfl) hm (av.refl H) ?_⟩;have q:Q2 (.bl (xor false (decide (_=_)))) M:=q;simpa using q)
  |(cases(aL.mp hd);cases(aL.mp he);refine⟨rfl,k _ H _ M (aN.mpr rfl) hm (av.refl H) ?_⟩;have q:Q2 (.bl (xor false (decide (_=_)))) M:=q;simpa using q)⟩
theorem Sr:fB X (compareOp .NotEq) (Ma true):=⟨_,Od,λ x y d e H M Q2 Q hd he hm q k=>by
 cases d <;> cases e <;> first
  |exact q.elim
  |(cases(ax.mp hd);cases(ax.mp he);refine⟨rfl,k _ H _ M (aN.mpr rfl) hm (av.refl H) ?_⟩;have q:Q2 (.bl (xor true (decide (_=_)))) M:=q;simpa using q)
  |(cases(aN.mp hd);cases(aN.mp he);refine⟨rfl,k _ H _ M (aN.mpr rfl) hm (av.refl H) ?_⟩;have q:Q2 (.bl (xor true (decide (_=_)))) M:=q;simpa using q)
  |(cases(aL.mp hd);cases(aL.mp he);refine⟨rfl,k _ H _ M (aN.mpr rfl) hm (av.refl H) ?_⟩;have q:Q2 (.bl (xor true (decide (_=_)))) M:=q;simpa using q)⟩
def L7(neg:Bool):fA:=λ x y M Q=>match y with
 | .bj=>match x with
  | .bj=>Q (.bl (!neg)) M
  |_=>Q (.bl neg) M
 |_=>False
theorem CT{K:PySem.W.Frag}{H:Hp}{d:D}{x:V}(h:Dat K H d x):decide (x=.bj)=match d with| .bj=>true|_=>false:=by
 cases d with
 |bj=>cases(dj.mp h);rfl
 |bl b=>cases(aN.mp h);rfl
 |int b=>cases(ax.mp h);rfl
 |str b=>cases(aL.mp h);rfl
 |ty b=>cases(vT.mp h);rfl
 |ref b=>cases(aB.mp h);rfl
 |tup b=>obtain⟨p,xs,rfl,_⟩:=aM.mp h;rfl
 |fl b=>obtain⟨p,xs,rfl,_⟩:=iw.mp h;rfl
theorem Bz:fB X (compareOp .Is) (L7 false):=⟨_,KG,λ x y d e H M Q2 Q hd he hm q k=>by
 cases e with
 |bj=>
  refine⟨dj.mp he,?_⟩
  rw[CT hd]
  refine k _ H _ M (aN.mpr rfl) hm (av.refl H) ?_
  cases d <;> exact q
 |_=>exact q.elim⟩
def Pp:D->Mem->bD->Prop:=λ x M Q=>match x with
 | .int i=>Q (.int (-i)) M
 |_=>False
theorem Na:T6 X (unaryOp .USub) Pp:=⟨_,IE,λ x d H M Q2 Q hd hm q k=>by
 cases d with
 |int i=>exact⟨i,ax.mp hd,k _ H _ M (ax.mpr rfl) hm (av.refl H) q⟩
 |_=>exact q.elim⟩
def kr:List D->Option (List V)
 |[]=>some []
 |d::r=>match ng d,kr r with
  |some v,some vs=>some (v::vs)
  |_,_=>none
theorem m_{K:PySem.W.Frag}{H:Hp}:∀{ds:List D} {xs vs:List V},kr ds=some vs->aD K H ds xs->xs=vs/\vs.all fV=true
 |[],xs,vs,e,h=>by cases e;exact⟨ao.mp h,rfl⟩
 |d::r,xs,vs,e,h=>by
  obtain⟨x,ys,rfl,hx,hy⟩:=ai.mp h
  unfold kr at e
  cases e1:ng d with
  |none=>rw[e1]at e;cases e
  |some v=>
   cases e2:kr r with
   |none=>rw[e1,e2]at e;cases e
   |some ws=>
    rw[e1,e2]at e
    cases e
    obtain⟨h1,h2⟩:=m_ e2 hy
    exact⟨by rw[oQ e1 hx,h1],by rw[all_cons,nc e1,h2];rfl⟩
def inD(x:D)(ds:List D):Option Bool:=match ng x,kr ds with
 |some v,some vs=>some (HP v vs)
 |_,_=>none
def Rj:fA:=λ x y M Q=>match y with
 | .str j=>match x with
  | .str i=>Q (.bl (!(Builtin.Str.occurrences j i 0 j.length 1).isEmpty)) M
  |_=>False
 | .tup ds=>match inD x ds with
  |some b=>Q (.bl b) M
  |none=>False
 | .ref a=>match M a with
  |some (.lst ds)=>match inD x ds with
   |some b=>Q (.bl b) M
   |none=>False
  |_=>False
 |_=>False
theorem Cm{K:PySem.W.Frag}{H:Hp}{x:V}{xs:List V}{d:D}{ds:List D}{b:Bool}(e:inD d ds=some b)(hd:Dat K H d x)(hx:aD K H ds xs):fV x=true/\xs.all fV=true/\HP x xs=b:=by
 unfold inD at e
 cases e1:ng d with
 |none=>rw[e1]at e;cases e
 |some v=>
  cases e2:kr ds with
  |none=>rw[e1,e2]at e;cases e
  |some vs=>
   rw[e1,e2]at e
   have e:HP v vs=b:=A9 e
   obtain⟨rfl,h2⟩:=m_ e2 hx
   cases(oQ e1 hd)
   exact⟨nc e1,h2,e⟩
theorem Su:fB X (compareOp .In) Rj:=⟨_,yJ.or yK,λ x y d e H M Q2 Q hd he hm q k=>by
 cases e with
 |str j=>
  cases(aL.mp he)
  cases d with
  |str i=>cases(aL.mp hd);exact .inl ⟨_,_,rfl,rfl,k _ H _ M (aN.mpr rfl) hm (av.refl H) q⟩
  |_=>exact q.elim
 |tup ds=>
  obtain⟨p,xs,rfl,hp,hx⟩:=aM.mp he
  have q:(match inD d ds with|some b=>Q2 (.bl b) M|none=>False):=q
  cases ei:inD d ds with
  |none=>rw[ei]at q;exact q.elim
  |some b=>
   rw[ei]at q
   obtain⟨h1,h2,h3⟩:=Cm ei hd hx
   refine .inr ⟨p,xs,rfl,.inr hp,h1,h2,?_⟩
   simp only[p6,H9]
   rw[h3]
   exact k _ H _ M (aN.mpr rfl) hm (av.refl H) q
 |ref a=>
  cases(aB.mp he)
  have q:(match M a with|some (.lst ds)=>(match inD d ds with|some b=>Q2 (.bl b) M|none=>False)|_=>False):=q
  cases ea:M a with
  |none=>rw[ea]at q;exact q.elim
  |some o=>
   cases o with
   |dr b kvs=>rw[ea]at q;exact q.elim
   |lst ds=>
    rw[ea]at q
    obtain⟨xs,hx,dx⟩:=hm a _ ea
    cases ei:inD d ds with
    |none=>simp only[ei]at q
    |some b=>
     simp only[ei]at q
     obtain⟨h1,h2,h3⟩:=Cm ei hd dx
     refine .inr ⟨a,xs,rfl,.inl (du.of hx),h1,h2,?_⟩
     simp only[p6,H9]
     rw[h3]
     exact k _ H _ M (aN.mpr rfl) hm (av.refl H) q
 |_=>exact q.elim⟩
end
end L3
namespace L3
open PySem PySem.Spec L2
theorem Hf{K:PySem.W.Frag}{H:Hp}{ds:List D}{xs:List V}(h:aD K H ds xs){i:Int}{d:D}(e:gY ds i=some d):∃x,gY xs i=some x/\Dat K H d x:=by
 unfold gY at e ⊢
 rw[h.length]
 cases q:vH ds.length i with
 |none=>rw[q]at e;cases e
 |some j=>
  rw[q]at e
  obtain⟨x,h1,h2⟩:=h.get (i:=j) e
  exact⟨x,h1,h2⟩
section
variable {X:Cx}
def aW(M:Mem)(a:Addr):Option (List D):=match M a with
 |some (.lst ds)=>some ds
 |_=>none
theorem dC{K:PySem.W.Frag}{H:Hp}{M:Mem}{a:Addr}{ds:List D}(e:aW M a=some ds)(hm:RelM K H M):∃xs,H a=some (.lst xs)/\aD K H ds xs:=by
 unfold aW at e
 cases q:M a with
 |none=>rw[q]at e;cases e
 |some o=>
  cases o with
  |dr b kvs=>rw[q]at e;cases e
  |lst es=>
   rw[q]at e
   cases e
   exact hm a _ q
def cQ(M:Mem):D->Option (List D)
 | .tup ds=>some ds
 | .fl ds=>some ds
 | .ref a=>aW M a
 |_=>none
theorem gn{K:PySem.W.Frag}{H:Hp}{M:Mem}{d:D}{v:V}{ds:List D}(e:cQ M d=some ds)(hd:Dat K H d v)(hm:RelM K H M):∃p xs,v=.ref p/\(du K H p xs\/fz K H p xs)/\aD K H ds xs:=by
 cases d with
 |tup es=>
  cases e
  obtain⟨p,xs,rfl,h,q⟩:=aM.mp hd
  exact⟨p,xs,rfl,.inr h,q⟩
 |fl es=>
  cases e
  obtain⟨p,xs,rfl,h,q⟩:=iw.mp hd
  exact⟨p,xs,rfl,.inl h.sq,q⟩
 |ref a=>
  cases(aB.mp hd)
  obtain⟨xs,h,q⟩:=dC e hm
  exact⟨a,xs,rfl,.inl (du.of h),q⟩
 |_=>cases e
def L6:fA:=λ x y M Q=>match y with
 | .int i=>match x with
  | .str z=>z.length<=sizeLine/\(match gY z.cps.toList i with
   |some c=>Q (.str ⟨#[c]⟩) M
   |none=>False)
  |x=>match cQ M x with
   |some ds=>(match gY ds i with
    |some d=>Q d M
    |none=>False)
   |none=>False
 |_=>False
theorem pZ{x:V}{d:D}{i:Int}{H:Hp}{M:Mem}{Q2:bD}{Q:VK}{K:PySem.W.Frag}(hd:Dat K H d x)(hm:RelM K H M)(k:iB K H Q2 Q)
  (q:match cQ M d with|some ds=>(match gY ds i with|some d=>Q2 d M|none=>False)|none=>False):∃p xs v,x=.ref p/\(du K H p xs\/fz K H p xs)/\gY xs i=some v/\Q v H:=by
 cases e:cQ M d with
 |none=>rw[e]at q;exact q.elim
 |some ds=>
  rw[e]at q
  cases ei:gY ds i with
  |none=>simp only[ei]at q
  |some d'=>
   simp only[ei]at q
   obtain⟨p,xs,rfl,h,hx⟩:=gn e hd hm
   obtain⟨v,h1,h2⟩:=Hf hx ei
   exact⟨p,xs,v,rfl,h,h1,k v H d' M h2 hm (av.refl H) q⟩
theorem bo:PU X L6:=⟨_,L2.bo,λ x y d e H M Q2 Q hd he hm q k=>by
 cases e with
 |int i=>
  cases(ax.mp he)
  cases d with
  |str z=>
   cases(aL.mp hd)
   obtain⟨hz,q⟩:=q
   refine⟨hz,?_⟩
   cases ei:gY z.cps.toList i with
   |none=>rw[ei]at q;exact q.elim
   |some c=>rw[ei]at q;exact⟨c,rfl,k _ H _ M (aL.mpr rfl) hm (av.refl H) q⟩
  |tup ds=>
   obtain⟨p,xs,v,rfl,h⟩:=pZ (d:=.tup ds) (i:=i) hd hm k q
   exact⟨xs,v,h⟩
  |fl ds=>
   obtain⟨p,xs,v,rfl,h⟩:=pZ (d:=.fl ds) (i:=i) hd hm k q
   exact⟨xs,v,h⟩
  |ref a=>
   obtain⟨p,xs,v,rfl,h⟩:=pZ (d:=.ref a) (i:=i) hd hm k q
   exact⟨xs,v,h⟩
  |_=>exact q.elim
 |_=>exact q.elim⟩
def cutD(xs:List D)(lo hi:Option Int):List D:=(xs.drop (HT.bY xs.length 0 lo)).take (HT.bY xs.length xs.length hi - HT.bY xs.length 0 lo)
theorem tS{K:PySem.W.Frag}{H:Hp}{ds:List D}{xs:List V}(h:aD K H ds xs)(lo hi:Option Int):aD K H (cutD ds lo hi) (tT xs lo hi):=by
 unfold cutD tT
 rw[h.length]
 exact(h.drop _).take _
def UZ:D->Option Int->Option Int->Mem->bD->Prop:=λ x lo hi M Q=>match x with
 | .str z=>z.length<=sizeLine/\Q (.str (nT z lo hi)) M
 | .tup ds=>¬(HT.bY ds.length 0 lo=0/\HT.bY ds.length ds.length hi=ds.length)/\Q (.tup (cutD ds lo hi)) M
 | .ref a=>match aW M a with
  |some ds=>∀p,M p=none->Q (.ref p) (ak M p (.lst (cutD ds lo hi)))
  |none=>False
 |_=>False
theorem pB:PM X UZ:=⟨_,L2.pB,λ x d lo hi H M Q2 Q hd hm q k=>by
 cases d with
 |str z=>cases(aL.mp hd);exact⟨q.1,k _ H _ M (aL.mpr rfl) hm (av.refl H) q.2⟩
 |tup ds=>
  obtain⟨p,xs,rfl,h,hx⟩:=aM.mp hd
  refine .inr ⟨p,xs,rfl,h,by rw[hx.length];exact q.1,λ p2 gT=>?_⟩
  exact k _ _ _ M (fI gT (tS hx lo hi)) (hm.laid gT) (av.laid gT) q.2
 |ref a=>
  cases(aB.mp hd)
  have q:(match aW M a with|some ds=>∀p,M p=none->Q2 (.ref p) (ak M p (.lst (cutD ds lo hi)))|none=>False):=q
  cases e:aW M a with
  |none=>rw[e]at q;exact q.elim
  |some ds=>
   rw[e]at q
   obtain⟨xs,h,hx⟩:=dC e hm
   exact .inl ⟨a,xs,rfl,du.of h,λ p hp=>k _ _ (.ref p) _ (aB.mpr rfl) (cZ hp (tS hx lo hi) hm) (av.laid hp) (q p (hm.free hp))⟩
 |_=>exact q.elim⟩
def zo:List D->Mem->bD->Prop:=λ xs M Q=>match xs with
 |[.str z]=>z.length<=sizeLine/\Q (.int z.length) M
 |[x]=>match cQ M x with
  |some ds=>Q (.int ds.length) M
  |none=>False
 |_=>False
theorem gO:cU X (.builtin "len") zo:=⟨_,qA.or qB,λ xs ds H M Q2 Q hd hm q k=>by
 cases ds with
 |nil=>exact q.elim
 |cons d r=>
  cases r with
  |cons d2 r2=>cases d <;> exact q.elim
  |nil=>
   obtain⟨x,r,rfl,hx,hr⟩:=ai.mp hd
   cases(ao.mp hr)
   have seq:(match cQ M d with|some ds=>Q2 (.int ds.length) M|none=>False)->∃p ys,[x]=[V.ref p]/\(du X.K H p ys\/fz X.K H p ys)/\Q (.int ys.length) H:=λ q=>by
    cases e:cQ M d with
    |none=>rw[e]at q;exact q.elim
    |some es=>
     rw[e]at q
     obtain⟨p,ys,rfl,h,hy⟩:=gn e hx hm
     refine⟨p,ys,rfl,h,?_⟩
     rw[hy.length]
     exact k _ H _ M (ax.mpr rfl) hm (av.refl H) q
   cases d with
   |str z=>cases(aL.mp hx);exact .inl ⟨z,rfl,q.1,k _ H _ M (ax.mpr rfl) hm (av.refl H) q.2⟩
   |tup es=>exact .inr (seq q)
   |fl es=>exact .inr (seq q)
   |ref a=>exact .inr (seq q)
   |_=>exact q.elim⟩
def dList:List D->Mem->bD->Prop:=λ xs M Q=>match xs with
 |[x]=>match cQ M x with
  |some ds=>∀p,M p=none->Q (.ref p) (ak M p (.lst ds))
  |none=>False
 |_=>False
theorem Di:cU X (.type "list") dList:=⟨_,qz,λ xs ds H M Q2 Q hd hm q k=>by
 cases ds with
 |nil=>exact q.elim
 |cons d r=>
  cases r with
  |cons d2 r2=>exact q.elim
  |nil=>
   obtain⟨x,r,rfl,hx,hr⟩:=ai.mp hd
   cases(ao.mp hr)
   have q:(match cQ M d with|some ds=>∀p,M p=none->Q2 (.ref p) (ak M p (.lst ds))|none=>False):=q
   cases e:cQ M d with
   |none=>rw[e]at q;exact q.elim
   |some es=>
    rw[e]at q
    obtain⟨p,ys,rfl,h,hy⟩:=gn e hx hm
    exact⟨p,ys,rfl,h,λ l hl=>k _ _ (.ref l) _ (aB.mpr rfl) (cZ hl hy hm) (av.laid hl) (q l (hm.free hl))⟩⟩
def qr:List D->Mem->bD->Prop:=λ xs M Q=>match xs with
 |[x]=>match cQ M x with
  |some ds=>Q (.tup ds) M
  |none=>False
 |_=>False
theorem dX:cU X (.type "tuple") qr:=⟨_,nU,λ xs ds H M Q2 Q hd hm q k=>by
 cases ds with
 |nil=>exact q.elim
 |cons d r=>
  cases r with
  |cons d2 r2=>exact q.elim
  |nil=>
   obtain⟨x,r,rfl,hx,hr⟩:=ai.mp hd
   cases(ao.mp hr)
   have q:(match cQ M d with|some ds=>Q2 (.tup ds) M|none=>False):=q
   cases e:cQ M d with
   |none=>rw[e]at q;exact q.elim
   |some es=>
    rw[e]at q
    obtain⟨p,ys,rfl,h|h,hy⟩:=gn e hx hm
    ·exact⟨p,ys,rfl,.inl ⟨h,λ l hl=>k _ _ (.tup es) M (fI hl hy) (hm.laid hl) (av.laid hl) q⟩⟩
    ·exact⟨p,ys,rfl,.inr ⟨h,k _ H (.tup es) M (aM.mpr ⟨p,ys,rfl,h,hy⟩) hm (av.refl H) q⟩⟩⟩
theorem dY:kB qr (λ ds M Q=>Q (.tup ds) M):=λ ds M p Q hp hz q=>by
 show(match cQ (ak M p (.lst ds)) (.ref p)with|some es=>fin2 Q (.tup es) (ak M p (.lst ds))|none=>False)
 have e:cQ (ak M p (.lst ds)) (.ref p)=some ds:=by
  show aW (ak M p (.lst ds)) p=some ds
  unfold aW
  rw[af]
 rw[e]
 exact⟨M,(lp.refl M).put hp,q⟩
def k_:List D->Option (List Bool)
 |[]=>some []
 | .bl b::r=>(k_ r).map (b::·)
 |_::_=>none
theorem ny:∀(bs:List Bool),k_ (bs.map D.bl)=some bs
 |[]=>rfl
 |b::bs=>by rw[C6];unfold k_;rw[ny bs];rfl
theorem xW:∀{ds:List D} {bs:List Bool},k_ ds=some bs->ds=bs.map D.bl
 |[],bs,e=>by cases e;rfl
 |d::r,bs,e=>by
  cases d with
  |bl b=>
   unfold k_ at e
   cases q:k_ r with
   |none=>rw[q]at e;cases e
   |some cs=>
    rw[q]at e
    cases e
    rw[xW q]
    rfl
  |_=>cases e
def Py:List D->Mem->bD->Prop:=λ xs M Q=>match xs with
 |[.ref a]=>match aW M a with
  |some ds=>match k_ ds with
   |some bs=>Q (.bl (bs.all id)) M
   |none=>False
  |none=>False
 |_=>False
theorem PF(hc:X.calm=true):cU X (.builtin "all") Py:=⟨_,uf hc,λ xs ds H M Q2 Q hd hm q k=>by
 cases ds with
 |nil=>exact q.elim
 |cons d r=>
  cases r with
  |cons d2 r2=>cases d <;> exact q.elim
  |nil=>
   cases d with
   |ref a=>
    obtain⟨x,r,rfl,hx,hr⟩:=ai.mp hd
    cases(ao.mp hr)
    cases(aB.mp hx)
    have q:(match aW M a with|some ds=>(match k_ ds with|some bs=>Q2 (.bl (bs.all id)) M|none=>False)|none=>False):=q
    cases e:aW M a with
    |none=>rw[e]at q;exact q.elim
    |some es=>
     rw[e]at q
     cases eb:k_ es with
     |none=>simp only[eb]at q
     |some bs=>
      simp only[eb]at q
      obtain⟨ys,h,hy⟩:=dC e hm
      rw[xW eb]at hy
      exact⟨a,bs,rfl,du.of (by rw[h,tL hy]),k _ H _ M (aN.mpr rfl) hm (av.refl H) q⟩
   |_=>exact q.elim⟩
theorem jK{M:Mem}{p:Addr}{ds:List D}:aW (ak M p (.lst ds)) p=some ds:=by unfold aW;rw[af]
def xR:List D->Mem->bD->Prop:=λ ds M Q=>match k_ ds with
 |some bs=>Q (.bl (bs.all id)) M
 |none=>False
theorem DL:kB Py xR:=λ ds M p Q hp hz q=>by
 show(match aW (ak M p (.lst ds)) p with|some W2=>(match k_ W2 with|some bs=>fin2 Q (.bl (bs.all id)) (ak M p (.lst ds))|none=>False)|none=>False)
 rw[jK]
 unfold xR at q
 cases eb:k_ ds with
 |none=>rw[eb]at q;exact q.elim
 |some bs=>
  rw[eb]at q
  simp only[eb]
  exact⟨M,(lp.refl M).put hp,q⟩
def mi(M:Mem):D->Option String
 | .bj=>some "NoneType"
 | .bl _=>some "bool"
 | .int _=>some "int"
 | .str _=>some "str"
 | .tup _=>some "tuple"
 | .fl _=>some "list"
 | .ref a=>(aW M a).map λ _=>"list"
 |_=>none
def p_(n T:String):Bool:=n==T||(n=="bool"&&T=="int")
structure fZ(K:PySem.W.Frag)(T:String):Prop where
 bj:PySem.W.kitOne K (.type "NoneType") (.type T)=some (p_ "NoneType" T)
 bl:PySem.W.kitOne K (.type "bool") (.type T)=some (p_ "bool" T)
 int:PySem.W.kitOne K (.type "int") (.type T)=some (p_ "int" T)
 str:PySem.W.kitOne K (.type "str") (.type T)=some (p_ "str" T)
 tup:PySem.W.kitOne K (.type "tuple") (.type T)=some (p_ "tuple" T)
 lst:PySem.W.kitOne K (.type "list") (.type T)=some (p_ "list" T)
end
end L3
namespace L3
open PySem PySem.Spec L2
section
variable {X:Cx}
theorem Dg:dv X (.builtin "isinstance") (λ xs H Q=>∃(x:V) (T n:String),xs=[x,.ty T]/\fZ X.K T/\
  ((x=.bj/\n="NoneType")\/(∃b,x=.bl b/\n="bool")\/(∃i,x=.int i/\n="int")\/(∃z,x=.str z/\n="str")\/(∃p ys,x=.ref p/\fz X.K H p ys/\n="tuple")\/(∃p ys,x=.ref p/\du X.K H p ys/\n="list"))/\Q (.bl (p_ n T)) H):=by
 intro pins s σ H xs us Q I r h
 obtain⟨x,T,n,rfl,ok,hx,q⟩:=h
 obtain⟨u,w',rfl,rx,ry⟩:=vals2 r
 have e:w'=Value.type T:=ry
 subst e
 rcases hx with⟨rfl,rfl⟩|⟨b,rfl,rfl⟩|⟨i,rfl,rfl⟩|⟨z,rfl,rfl⟩|⟨p,ys,rfl,hq,rfl⟩|⟨p,ys,rfl,hq,rfl⟩
 ·exact gS I rx .bj ok.bj λ tk=>⟨.bl _,H,I.tok tk,rfl,q⟩
 ·exact gS I rx (.bl b) ok.bl λ tk=>⟨.bl _,H,I.tok tk,rfl,q⟩
 ·exact gS I rx (.int i) ok.int λ tk=>⟨.bl _,H,I.tok tk,rfl,q⟩
 ·exact gS I rx (.str z) ok.str λ tk=>⟨.bl _,H,I.tok tk,rfl,q⟩
 ·cases(show u=Value.ref p from rx)
  obtain⟨au,_,⟨o,h1,h2,_⟩,_⟩:=I.tuple hq
  exact B3 PySem.W.kitx_tuple I.nO ⟨o,h1,h2⟩ ok.tup (λ z=>nomatch z) λ tk=>⟨.bl _,H,I.tok tk,rfl,q⟩
 ·cases(show u=Value.ref p from rx)
  obtain⟨au,_,pl,_⟩:=I.list hq
  obtain⟨o,h1,h2,_⟩:=pl.isList
  exact B3 PySem.W.kitx_list I.nO ⟨o,h1,h2⟩ ok.lst (λ z=>nomatch z) λ tk=>⟨.bl _,H,I.tok tk,rfl,q⟩
def Ip(T:String):List D->Mem->bD->Prop:=λ xs M Q=>match xs with
 |[x,.ty U]=>U=T/\(match mi M x with
  |some n=>Q (.bl (p_ n T)) M
  |none=>False)
 |_=>False
theorem fW{T:String}(ok:fZ X.K T):cU X (.builtin "isinstance") (Ip T):=⟨_,Dg,λ xs ds H M Q2 Q hd hm q k=>by
 cases ds with
 |nil=>exact q.elim
 |cons d r0=>
 cases r0 with
 |nil=>exact q.elim
 |cons d2 r1=>
 cases r1 with
 |cons _ _=>cases d2 <;> exact q.elim
 |nil=>
 cases d2 with
 |ty U=>
  obtain⟨x,r,rfl,hx,hr⟩:=ai.mp hd
  obtain⟨y,r2,rfl,hy,S8⟩:=ai.mp hr
  cases(ao.mp S8)
  cases(vT.mp hy)
  obtain⟨rfl,q⟩:=q
  cases e:mi M d with
  |none=>rw[e]at q;exact q.elim
  |some n=>
   rw[e]at q
   refine⟨x,U,n,rfl,ok,?_,k _ H _ M (aN.mpr rfl) hm (av.refl H) q⟩
   cases d with
   |bj=>cases e;exact .inl ⟨dj.mp hx,rfl⟩
   |bl b=>cases e;exact .inr (.inl ⟨b,aN.mp hx,rfl⟩)
   |int i=>cases e;exact .inr (.inr (.inl ⟨i,ax.mp hx,rfl⟩))
   |str z=>cases e;exact .inr (.inr (.inr (.inl ⟨z,aL.mp hx,rfl⟩)))
   |tup es=>
    cases e
    obtain⟨p,ys,rfl,h,_⟩:=aM.mp hx
    exact .inr (.inr (.inr (.inr (.inl ⟨p,ys,rfl,h,rfl⟩))))
   |fl es=>
    cases e
    obtain⟨p,ys,rfl,h,_⟩:=iw.mp hx
    exact .inr (.inr (.inr (.inr (.inr ⟨p,ys,rfl,h.sq,rfl⟩))))
   |ref a=>
    cases el:aW M a with
    |none=>
     have e:(aW M a).map (λ _=>"list")=some n:=e
     rw[el]at e;cases e
    |some es=>
     have e:(aW M a).map (λ _=>"list")=some n:=e
     rw[el]at e;cases e
     obtain⟨ys,h,_⟩:=dC el hm
     exact .inr (.inr (.inr (.inr (.inr ⟨a,ys,aB.mp hx,du.of h,rfl⟩))))
   |ty n=>cases e
 |_=>exact q.elim⟩
def fh:List D->Option (List Str)
 |[]=>some []
 | .str z::r=>(fh r).map (z::·)
 |_::_=>none
theorem rn:∀{ds:List D} {zs:List Str},fh ds=some zs->ds=zs.map D.str
 |[],zs,e=>by cases e;rfl
 |d::r,zs,e=>by
  cases d with
  |str z=>
   unfold fh at e
   cases q:fh r with
   |none=>rw[q]at e;cases e
   |some ys=>
    rw[q]at e
    cases e
    rw[rn q]
    rfl
  |_=>cases e
theorem ow:∀(zs:List Str),fh (zs.map D.str)=some zs
 |[]=>rfl
 |b::bs=>by rw[C6];unfold fh;rw[ow bs];rfl
def nq:D->List D->Mem->bD->Prop:=λ x ds M Q=>match x with
 | .str z=>match fh ds with
  |some ys=>(ys.map (·.length)).sum+ys.length*z.length<=16777216/\Q (.str (Txt.join z ys)) M
  |none=>False
 |_=>False
def Io:D->List D->Mem->bD->Prop:=λ x vs M Q=>match vs with
 |[.ref a]=>match aW M a with
  |some ds=>nq x ds M Q
  |none=>False
 |_=>False
theorem Lc:zI X "str.join" Io:=⟨_,FX,λ x xs d ds H M Q2 Q hx hd hm q k=>by
 cases ds with
 |nil=>exact q.elim
 |cons d1 r0=>
 cases r0 with
 |cons _ _=>cases d1 <;> exact q.elim
 |nil=>
 cases d1 with
 |ref a=>
  obtain⟨y,r,rfl,hy,hr⟩:=ai.mp hd
  cases(ao.mp hr)
  cases(aB.mp hy)
  have q:(match aW M a with|some ds=>nq d ds M Q2|none=>False):=q
  cases e:aW M a with
  |none=>rw[e]at q;exact q.elim
  |some es=>
   rw[e]at q
   cases d with
   |str z=>
    have q:(match fh es with|some ys=>(ys.map (·.length)).sum+ys.length*z.length<=16777216/\Q2 (.str (Txt.join z ys)) M|none=>False):=q
    cases LQ:fh es with
    |none=>rw[LQ]at q;exact q.elim
    |some ys=>
     rw[LQ]at q
     obtain⟨vs,h,hv⟩:=dC e hm
     rw[rn LQ]at hv
     exact⟨z,a,ys,aL.mp hx,rfl,du.of (by rw[h,oU hv]),q.1,k _ H _ M (aL.mpr rfl) hm (av.refl H) q.2⟩
   |_=>exact q.elim
 |_=>exact q.elim⟩
theorem zV:we Io nq:=λ d ds M p Q hp hz q=>by
 show(match aW (ak M p (.lst ds)) p with|some es=>nq d es (ak M p (.lst ds)) (fin2 Q)|none=>False)
 rw[jK]
 cases d with
 |str z=>
  have q:(match fh ds with|some ys=>(ys.map (·.length)).sum+ys.length*z.length<=16777216/\Q (.str (Txt.join z ys)) M|none=>False):=q
  show(match fh ds with|some ys=>(ys.map (·.length)).sum+ys.length*z.length<=16777216/\fin2 Q (.str (Txt.join z ys)) (ak M p (.lst ds))|none=>False)
  cases e:fh ds with
  |none=>rw[e]at q;exact q.elim
  |some ys=>rw[e]at q;exact⟨q.1,M,(lp.refl M).put hp,q.2⟩
 |_=>exact q.elim
def GY:jr:=λ o i v M N=>match o,i with
 | .ref a,.int k=>match aW M a with
  |some ds=>(match vH ds.length k with
   |some j=>N (ak M a (.lst (ds.set j v)))
   |none=>False)
  |none=>False
 |_,_=>False
theorem j_:Du X GY:=⟨_,set_list,λ o i v d j e H M Q2 Q hd hj he hm q k=>by
 cases d with
 |ref a=>
  cases j with
  |int n=>
   cases(aB.mp hd);cases(ax.mp hj)
   have q:(match aW M a with|some ds=>(match vH ds.length n with|some j=>Q2 (ak M a (.lst (ds.set j e)))|none=>False)|none=>False):=q
   cases el:aW M a with
   |none=>rw[el]at q;exact q.elim
   |some ds=>
    rw[el]at q
    cases ei:vH ds.length n with
    |none=>simp only[ei]at q
    |some m=>
     simp only[ei]at q
     obtain⟨xs,h,hx⟩:=dC el hm
     refine⟨a,xs,n,m,rfl,rfl,h,by rw[hx.length];exact ei,?_⟩
     exact k _ _ (hm.put (u:=.lst (ds.set m e)) (av.lst h) ⟨_,br,aD.mono (av.lst h) _ (hx.set he m)⟩) (av.lst h) q
  |_=>exact q.elim
 |_=>exact q.elim⟩
end
end L3
namespace L3
open PySem L2
section
variable {δ:dq}{M M1:Mem}{Q:bD}{ta tb tc:bV}{r r':fA}{E:nE}{t u:jU}{c c':eJ}{QB:Bool->Mem->Prop}{tl:iy}{QL:List D->Mem->Prop}
theorem Jl(h:t {E with nx:=u E} δ M):D_ t u E δ M:=h
theorem Jz(h:c δ M λ b M1=>if b=true then t E δ M1 else u E δ M1):Jb c t u E δ M:=h
theorem En(h:E.nx δ M):Ao E δ M:=h
theorem Jm(h:ta δ M E.rt):IY ta E δ M:=h
theorem JG{g:fX}(h:ta δ M λ d M1=>g d δ M1 E.nx):rL ta g E δ M:=h
theorem EF(h:ta δ M λ _ M1=>E.nx δ M1):Ar ta E δ M:=h
theorem pI{i:Nat}{d:D}{N:dq->Mem->Prop}(h:N (δ.set i (some d)) M):hName i d δ M N:=h
theorem Jk{d:D}{N:dq->Mem->Prop}{s:jr}(h:ta δ M λ o M1=>tb δ M1 λ j M2=>s o j d M2 λ M3=>N δ M3):hSub ta tb s d δ M N:=h
theorem AA{a:Addr}{k:Int}{v:D}{ds:List D}{j:Nat}{N:Mem->Prop}(h:M a=some (.lst ds))(e:vH ds.length k=some j)(q:N (ak M a (.lst (ds.set j v)))):GY (.ref a) (.int k) v M N:=by
 show(match aW M a with|some ds=>(match vH ds.length k with|some j=>N (ak M a (.lst (ds.set j v)))|none=>False)|none=>False)
 have e1:aW M a=some ds:=by unfold aW;rw[h]
 rw[e1]
 simp only[e]
 exact q
theorem Ef(h:ta δ M λ d M1=>match d with| .bl k=>QB k M1|_=>False):rJ ta δ M QB:=h
theorem Ny(h:ta δ M λ d M1=>tb δ M1 λ e M2=>r d e M2 Q):Dy r ta tb δ M Q:=h
theorem Nu{s:D->Mem->bD->Prop}(h:ta δ M λ d M1=>s d M1 Q):RS s ta δ M Q:=h
theorem Jh{i:Nat}{d:D}(e:δ[i]?=some (some d))(h:Q d M):Ak i δ M Q:=by unfold Ak;rw[e];exact h
theorem R'{d:D}(h:Q d M):sC d δ M Q:=h
theorem JH(h:c δ M λ b M1=>if b=true then c' δ M1 QB else QB false M1):Je c c' δ M QB:=h
theorem Nx(h:c δ M λ b M1=>if b=true then QB true M1 else c' δ M1 QB):RU c c' δ M QB:=h
theorem Jn(h:c δ M λ b M1=>QB (!b) M1):IZ c δ M QB:=h
theorem EL(h:ta δ M λ d M1=>match d with| .bl c=>(if c=true then tb δ M1 Q else Q (.bl false) M1)|_=>False):Av ta tb δ M Q:=h
theorem Jo(h:QL [] M):I_ δ M QL:=h
theorem EG(h:ta δ M λ d M1=>tl δ M1 λ ds M2=>QL (d::ds) M2):Au ta tl δ M QL:=h
theorem Ji(h:tl δ M λ ds M1=>ds.length<=sizeLine/\Q (.tup ds) M1):IW tl δ M Q:=h
theorem Ju(h:tl δ M λ ds M1=>ds.length<=sizeLine/\∀p,M1 p=none->Q (.ref p) (ak M1 p (.lst ds))):Ja tl δ M Q:=h
theorem ND{s:List D->Mem->bD->Prop}(h:tl δ M λ ds M1=>s ds M1 Q):My s tl δ M Q:=h
theorem R_{sp:eK}(h:tl δ M λ ds M1=>sp ds M1 Q):sD sp tl δ M Q:=h
theorem Nw{s:D->Option Int->Option Int->Mem->bD->Prop}{l h':Hi}(h:ta δ M λ d M1=>l δ M1 λ i M2=>h' δ M2 λ j M3=>s d i j M3 Q):RT s ta l h' δ M Q:=h
theorem yA{QO:Option Int->Mem->Prop}(h:QO none M):pF δ M QO:=h
theorem Em{QO:Option Int->Mem->Prop}(h:ta δ M λ d M1=>match d with| .int i=>QO (some i) M1|_=>False):An ta δ M QO:=h
theorem NF{T:String}{s:D->List D->Mem->bD->Prop}(h:ta δ M λ d M1=>Hn T d M1/\tl δ M1 λ ds M2=>s d ds M2 Q):RV T s ta tl δ M Q:=h
theorem JF{T:String}{s:D->List D->Mem->bD->Prop}(h:ta δ M λ d M1=>Hn T d M1/\s d [] M1 Q):Jd T s ta δ M Q:=h
theorem gy(W:dq->Mem->Prop)(h1:∀N:dq->Mem->Prop,(∀δ' M',W δ' M'->N δ' M')->t {E with nx:=N} δ M)(h2:∀δ' M',W δ' M'->u E δ' M'):D_ t u E δ M:=h1 (u E) h2
theorem om{M:Mem}{a:Addr}{o:MO}(h:M a=some o):ak M a o=M:=by
 funext b
 unfold ak
 split
 ·rename_i e;rw[e,h]
 ·rfl
theorem bW{a:Addr}{i:Int}{ds:List D}{d:D}(h:M a=some (.lst ds))(e:gY ds i=some d)(q:Q d M):L6 (.ref a) (.int i) M Q:=by
 show(match aW M a with|some ds=>(match gY ds i with|some d=>Q d M|none=>False)|none=>False)
 have e1:aW M a=some ds:=by unfold aW;rw[h]
 rw[e1]
 simp only[e]
 exact q
theorem gx{i:Int}{ds:List D}{d:D}(e:gY ds i=some d)(q:Q d M):L6 (.tup ds) (.int i) M Q:=by
 show(match gY ds i with|some d=>Q d M|none=>False)
 rw[e]
 exact q
theorem uX{i:Int}{z:Str}{x:Nat}(hz:z.length<=sizeLine)(e:gY z.cps.toList i=some x)(q:Q (.str ⟨#[x]⟩) M):L6 (.str z) (.int i) M Q:=by
 refine⟨hz,?_⟩
 show(match gY z.cps.toList i with|some c=>Q (.str ⟨#[c]⟩) M|none=>False)
 rw[e]
 exact q
theorem R9{C:Int->Int->Prop}{g:Int->Int->D}{i j:Int}(h:C i j)(q:Q (g i j) M):dI C g (.int i) (.int j) M Q:=⟨h,q⟩
theorem Js{g:Int->Int->D}{i j:Int}(h:0 < j)(q:Q (g i j) M):dI (λ _ j=>0 < j) g (.int i) (.int j) M Q:=⟨h,q⟩
theorem JE{g:Int->Int->D}{i j:Int}(h:0 < j)(h2:j < 1073741824)(q:Q (g i j) M):dI Mu g (.int i) (.int j) M Q:=⟨⟨h,h2⟩,q⟩
theorem nu{i j:Int}(h0: -1000000000000<=i)(h1:i<=1000000000000):qN i j:=.inl ⟨Int.lt_of_lt_of_le (by decide) h0,Int.lt_of_le_of_lt h1 (by decide)⟩
theorem v_{i j:Int}(h0: -1000000000000<=j)(h1:j<=1000000000000):qN i j:=.inr ⟨Int.lt_of_lt_of_le (by decide) h0,Int.lt_of_le_of_lt h1 (by decide)⟩
theorem NA{g:Int->Int->D}{i j:Int}(q:Q (g i j) M):L_ g (.int i) (.int j) M Q:=q
theorem EM{a b:Addr}{xs ys:List D}(ha:M a=some (.lst xs))(hb:M b=some (.lst ys))(h:xs.length+ys.length<=sizeLine)(q:∀p,M p=none->Q (.ref p) (ak M p (.lst (xs++ys)))):G_ (.ref a) (.ref b) M Q:=by
 show(match M a,M b with|some (.lst xs),some (.lst ys)=>xs.length+ys.length<=sizeLine/\∀p,M p=none->Q (.ref p) (ak M p (.lst (xs++ys)))|_,_=>False)
 rw[ha,hb]
 exact⟨h,q⟩
theorem Er{i j:Int}(h:qN i j)(q:Q (.int (i*j)) M):GZ (.int i) (.int j) M Q:=⟨h,q⟩
theorem Ep{i:Str}{j:Int}(h:MulOk i j)(q:Q (.str (Txt.mul i j)) M):GZ (.str i) (.int j) M Q:=⟨h,q⟩
theorem Jv{i j:Int}(q:Q (.bl (decide (i<=j))) M):U0 (.int i) (.int j) M Q:=q
theorem JC{i j:Int}(q:Q (.bl (decide (i=j))) M):Ma false (.int i) (.int j) M Q:=by
 show Q (.bl (xor false (decide (i=j)))) M
 simpa using q
theorem JD{i j:Bool}(q:Q (.bl (decide (i=j))) M):Ma false (.bl i) (.bl j) M Q:=by
 show Q (.bl (xor false (decide (i=j)))) M
 simpa using q
theorem JB{i j:Str}(q:Q (.bl (decide (i=j))) M):Ma false (.str i) (.str j) M Q:=by
 show Q (.bl (xor false (decide (i=j)))) M
 simpa using q
theorem Jr{i j:Bool}(q:Q (.bl (!decide (i=j))) M):Ma true (.bl i) (.bl j) M Q:=by
 show Q (.bl (xor true (decide (i=j)))) M
 simpa using q
theorem Ew{a:Addr}{ds:List D}(h:M a=some (.lst ds))(q:Q (.int ds.length) M):zo [.ref a] M Q:=by
 show(match aW M a with|some ds=>Q (.int ds.length) M|none=>False)
 have e1:aW M a=some ds:=by unfold aW;rw[h]
 rw[e1]
 exact q
theorem Eu{ds:List D}(q:Q (.int ds.length) M):zo [.tup ds] M Q:=q
theorem Jx{x:D}{ds:List D}{b:Bool}(e:inD x ds=some b)(q:Q (.bl b) M):Rj x (.tup ds) M Q:=by
 show(match inD x ds with|some b=>Q (.bl b) M|none=>False)
 rw[e]
 exact q
theorem Jy{x:D}{a:Addr}{ds:List D}{b:Bool}(h:M a=some (.lst ds))(e:inD x ds=some b)(q:Q (.bl b) M):Rj x (.ref a) M Q:=by
 show(match M a with|some (.lst ds)=>(match inD x ds with|some b=>Q (.bl b) M|none=>False)|_=>False)
 rw[h]
 simp only[e]
 exact q
theorem AI{ds:List D}(q:∀p,M p=none->Q (.ref p) (ak M p (.lst ds))):dList [.fl ds] M Q:=q
theorem Jp{i:Int}(q:Q (.int (-i)) M):Pp (.int i) M Q:=q
theorem bh{P:Prop}{inst:Decidable P}{A B:Prop}(h1:P->A)(h2:¬P->B):if @decide P inst=true then A else B:=by
 by_cases h:P
 ·rw[B8 h,J4 rfl];exact h1 h
 ·rw[A6 h,J5 o9];exact h2 h
theorem lH{P:Prop}{inst:Decidable P}{A B:Prop}(h1:¬P->A)(h2:P->B):if(!@decide P inst)=true then A else B:=by
 by_cases h:P
 ·rw[B8 h,Bool.not_true,J5 o9];exact h2 h
 ·rw[A6 h,Bool.not_false,J4 rfl];exact h1 h
theorem wM{A B:Prop}(h:A):if true=true then A else B:=by rw[J4 rfl];exact h
theorem Ez{A B:Prop}(h:B):if false=true then A else B:=by rw[J5 o9];exact h
theorem wN{b:Bool}{A B:Prop}(h1:b=true->A)(h2:b=false->B):if b=true then A else B:=by
 cases b with
 |true=>rw[J4 rfl];exact h1 rfl
 |false=>rw[J5 o9];exact h2 rfl
end
end L3
namespace L3
open PySem L2
section
variable {g:fX}{tt:eJ}{te:bV}{tb:jU}{δ δc:dq}{M1:Mem}{Qe:List D->Mem->Prop}{E:nE}
theorem eI{ds:List D}(Pv:Nat->List D->Mem->Prop)(h0:Pv 0 [] M1)(hz:∀i acc M,i<=ds.length->Pv i acc M->acc.length<=sizeLine)
  (hs:∀i d acc M,ds[i]?=some d->Pv i acc M->g d δc M λ δ2 M2=>tt δ2 M2 λ b M3=>if b=true then te δ2 M3 λ y M4=>Pv (i+1) (acc++[y]) M4 else Pv (i+1) acc M3)
  (hd:∀acc M,Pv ds.length acc M->Qe acc M):
  ∃(B:Nat) (W:Nat->List D->Mem->Prop),W 0 [] M1/\∀i acc M,W i acc M->i<=B/\acc.length<=sizeLine/\match items (.fix ds) M with
   |none=>False
   |some ds=>match ds[i]? with
    |none=>i=ds.length/\Qe acc M
    |some d=>g d δc M λ δ2 M2=>tt δ2 M2 λ b M3=>if b=true then te δ2 M3 λ y M4=>W (i+1) (acc++[y]) M4 else W (i+1) acc M3:=by
 refine⟨ds.length,λ i acc M=>if i<=ds.length then Pv i acc M else False,by dsimp only;rw[J4 (E3 _)];exact h0,?_⟩
 intro i acc M w
 by_cases hi:i<=ds.length
 ·rw[J4 hi]at w
  refine⟨hi,hz i acc M hi w,?_⟩
  show(match ds[i]? with
    |none=>i=ds.length/\Qe acc M
    |some d=>g d δc M λ δ2 M2=>tt δ2 M2 λ b M3=>if b=true then te δ2 M3 λ y M4=>(if i+1<=ds.length then Pv (i+1) (acc++[y]) M4 else False)else(if i+1<=ds.length then Pv (i+1) acc M3 else False))
  cases e:ds[i]? with
  |none=>
   have:i=ds.length:=B7 hi (i6.mp e)
   subst this
   exact⟨rfl,hd acc M w⟩
  |some d=>
   have fO:i+1<=ds.length:=(i5.mp e).1
   simp only[J4 fO]
   exact hs i d acc M e w
 ·rw[J5 hi]at w
  exact w.elim
theorem fP{ds:List D}(Pv:Nat->dq->Mem->Prop)(h0:Pv 0 δ M1)
  (hs:∀i d δ M,ds[i]?=some d->Pv i δ M->g d δ M λ δ2 M2=>tb {E with nx:=Pv (i+1),ct:=Pv (i+1),bk:=E.nx} δ2 M2)
  (hd:∀δ M,Pv ds.length δ M->E.nx δ M):
  ∃(B:Nat) (W:Nat->dq->Mem->Prop),W 0 δ M1/\∀i δ M,W i δ M->i<=B/\match items (.fix ds) M with
   |none=>False
   |some ds=>match ds[i]? with
    |none=>i=ds.length/\E.nx δ M
    |some d=>g d δ M λ δ2 M2=>tb {E with nx:=W (i+1),ct:=W (i+1),bk:=E.nx} δ2 M2:=by
 refine⟨ds.length,λ i δ M=>if i<=ds.length then Pv i δ M else False,by dsimp only;rw[J4 (E3 _)];exact h0,?_⟩
 intro i δ M w
 by_cases hi:i<=ds.length
 ·rw[J4 hi]at w
  refine⟨hi,?_⟩
  show(match ds[i]? with
    |none=>i=ds.length/\E.nx δ M
    |some d=>g d δ M λ δ2 M2=>tb {E with nx:=(λ δ M=>if i+1<=ds.length then Pv (i+1) δ M else False),ct:=(λ δ M=>if i+1<=ds.length then Pv (i+1) δ M else False),bk:=E.nx} δ2 M2)
  cases e:ds[i]? with
  |none=>
   have:i=ds.length:=B7 hi (i6.mp e)
   subst this
   exact⟨rfl,hd δ M w⟩
  |some d=>
   have fO:i+1<=ds.length:=(i5.mp e).1
   simp only[J4 fO]
   exact hs i d δ M e w
 ·rw[J5 hi]at w
  exact w.elim
theorem CJ{a:Addr}{ds:List D}(Pv:Nat->dq->Mem->Prop)(h0:Pv 0 δ M1)(hl:∀i δ M,i<=ds.length->Pv i δ M->M a=some (.lst ds))
  (hs:∀i d δ M,ds[i]?=some d->Pv i δ M->g d δ M λ δ2 M2=>tb {E with nx:=Pv (i+1),ct:=Pv (i+1),bk:=E.nx} δ2 M2)
  (hd:∀δ M,Pv ds.length δ M->E.nx δ M):
  ∃(B:Nat) (W:Nat->dq->Mem->Prop),W 0 δ M1/\∀i δ M,W i δ M->i<=B/\match items (.at a) M with
   |none=>False
   |some ds=>match ds[i]? with
    |none=>i=ds.length/\E.nx δ M
    |some d=>g d δ M λ δ2 M2=>tb {E with nx:=W (i+1),ct:=W (i+1),bk:=E.nx} δ2 M2:=by
 refine⟨ds.length,λ i δ M=>if i<=ds.length then Pv i δ M else False,by dsimp only;rw[J4 (E3 _)];exact h0,?_⟩
 intro i δ M w
 by_cases hi:i<=ds.length
 ·rw[J4 hi]at w
  refine⟨hi,?_⟩
  have e0:items (.at a) M=some ds:=by
   show(match M a with|some (.lst ds)=>some ds|_=>none)=some ds
   rw[hl i δ M hi w]
  rw[e0]
  show(match ds[i]? with
    |none=>i=ds.length/\E.nx δ M
    |some d=>g d δ M λ δ2 M2=>tb {E with nx:=(λ δ M=>if i+1<=ds.length then Pv (i+1) δ M else False),ct:=(λ δ M=>if i+1<=ds.length then Pv (i+1) δ M else False),bk:=E.nx} δ2 M2)
  cases e:ds[i]? with
  |none=>
   have:i=ds.length:=B7 hi (i6.mp e)
   subst this
   exact⟨rfl,hd δ M w⟩
  |some d=>
   have fO:i+1<=ds.length:=(i5.mp e).1
   simp only[J4 fO]
   exact hs i d δ M e w
 ·rw[J5 hi]at w
  exact w.elim
end
section
variable {δ:dq}{M:Mem}{Q:bD}{wi:lh}{g:fX}{tt:eJ}{te:bV}{n:Nat}{fr:List Nat}{ta:bV}{E:nE}{tb:jU}{tl:iy}{R:Src->Mem->Prop}
theorem Jj{r3:List D->Mem->bD->Prop}(h:wi δ M λ src M1=>∃(B:Nat) (W:Nat->List D->Mem->Prop),W 0 [] M1/\∀i acc M,W i acc M->i<=B/\acc.length<=sizeLine/\match items src M with
   |none=>False
   |some ds=>match ds[i]? with
    |none=>i=ds.length/\r3 acc M Q
    |some d=>g d (ix n fr δ) M λ δ2 M2=>tt δ2 M2 λ b M3=>if b=true then te δ2 M3 λ y M4=>W (i+1) (acc++[y]) M4 else W (i+1) acc M3):yx r3 wi g tt te n fr δ M Q:=h
theorem Ee{T:String}{r3:D->List D->Mem->bD->Prop}(h:ta δ M λ d M1=>Hn T d M1/\fL wi g tt te n fr δ M1 λ ds M'=>r3 d ds M' Q):Am T r3 ta wi g tt te n fr δ M Q:=h
theorem AO{Qe:List D->Mem->Prop}(h:wi δ M λ src M1=>∃(B:Nat) (W:Nat->List D->Mem->Prop),W 0 [] M1/\∀i acc M,W i acc M->i<=B/\acc.length<=sizeLine/\match items src M with
   |none=>False
   |some ds=>match ds[i]? with
    |none=>i=ds.length/\Qe acc M
    |some d=>g d (ix n fr δ) M λ δ2 M2=>tt δ2 M2 λ b M3=>if b=true then te δ2 M3 λ y M4=>W (i+1) (acc++[y]) M4 else W (i+1) acc M3):fL wi g tt te n fr δ M Qe:=h
theorem EH(h:fL wi g tt te n fr δ M λ ds M'=>∀p,M' p=none->Q (.ref p) (ak M' p (.lst ds))):rK wi g tt te n fr δ M Q:=h
theorem JA(h:wi δ M λ src M1=>∃(B:Nat) (W:Nat->dq->Mem->Prop),W 0 δ M1/\∀i δ M,W i δ M->i<=B/\match items src M with
   |none=>False
   |some ds=>match ds[i]? with
    |none=>i=ds.length/\E.nx δ M
    |some d=>g d δ M λ δ2 M2=>tb {E with nx:=W (i+1),ct:=W (i+1),bk:=E.nx} δ2 M2):Jc wi g tb E δ M:=h
theorem El(h:tl δ M λ ds M1=>match ds with|[.int j]=>T' j/\R (.fix (gA 0 j.toNat)) M1|_=>False):Cb tl δ M R:=h
theorem Jg{QB:Bool->Mem->Prop}(h:QB true M):pC δ M QB:=h
theorem uk{α:Type}{xs:List α}{d:Int}(h0:0<=d)(h1:d < xs.length):∃c,gY xs d=some c:=by
 have hl:d.toNat < xs.length:=by omega
 have e:((d.toNat:Nat):Int)=d:=by omega
 have q:gY xs ((d.toNat:Nat):Int)=some xs[d.toNat]:=cz (by simp[hl])
 rw[e]at q
 exact⟨_,q⟩
end
end L3
namespace L3
open PySem L2
def strsOf:List Expr->Option (List Str)
 |[]=>some []
 | .Constant (.str x) _ _::r=>(strsOf r).map (x::·)
 |_::_=>none
def wH(zs:List Str):iy:=λ _ M Q=>Q (zs.map D.str) M
theorem Eg{zs:List Str}{δ:dq}{M:Mem}{Q:List D->Mem->Prop}(h:Q (zs.map D.str) M):wH zs δ M Q:=h
theorem wU{X:Cx}:∀{es:List Expr} {zs:List Str},strsOf es=some zs->QA X es (wH zs)
 |[],zs,h=>by cases h;exact A_
 |e::es,zs,h=>by
  cases e with
  |Constant c j pos=>
   cases c with
   |str x=>
    unfold strsOf at h
    cases q:strsOf es with
    |none=>rw[q]at h;cases h
    |some ys=>
     rw[q]at h
     cases h
     exact Br (wV (ta:=sC (.str x)) (t:=wH ys) HD (wU q)) λ σ H Q h=>h
   |_=>exact absurd h (by unfold strsOf;intro z;cases z)
  |_=>exact absurd h (by unfold strsOf;intro z;cases z)
end L3
namespace L4
open PySem PySem.Spec L2 L3
structure WE(X:Cx)(e:Expr)(t:bV):Prop where
 h:QE X e t
structure WT(X:Cx)(e:Expr)(t:eJ):Prop where
 h:QT X e t
structure WW(X:Cx)(e:Expr)(t:eJ):Prop where
 h:QW X e t
structure WA(X:Cx)(e:List Expr)(t:iy):Prop where
 h:QA X e t
structure WS(X:Cx)(e:Stmt)(t:jU):Prop where
 h:QS X e t
structure Hh(X:Cx)(e:List Stmt)(t:jU):Prop where
 h:DD X e t
structure WO(X:Cx)(e:Option Expr)(t:Hi):Prop where
 h:QO X e t
structure WG(X:Cx)(e:Expr)(t:fX):Prop where
 h:QG X e t
structure Ro(X:Cx)(e:List Expr)(t:nA):Prop where
 h:PN X e t
structure T5(X:Cx)(e:List Expr)(t:eJ):Prop where
 h:Rt X e t
structure WI(X:Cx)(tg e:Expr)(t:lh):Prop where
 h:QI X tg e t
theorem WW.pt {X:Cx}{e:Expr}{t:eJ}(w:WW X e t):WT X e t:=⟨w.h.pt⟩
structure Mn(X:Cx)(scope:Scope)(tgs:List Str)(fr:List Nat)(tg:Expr)(g:fX):Prop where
 h:Rr X scope tgs fr tg g
structure eV(X:Cx)(scope:Scope)(tgs:List Str)(fr:List Nat)(tg iter:Expr)(ifs:List Expr)(elt:Expr)(wi:lh)(g:fX)(tt:eJ)(te:bV):Prop where
 b:kH X scope fr
 calm:X.calm=true
 xe:∀e s,X.xe e s->False
 it:WI X tg iter wi
 Vb:Mn X scope tgs fr tg g
 ifs:∀cl C fp s H,T5 (bF X scope cl tgs fr C fp s H) ifs tt
 elt:∀cl C fp s H,WE (bF X scope cl tgs fr C fp s H) elt te
theorem eV.h {X:Cx}{scope:Scope}{tgs:List Str}{fr:List Nat}{tg iter:Expr}{ifs:List Expr}{elt:Expr}{wi:lh}{g:fX}{tt:eJ}{te:bV}(C:eV X scope tgs fr tg iter ifs elt wi g tt te):iC X scope tgs fr tg iter ifs elt wi g tt te:=
 ⟨C.b,C.calm,C.xe,C.it.h,C.Vb.h,λ cl D fp s H=>(C.ifs cl D fp s H).h,λ cl D fp s H=>(C.elt cl D fp s H).h⟩
section
variable {X:Cx}{a b c e:Expr}{ta tb tc:bV}{pos:Pos}
theorem ar(i:Nat){x:Str}(hN:X.N[i]?=some x:=by rfl)(hv:Rp X.env.scope x:=by first|exact Or.inl rfl|exact Or.inr (Or.inl rfl)|exact Or.inr (Or.inr rfl))(hd:(x==("__debug__":Str))=false:=by decide)(hcd:(x==("__classdict__":Str))=false:=by decide):WE X (.Name x pos) (Ak i):=⟨Vn (i:=i) (hN:=hN) (hv:=hv) (hd:=hd) (hcd:=hcd)⟩
theorem aj{i j}:WE X (.Constant (.int i) j pos) (sC (.int i)):=⟨NY⟩
theorem rg{i j}:WE X (.Constant (.bool i) j pos) (sC (.bl i)):=⟨Sl⟩
theorem l_{i j}:WE X (.Constant (.str i) j pos) (sC (.str i)):=⟨HD⟩
theorem rf{j}:WE X (.Constant .none j pos) (sC .bj):=⟨NW⟩
theorem kJ{x:Str}{n:String}(hg:Gl X x)(hm:X.mg x=none)(hv:bootBuiltins x=some (.type n))(hn:x≠"__name__":=by decide)(hd:(x==("__debug__":Str))=false:=by decide):WE X (.Name x pos) (sC (.ty n)):=⟨Sh (hg:=hg) (hm:=hm) (hv:=hv) (hn:=hn) (hd:=hd)⟩
theorem aY{op:Operator}{r2:fA}(o:fB X (binaryOp op) r2)(ha:WE X a ta)(hb:WE X b tb):WE X (.BinOp a op b pos) (Dy r2 ta tb):=⟨Si (o:=o) (ha:=ha.h) (hb:=hb.h)⟩
theorem RA{op:UnaryOp}{r2:D->Mem->bD->Prop}(o:T6 X (unaryOp op) r2)(ha:WE X a ta):WE X (.UnaryOp op a pos) (RS r2 ta):=⟨Sg (o:=o) (ha:=ha.h)⟩
theorem og{op:CmpOp}{r2:fA}(o:fB X (compareOp op) r2)(ha:WE X a ta)(hb:WE X b tb)(hm:behindInMarks op b=false):WE X (.Compare a [op] [b] pos) (Dy r2 ta tb):=⟨N5 (o:=o) (ha:=ha.h) (hb:=hb.h) (hm:=hm)⟩
theorem aS{op:CmpOp}{r2:fA}(o:fB X (compareOp op) r2)(ha:WE X a ta)(hb:WE X b tb)(hm:behindInMarks op b=false):WT X (.Compare a [op] [b] pos) (rJ (Dy r2 ta tb)):=⟨JP (o:=o) (ha:=ha.h) (hb:=hb.h) (hm:=hm)⟩
theorem h_(h:WE X e ta)(he:∀whole,isTrue e X.env whole=(do let v <- whole;standAt e.pos;holding [v] (truthy v)):=by intro _;rfl):WT X e (rJ ta):=⟨JN (h:=h.h) (he:=he)⟩
variable {tA tB:eJ}{rest:List Expr}
theorem iF(ha:WT X a tA):WW X (.BoolOp .And [a] pos) tA:=⟨EN (ha:=ha.h)⟩
theorem uH(ha:WT X a tA):WW X (.BoolOp .Or [a] pos) tA:=⟨JL (ha:=ha.h)⟩
theorem lZ(ha:WT X a tA)(hb:WW X (.BoolOp .And (b::rest) pos) tB):WW X (.BoolOp .And (a::b::rest) pos) (Je tA tB):=⟨JM (ha:=ha.h) (hb:=hb.h)⟩
theorem zP(ha:WT X a tA)(hb:WW X (.BoolOp .Or (b::rest) pos) tB):WW X (.BoolOp .Or (a::b::rest) pos) (RU tA tB):=⟨NS (ha:=ha.h) (hb:=hb.h)⟩
theorem uI(ha:WT X a tA):WT X (.UnaryOp .Not a pos) (IZ tA):=⟨JO (ha:=ha.h)⟩
theorem q_{op}(h:WE X a ta):WE X (.BoolOp op [a] pos) ta:=⟨NV (h:=h.h)⟩
theorem w_and(ha:WE X a ta)(hb:WE X (.BoolOp .And (b::rest) pos) tb):WE X (.BoolOp .And (a::b::rest) pos) (Av ta tb):=⟨N7 (ha:=ha.h) (hb:=hb.h)⟩
variable {es:List Expr}{t:iy}
theorem ae:WA X [] I_:=⟨A_⟩
theorem aa(ha:WE X e ta)(hr:WA X es t)(hs:starEach (e::es) X.env=(false,eval e X.env)::starEach es X.env:=by rfl):WA X (e::es) (Au ta t):=⟨wV (ha:=ha.h) (hr:=hr.h) (hs:=hs)⟩
theorem bZ{x1}(h:WA X es t):WE X (.Tuple es x1 pos) (IW t):=⟨NU (h:=h.h)⟩
theorem bT(h:WA X es t):WE X (.List es pos) (Ja t):=⟨NX (h:=h.h)⟩
theorem bE{r2:fA}(o:PU X r2)(ha:WE X a ta)(hb:WE X b tb)(hs:qI b):WE X (.Subscript a b pos) (Dy r2 ta tb):=⟨Sj (o:=o) (ha:=ha.h) (hb:=hb.h) (hs:=hs)⟩
theorem fF:WO X none pF:=⟨EU⟩
theorem fE(h:WE X e ta):WO X (some e) (An ta):=⟨ET (h:=h.h)⟩
variable {lo hi:Option Expr}{tl th:Hi}{p2:Pos}
theorem fH{r2:D->Option Int->Option Int->Mem->bD->Prop}(o:PM X r2)(he:WE X e ta)(hl:WO X lo tl)(hu:WO X hi th):WE X (.Subscript e (.Slice lo hi none p2) pos) (RT r2 ta tl th):=⟨Fb (o:=o) (he:=he.h) (hl:=hl.h) (hu:=hu.h)⟩
variable {x:Str}{p:Pos}{id T:String}
theorem aO{r2:List D->Mem->bD->Prop}(o:cU X (.builtin id) r2)(hg:Gl X x)(hm:X.mg x=none)(hv:bootBuiltins x=some (.builtin id))(ha:WA X (e::es) t)(hn:x≠"__name__":=by decide)(hdb:(x==("__debug__":Str))=false:=by decide)(he:starEach (e::es) X.env=(false,eval e X.env)::starEach es X.env:=by rfl)(hpl:(backTo pos (starEach es X.env)).any (·.1)=false:=by rfl):WE X (.Call (.Name x p) (e::es) [] pos) (My r2 t):=⟨Fe (o:=o) (hg:=hg) (hm:=hm) (hv:=hv) (ha:=ha.h) (hn:=hn) (hdb:=hdb) (he:=he) (hpl:=hpl)⟩
theorem eN{r2:List D->Mem->bD->Prop}(o:cU X (.type T) r2)(hg:Gl X x)(hm:X.mg x=none)(hv:bootBuiltins x=some (.type T))(ha:WA X (e::es) t)(hn:x≠"__name__":=by decide)(hdb:(x==("__debug__":Str))=false:=by decide)(he:starEach (e::es) X.env=(false,eval e X.env)::starEach es X.env:=by rfl)(hpl:(backTo pos (starEach es X.env)).any (·.1)=false:=by rfl):WE X (.Call (.Name x p) (e::es) [] pos) (My r2 t):=⟨Fd (o:=o) (hg:=hg) (hm:=hm) (hv:=hv) (ha:=ha.h) (hn:=hn) (hdb:=hdb) (he:=he) (hpl:=hpl)⟩
end
section
variable {X:Cx}{o e:Expr}{es:List Expr}{to:bV}{t:iy}{T id:String}{name:Str}{apos bJ:Pos}
theorem zS{r2:D->List D->Mem->bD->Prop}(pa:PlainAttrs T)(slot:Slot T name id)(hty:typeOf (.builtin id)=pure (.type "method_descriptor"))(hm:zI X id r2)(ho:WE X o to)(hbase:attributeBase o name X.env (eval o X.env)=eval o X.env:=by rfl)(hline:(apos.endLine==bJ.line)=true:=by rfl):WE X (.Call (.Attribute o name apos) [] [] bJ) (Jd T r2 to):=⟨N6 (pa:=pa) (slot:=slot) (hty:=hty) (hm:=hm) (ho:=ho.h) (hbase:=hbase) (hline:=hline)⟩
theorem iI{r2:D->List D->Mem->bD->Prop}(pa:PlainAttrs T)(slot:Slot T name id)(hty:typeOf (.builtin id)=pure (.type "method_descriptor"))(hm:zI X id r2)(ho:WE X o to)(ha:WA X (e::es) t)(hbase:attributeBase o name X.env (eval o X.env)=eval o X.env:=by rfl)(hfew:((backTo bJ (starEach (e::es) X.env)).all (λ x=>!x.1)&&(backToKw bJ (keywordEach [] X.env)).all (λ x=>x.1.isSome)
   &&decide ((e::es).length+([]:List Keyword).length+(if([]:List Keyword).isEmpty then 0 else 1) < 30))=true:=by rfl) (hline:(apos.endLine==bJ.line)=true:=by rfl) (hs:starEach (e::es) X.env=(false,eval e X.env)::starEach es X.env:=by rfl) (hplain:(backTo bJ (starEach es X.env)).any (·.1)=false:=by rfl):WE X (.Call (.Attribute o name apos) (e::es) [] bJ) (RV T r2 to t):=⟨Sk (pa:=pa) (slot:=slot) (hty:=hty) (hm:=hm) (ho:=ho.h) (ha:=ha.h) (hbase:=hbase) (hfew:=hfew) (hline:=hline) (hs:=hs) (hplain:=hplain)⟩
end
section
variable {X:Cx}{x:Str}{p pos:Pos}{e:Expr}{es:List Expr}{t:iy}{k j:Nat}{ps:List Str}{sp:eK}
theorem aE(d:bM X.prog X.w X.K X.mg X.base k x ps sp)(hr:cD k X.A)(hg:Gl X x)(ha:WA X (e::es) t)(hdb:(x==("__debug__":Str))=false:=by decide)(he:starEach (e::es) X.env=(false,eval e X.env)::starEach es X.env:=by rfl)(hpl:(backTo pos (starEach es X.env)).any (·.1)=false:=by rfl):WE X (.Call (.Name x p) (e::es) [] pos) (sD sp t):=⟨NZ (d:=d) (hr:=hr) (hg:=hg) (ha:=ha.h) (hdb:=hdb) (he:=he) (hpl:=hpl)⟩
end
section
variable {X:Cx}{st:Stmt}{rest:List Stmt}{t u:jU}{te:bV}{e:Expr}{pos:Pos}
theorem bp:Hh X [] Ao:=⟨ER⟩
theorem aq(h:WS X st t):Hh X [st] t:=⟨EO (h:=h.h)⟩
theorem ag(h1:WS X st t)(h2:Hh X rest u):Hh X (st::rest) (D_ t u):=⟨AX (h1:=h1.h) (h2:=h2.h)⟩
theorem cw(he:WE X e te)(hs:swapsWith e none pos.line X.env=pure false:=by rfl):WS X (.Expr e pos) (Ar te):=⟨ES (he:=he.h) (hs:=hs)⟩
theorem aJ(he:WE X e te):WS X (.Return (some e) pos) (IY te):=⟨JR (he:=he.h)⟩
theorem cp{c:Expr}{a b:List Stmt}{tc:eJ}(hc:WT X c tc)(ha:Hh X a t)(hb:Hh X b u):WS X (.If c a b pos) (Jb tc t u):=⟨NT (hc:=hc.h) (ha:=ha.h) (hb:=hb.h)⟩
theorem bg{i:Nat}{x:Str}(hN:X.N.Nodup)(hi:X.N[i]?=some x)(hx:Loc X.env.scope x)(hf:X.fn x=true\/X.env.scope.names.lookup x=some .local:=by first|exact .inl rfl|exact .inr rfl|assumption):WG X (.Name x pos) (hName i):=⟨E_ (hN:=hN) (hi:=hi) (hx:=hx) (hf:=hf)⟩
theorem fG:Ro X [] vO:=⟨EZ⟩
theorem bK{e:Expr}{es:List Expr}{t:fX}{u:nA}(h1:WG X e t)(h2:Ro X es u)(hs:(assignEach (e::es) X.env).map (·.2)=assign e X.env::(assignEach es X.env).map (·.2):=by rfl):Ro X (e::es) (fm t u):=⟨AZ (h1:=h1.h) (h2:=h2.h) (hs:=hs)⟩
theorem ic{es:List Expr}{k:Nat}{t:nA}{n:Nat}(hc:X.calm=true)(h:Ro X es t)(hn:(assignEach es X.env).length=n:=by rfl)(hst:(assignEach es X.env).findIdx? (·.1)=none:=by rfl):WG X (.Tuple es k pos) (vN n t):=⟨JV (hc:=hc) (h:=h.h) (hn:=hn) (hst:=hst)⟩
theorem eW{o i:Expr}{to ti:bV}{t:jr}(ho:WE X o to)(hi:WE X i ti)(hs:Du X t)(ha:∀v,assign (.Subscript o i pos) X.env v=(do
   let ov <- holding [v] (eval o X.env)
   let iv <- holding [v,ov] (eval i X.env)
   standAt pos
   holding [v,ov,iv] (setItem ov iv v)
   release [v,ov,iv] []):=by intro _;rfl):WG X (.Subscript o i pos) (hSub to ti t):=⟨JW (ho:=ho.h) (hi:=hi.h) (hs:=hs) (ha:=ha)⟩
theorem dy{tg e:Expr}{g:fX}(he:WE X e te)(hg:WG X tg g)(hs:swapsWithSole [tg] e pos.line X.env=pure false:=by rfl)(hw:swappedStores [tg] e X.env=pure none:=by rfl)(h1:(assignEach [tg] X.env).map (·.2)=[assign tg X.env]:=by rfl):WS X (.Assign [tg] e pos) (rL te g):=⟨JT (he:=he.h) (hg:=hg.h) (hs:=hs) (hw:=hw) (h1:=h1)⟩
theorem aF{i:Nat}{x:Str}{e:Expr}{pos':Pos}(hN:X.N.Nodup)(hi:X.N[i]?=some x)(hx:Loc X.env.scope x)(he:WE X e te)(hs:swapsWith e (some (.Name x pos')) pos.line X.env=pure false:=by rfl)(hf:X.fn x=true\/X.env.scope.names.lookup x=some .local:=by first|exact .inl rfl|exact .inr rfl|assumption):WS X (.Assign [.Name x pos'] e pos) (rL te (hName i)):=⟨JQ (hN:=hN) (hi:=hi) (hx:=hx) (he:=he.h) (hs:=hs) (hf:=hf)⟩
end
section
variable {X:Cx}{tg l:Expr}{tl:bV}{ta:iy}{a b:Expr}{p pos:Pos}
theorem cO(hl:WE X l tl):WI X tg l (Ln tl):=⟨JU (hl:=hl.h)⟩
theorem bf(hg:Gl X "range")(hm:X.mg "range"=none)(ha:WA X [a] ta)(hs:starEach [a] X.env=[(false,eval a X.env)]:=by rfl):WI X tg (.Call (.Name "range" p) [a] [] pos) (Cb ta):=⟨yC (hg:=hg) (hm:=hm) (ha:=ha.h) (hs:=hs)⟩
end
section
variable {X:Cx}{tg iter:Expr}{wi:lh}{g:fX}{tb:jU}{body:List Stmt}{pos:Pos}
theorem dQ(hp:PassesOwn (model X.prog X.w) X.A X.env X.xe)(hc:X.calm=true)(hi:WI X tg iter wi)(hg:WG X tg g)(hb:Hh X body tb)(hs:∀x,foldedSetIterable iter X.env x=pure x:=by intro _;rfl):WS X (.For tg iter body [] pos) (Jc wi g tb):=⟨JS (hp:=hp) (hc:=hc) (hi:=hi.h) (hg:=hg.h) (hb:=hb.h) (hs:=hs)⟩
end
section
variable {X:Cx}{c:Expr}{tc:eJ}{tb:jU}{body:List Stmt}{pos:Pos}
theorem iG(hp:PassesOwn (model X.prog X.w) X.A X.env X.xe)(hc:WT X c tc)(hb:Hh X body tb):WS X (.While c body [] pos) (uT tc tb):=⟨AY (hp:=hp) (hc:=hc.h) (hb:=hb.h)⟩
end
section
variable {X:Cx}{scope:Scope}{tgs:List Str}{fr:List Nat}{tg elt iter:Expr}{ifs:List Expr}{pos:Pos}{wi:lh}{g:fX}{tt:eJ}{te:bV}
theorem bq:T5 X [] pC:=⟨EW⟩
theorem lq{c:Expr}{t:eJ}(h:WT X c t):T5 X [c] t:=⟨EV (h:=h.h)⟩
theorem aX{i:Nat}{x:Str}{ps:Pos}(h:∀cl C fp s H,PG (bF X scope cl tgs fr C fp s H) (.Name x ps) (eD i))(hi:i < tgs.length):Mn X scope tgs fr (.Name x ps) (hName i):=⟨DP (h:=h) (hi:=hi)⟩
theorem ff{i j k:Nat}{x y:Str}{px py pt:Pos}(h:∀cl C fp s H,PG (bF X scope cl tgs fr C fp s H) (.Tuple [.Name x px,.Name y py] k pt) (CI X.K 2 (jh (eD i) (jh (eD j) zh))))(hi:i < tgs.length)(hj:j < tgs.length):Mn X scope tgs fr (.Tuple [.Name x px,.Name y py] k pt) (vN 2 (fm (hName i) (fm (hName j) vO))):=⟨DO (h:=h) (hi:=hi) (hj:=hj)⟩
theorem eX(C:eV X scope tgs fr tg iter ifs elt wi g tt te)(hs:∀x,foldedSetIterable iter X.env x=pure x:=by intro _;rfl):WE X (.ListComp elt [⟨tg,iter,ifs,0⟩] scope pos) (rK wi g tt te tgs.length fr):=⟨J9 (C:=C.h) (hs:=hs)⟩
theorem dw{i:Nat}{y:Str}{py rA:Pos}(hN:X.N.Nodup)(hiy:X.N[i]?=some y)(hy:Loc X.env.scope y)(C:eV X scope tgs fr tg iter ifs elt wi g tt te)(hsw:swapsWith (.ListComp elt [⟨tg,iter,ifs,0⟩] scope pos) (some (.Name y py)) rA.line X.env=pure true:=by rfl)(hf:X.fn y=true\/X.env.scope.names.lookup y=some .local:=by first|exact .inl rfl|exact .inr rfl|assumption)(hs:∀x,foldedSetIterable iter X.env x=pure x:=by intro _;rfl):WS X (.Assign [.Name y py] (.ListComp elt [⟨tg,iter,ifs,0⟩] scope pos) rA) (rL (rK wi g tt te tgs.length fr) (hName i)):=⟨vc (hN:=hN) (hiy:=hiy) (hy:=hy) (C:=C.h) (hsw:=hsw) (hf:=hf) (hs:=hs)⟩
variable {x:Str}{p:Pos}{id T:String}{bJ:Pos}
theorem uJ{r2 r3:List D->Mem->bD->Prop}(o:cU X (.builtin id) r2)(h3:kB r2 r3)(hg:Gl X x)(hm:X.mg x=none)(hv:bootBuiltins x=some (.builtin id))(C:eV X scope tgs fr tg iter ifs elt wi g tt te)(hn:x≠"__name__":=by decide)(hdb:(x==("__debug__":Str))=false:=by decide)(hs:∀x,foldedSetIterable iter X.env x=pure x:=by intro _;rfl):WE X (.Call (.Name x p) [.ListComp elt [⟨tg,iter,ifs,0⟩] scope bJ] [] pos) (yx r3 wi g tt te tgs.length fr):=⟨JZ (o:=o) (h3:=h3) (hg:=hg) (hm:=hm) (hv:=hv) (C:=C.h) (hn:=hn) (hdb:=hdb) (hs:=hs)⟩
theorem jA{r2 r3:List D->Mem->bD->Prop}(o:cU X (.type T) r2)(h3:kB r2 r3)(hg:Gl X x)(hm:X.mg x=none)(hv:bootBuiltins x=some (.type T))(C:eV X scope tgs fr tg iter ifs elt wi g tt te)(hn:x≠"__name__":=by decide)(hdb:(x==("__debug__":Str))=false:=by decide)(hs:∀x,foldedSetIterable iter X.env x=pure x:=by intro _;rfl):WE X (.Call (.Name x p) [.ListComp elt [⟨tg,iter,ifs,0⟩] scope bJ] [] pos) (yx r3 wi g tt te tgs.length fr):=⟨JX (o:=o) (h3:=h3) (hg:=hg) (hm:=hm) (hv:=hv) (C:=C.h) (hn:=hn) (hdb:=hdb) (hs:=hs)⟩
variable {o:Expr}{to:bV}{name:Str}{apos:Pos}
theorem IA{r2 r3:D->List D->Mem->bD->Prop}(pa:PlainAttrs T)(slot:Slot T name id)(hty:typeOf (.builtin id)=pure (.type "method_descriptor"))(hm:zI X id r2)(h3:we r2 r3)(ho:WE X o to)(C:eV X scope tgs fr tg iter ifs elt wi g tt te)(hs:∀x,foldedSetIterable iter X.env x=pure x:=by intro _;rfl)(hbase:attributeBase o name X.env (eval o X.env)=eval o X.env:=by rfl)(hfew:((backTo pos (starEach [.ListComp elt [⟨tg,iter,ifs,0⟩] scope bJ] X.env)).all (λ x=>!x.1)&&(backToKw pos (keywordEach [] X.env)).all (λ x=>x.1.isSome)
   &&decide (([.ListComp elt [⟨tg,iter,ifs,0⟩] scope bJ]:List Expr).length+([]:List Keyword).length+(if([]:List Keyword).isEmpty then 0 else 1) < 30))=true:=by rfl) (hline:(apos.endLine==pos.line)=true:=by rfl):WE X (.Call (.Attribute o name apos) [.ListComp elt [⟨tg,iter,ifs,0⟩] scope bJ] [] pos) (Am T r3 to wi g tt te tgs.length fr):=⟨JY (pa:=pa) (slot:=slot) (hty:=hty) (hm:=hm) (h3:=h3) (ho:=ho.h) (C:=C.h) (hs:=hs) (hbase:=hbase) (hfew:=hfew) (hline:=hline)⟩
end
theorem wx{X:Cx}{es:List Expr}{zs:List Str}(h:strsOf es=some zs):WA X es (wH zs):=⟨wU h⟩
end L4
namespace L4
open PySem PySem.Spec L2 L3
section
variable {P:Program}{w:World}{K:PySem.W.Frag}{mg:Str->Option Value}{base:Heap}
theorem jy{x qual:Str}{st:Stmt}{f:Addr}{fd:FuncData}{N ps:List Str}{k:Nat}{sp:eK}(F:gb K x qual st f fd)(S:aK N ps (ay st))(len:∀ds M Q,sp ds M Q->ds.length=ps.length)
  (mW:∀(cT:Value) (A:Around) (outer:List Env) (s:Shared) (H:Hp) (E:XK) (ds:List D) (M:Mem) (Q:bD),cD k (A.deeper (PyProof.Rows.envOfC qual (ay st) s.heap.objs.size f cT))->sp ds M Q->
   ∃t,Hh (tR fc P w K mg base N qual (ay st) f cT A outer s H E).MB (dh st) t/\t {nx:=λ _ M'=>fin2 Q .bj M',rt:=fin2 Q} (jC N ds) M):bS P w K mg base fc (k+1) f fd ps (cA K sp):=
 Vo F S len λ cT A outer s H E ds M Q hr h=>let⟨t,a,b⟩:=mW cT A outer s H E ds M Q hr h;⟨t,a.h,b⟩
end
end L4
namespace L5
open PySem PySem.W PyProof.Rows
section
variable (n:Nat)(lt:Nat->Nat->Bool)
variable {n lt}
def pg(p:Array Nat)(i:Nat):Nat:=p.getD i 0
theorem iT(p:Array Nat)(i:Nat):pg p i=(p[i]?).getD 0:=by
 unfold pg
 rw[Array.getD_eq_getD_getElem?]
def Pm(n:Nat)(p:Array Nat):Prop:=p.Perm (List.toArray (List.range n))
theorem Pm.size {p:Array Nat}(h:Pm n p):p.size=n:=by
 have:=Array.Perm.size_eq h
 simpa using this
theorem Kj{p:Array Nat}{i j:Nat}(hj:j<=p.size)(k:Nat):pg (kas_rev p i j) k=if i<=k/\k < j then pg p (i+j - 1 - k)else pg p k:=by
 rw[iT]
 unfold kas_rev
 rw[getElem?_mirror_all hj k]
 split
 ·rw[iT]
 ·rw[iT]
theorem Kk{p:Array Nat}{k l:Nat}(hk:k < p.size)(hl:l<=k)(j:Nat):pg (bubble p k (k - l)) j=if j=l then pg p k else if l < j/\j<=k then pg p (j - 1)else pg p j:=by
 have e0:k - (k - l)=l:=by omega
 rw[iT,getElem?_bubble hk (k - l) (by omega) j,e0]
 by_cases h1:j=l
 ·rw[J4 h1,J4 h1,iT]
 ·rw[J5 h1,J5 h1]
  by_cases h2:l < j/\j<=k
  ·rw[J4 h2,J4 h2,iT]
  ·rw[J5 h2,J5 h2,iT]
structure Ord(lt:Nat->Nat->Bool):Prop where
 jq:∀a b,lt a b=true->lt b a=false
 tr:∀a b c,lt a b=false->lt b c=false->lt a c=false
abbrev le(lt:Nat->Nat->Bool)(a b:Nat):Prop:=lt b a=false
theorem Ord.refl (O:Ord lt)(a:Nat):le lt a a:=by
 show lt a a=false
 cases e:lt a a with
 |false=>rfl
 |true=>have:=O.jq a a e;rw[e]at this;cases this
theorem Ord.trans (O:Ord lt){a b c:Nat}(h1:le lt a b)(h2:le lt b c):le lt a c:=O.tr c b a h2 h1
def Up(lt:Nat->Nat->Bool)(p:Array Nat)(m:Nat):Prop:=∀i j,i<=j->j < m->le lt (pg p i) (pg p j)
def Ev(lt:Nat->Nat->Bool)(a b:Nat):Prop:=le lt a b/\le lt b a
theorem Ord.Pd (O:Ord lt){a b c:Nat}(h:Ev lt a b)(q:Ev lt b c):Ev lt a c:=⟨O.trans h.1 q.1,O.trans q.2 h.2⟩
theorem Ev.sym {a b:Nat}(h:Ev lt a b):Ev lt b a:=⟨h.2,h.1⟩
end
end L5
namespace L5
open PySem PySem.W PyProof.Rows
def cJ:Bool->Keyed->Array Keyed->Nat->Nat->Nat->StateT SortSt Sem (Option Nat):=sortPriv% PySem.Builtin.gallop
def bC:Nat->StateT SortSt Sem Unit:=sortPriv% PySem.Builtin.setMinGallop
def iZ:Array Keyed->Array Keyed->StateT SortSt Sem (Array Keyed):=sortPriv% PySem.Builtin.mergeLo
def i_:Array Keyed->Array Keyed->StateT SortSt Sem (Array Keyed):=sortPriv% PySem.Builtin.mergeHi
def Mf(left:Bool)(key:Keyed)(arr:Array Keyed)(base i:Nat):StateT SortSt Sem (Option Bool):=do
 let x <- elem' arr (base+i)
 if left then lt' x key else return(<- lt' key x).map (!·)
def LN(left:Bool)(key:Keyed)(arr:Array Keyed)(base n Vr GD:Nat):StateT SortSt Sem (Option Nat):=do
 let mut lo:=Vr
 let mut hi:=GD
 for _ in [0:n] do
  if lo ≥ hi then break
  let m:=lo+(hi - lo) / 2
  let some more <- Mf left key arr base m|return none
  if more then lo:=m+1 else hi:=m
 return some hi
theorem vP(left:Bool)(key:Keyed)(arr:Array Keyed)(base n hint:Nat):cJ left key arr base n hint=(do
 let mut lO:=0
 let mut zD:=1
 let mut lo:=0
 let mut hi:=0
 let some right <- Mf left key arr base hint|return none
 if right then
  let mO:=n - hint
  for _ in [0:n] do
   if zD ≥ mO then break
   let some more <- Mf left key arr base (hint+zD)|return none
   if !more then break
   lO:=zD
   zD:=2*zD+1
  lo:=hint+lO+1
  hi:=hint+min zD mO
 else
  let mO:=hint+1
  for _ in [0:n] do
   if zD ≥ mO then break
   let some found <- Mf left key arr base (hint - zD)|return none
   if found then break
   lO:=zD
   zD:=2*zD+1
  lo:=hint+1 - min zD mO
  hi:=hint - lO
 LN left key arr base n lo hi):=rfl
section
variable {prog:Program}{w:World}{A:Around}{E:Value->Shared->Prop}{s:Shared}
abbrev kb{σ β:Type}(Dn I:β->σ->Prop)(r:ForInStep β)(st:σ):Prop:=match r with
 | .done c=>Dn c st
 | .yield c=>I c st
theorem gL{σ β:Type}{M:Model}{a b:Nat}{f:Nat->β->StateT σ Sem (ForInStep β)}(I:Nat->β->σ->Prop)(Dn:β->σ->Prop){Q:β->σ->Prop}
  (step:∀i c st,a<=i->i < b->I i c st->wpS M A E s (f i c) (kb Dn (I (i+1))) st)
  (fin:∀c st,I (max a b) c st->Dn c st) (k:∀c st,Dn c st->Q c st) {c:β} {st:σ} (h:I a c st):wpS M A E s (forIn [a:b] c f) Q st:=wpS_mono (wpS_forRange I (λ i c st h1 h2 h3=>wpS_mono (step i c st h1 h2 h3) λ r aG h=>by cases r <;> exact h) fin h) k
abbrev G2:=Option (Option Nat)×Nat×Nat
theorem xB{left:Bool}{key:Keyed}{arr:Array Keyed}{base n:Nat}{st:SortSt}{Q:Option Nat->SortSt->Prop}(B:Nat->Bool)(hb:∀i,i < n->∀Q:Option Bool->SortSt->Prop,Q (some (B i)) st->wpS (model prog w) A E s (Mf left key arr base i) Q st)
  (mono:∀i j,i<=j->j < n->B j=true->B i=true)
  (hQ:∀k,k<=n->(∀i,i < k->B i=true)->(∀i,k<=i->i < n->B i=false)->Q (some k) st) (lo hi:Nat) (h1:lo<=hi) (h2:hi<=n) (h3:∀i,i < lo->B i=true) (h4:∀i,hi<=i->i < n->B i=false):wpS (model prog w) A E s (LN left key arr base n lo hi) Q st:=by
 unfold LN
 dsimp only
 refine H0 (gL (λ k (c:G2) aG=>aG=st/\c.1=none/\c.2.1<=c.2.2/\c.2.2<=n/\c.2.2 - c.2.1+k<=n/\(∀i,i < c.2.1->B i=true)/\(∀i,c.2.2<=i->i < n->B i=false)) (λ(c:G2) aG=>aG=st/\c.1=none/\c.2.2<=n/\(∀i,i < c.2.2->B i=true)/\(∀i,c.2.2<=i->i < n->B i=false)) ?_ ?_ ?_ ⟨rfl,rfl,h1,h2,by dsimp only;omega,h3,h4⟩)
 ·rintro k ⟨r,a,b⟩ aG _ hk ⟨rfl,rfl,c1,c2,c3,c4,c5⟩
  dsimp only at c1 c2 c3 c4 c5 ⊢
  by_cases zH:a ≥ b
  ·rw[J4 zH]
   have:a=b:=by omega
   subst this
   exact J0 ⟨rfl,rfl,c2,c4,c5⟩
  ·rw[J5 zH]
   refine H0 (hb _ (by omega) _ ?_)
   dsimp only
   cases e:B (a+(b - a) / 2)with
   |true=>
    rw[J4 rfl]
    exact J0 ⟨rfl,rfl,by dsimp only;omega,c2,by dsimp only;omega,λ i hi=>mono i _ (by dsimp only at hi;omega) (by omega) e,c5⟩
   |false=>
    rw[J5 (by decide)]
    refine J0 ⟨rfl,rfl,by dsimp only;omega,by dsimp only;omega,by dsimp only;omega,c4,λ i hi hn=>?_⟩
    dsimp only at hi
    cases e2:B i with
    |false=>rfl
    |true=>rw[mono _ i hi hn e2]at e;cases e
 ·rintro⟨r,a,b⟩ aG ⟨rfl,rfl,c1,c2,c3,c4,c5⟩
  dsimp only at c1 c2 c3 c4 c5 ⊢
  have:a=b:=by omega
  subst this
  exact⟨rfl,rfl,c2,c4,c5⟩
 ·rintro⟨r,a,b⟩ aG ⟨rfl,rfl,c2,c4,c5⟩
  exact J0 (hQ b c2 c4 c5)
theorem zg{left:Bool}{key:Keyed}{arr:Array Keyed}{base n hint:Nat}{st:SortSt}{Q:Option Nat->SortSt->Prop}(B:Nat->Bool)(hb:∀i,i < n->∀Q:Option Bool->SortSt->Prop,Q (some (B i)) st->wpS (model prog w) A E s (Mf left key arr base i) Q st)
  (mono:∀i j,i<=j->j < n->B j=true->B i=true) (hh:hint < n)
  (hQ:∀k,k<=n->(∀i,i < k->B i=true)->(∀i,k<=i->i < n->B i=false)->Q (some k) st):wpS (model prog w) A E s (cJ left key arr base n hint) Q st:=by
 rw[vP]
 dsimp only
 refine H0 (hb hint hh _ ?_)
 dsimp only
 have PH:∀i j,i<=j->j < n->B i=false->B j=false:=λ i j nH hj e=>by
  cases e2:B j with
  |false=>rfl
  |true=>rw[mono i j nH hj e2]at e;cases e
 cases e0:B hint with
 |true=>
  rw[J4 rfl]
  refine H0 (gL (λ k (c:G2) aG=>aG=st/\c.1=none/\c.2.1 < c.2.2/\k+1<=c.2.2/\hint+c.2.1 < n/\B (hint+c.2.1)=true) (λ(c:G2) aG=>aG=st/\c.1=none/\c.2.1 < c.2.2/\hint+c.2.1 < n/\B (hint+c.2.1)=true/\(c.2.2 ≥ n - hint\/B (hint+c.2.2)=false)) ?_ ?_ ?_ ⟨rfl,rfl,by decide,by decide,hh,e0⟩)
  ·rintro k ⟨r,a,b⟩ aG _ hk ⟨rfl,rfl,c1,c2,c3,c4⟩
   dsimp only at c1 c2 c3 c4 ⊢
   by_cases zH:b ≥ n - hint
   ·rw[J4 zH]
    exact J0 ⟨rfl,rfl,c1,c3,c4,.inl zH⟩
   ·rw[J5 zH]
    refine H0 (hb _ (by omega) _ ?_)
    dsimp only
    cases e:B (hint+b)with
    |true=>
     rw[J5 (by decide)]
     exact J0 ⟨rfl,rfl,by dsimp only;omega,by dsimp only;omega,by dsimp only;omega,e⟩
    |false=>
     rw[J4 (by decide)]
     exact J0 ⟨rfl,rfl,c1,c3,c4,.inr e⟩
  ·rintro⟨r,a,b⟩ aG ⟨rfl,rfl,c1,c2,c3,c4⟩
   dsimp only at c1 c2 c3 c4 ⊢
   exact⟨rfl,rfl,c1,c3,c4,.inl (by omega)⟩
  ·rintro⟨r,a,b⟩ aG ⟨rfl,rfl,c1,c3,c4,c5⟩
   dsimp only at c1 c3 c4 c5 ⊢
   refine xB B hb mono hQ (hint+a+1) (hint+min b (n - hint)) (by omega) (by omega) (λ i hi=>mono i _ (by omega) c3 c4) λ i hi hn=>?_
   rcases c5 with c5|c5
   ·omega
   ·by_cases z:b<=n - hint
    ·rw[Nat.min_eq_left z]at hi
     exact PH _ i hi hn c5
    ·omega
 |false=>
  rw[J5 (by decide)]
  refine H0 (gL (λ k (c:G2) aG=>aG=st/\c.1=none/\c.2.1 < c.2.2/\k+1<=c.2.2/\c.2.1<=hint/\B (hint - c.2.1)=false) (λ(c:G2) aG=>aG=st/\c.1=none/\c.2.1 < c.2.2/\c.2.1<=hint/\B (hint - c.2.1)=false/\(c.2.2 ≥ hint+1\/B (hint - c.2.2)=true)) ?_ ?_ ?_ ⟨rfl,rfl,by decide,by decide,E3 _,e0⟩)
  ·rintro k ⟨r,a,b⟩ aG _ hk ⟨rfl,rfl,c1,c2,c3,c4⟩
   dsimp only at c1 c2 c3 c4 ⊢
   by_cases zH:b ≥ hint+1
   ·rw[J4 zH]
    exact J0 ⟨rfl,rfl,c1,c3,c4,.inl zH⟩
   ·rw[J5 zH]
    refine H0 (hb _ (by omega) _ ?_)
    dsimp only
    cases e:B (hint - b)with
    |true=>
     rw[J4 rfl]
     exact J0 ⟨rfl,rfl,c1,c3,c4,.inr e⟩
    |false=>
     rw[J5 (by decide)]
     exact J0 ⟨rfl,rfl,by dsimp only;omega,by dsimp only;omega,by dsimp only;omega,e⟩
  ·rintro⟨r,a,b⟩ aG ⟨rfl,rfl,c1,c2,c3,c4⟩
   dsimp only at c1 c2 c3 c4 ⊢
   exact⟨rfl,rfl,c1,c3,c4,.inl (by omega)⟩
  ·rintro⟨r,a,b⟩ aG ⟨rfl,rfl,c1,c3,c4,c5⟩
   dsimp only at c1 c3 c4 c5 ⊢
   refine xB B hb mono hQ (hint+1 - min b (hint+1)) (hint - a) (by omega) (by omega) (λ i hi=>?_) λ i hi hn=>PH _ i hi hn c4
   rcases c5 with c5|c5
   ·omega
   ·by_cases z:b<=hint+1
    ·rw[Nat.min_eq_left z]at hi
     exact mono i _ (by omega) (by omega) c5
    ·omega
end
end L5
namespace L5
open PySem PySem.W PyProof.Rows
def ma(it:Nat->Keyed)(l:List Nat):Array Keyed:=(l.map it).toArray
section
variable {it:Nat->Keyed}
theorem cX(l:List Nat):(ma it l).size=l.length:=by simp[ma]
theorem cY(l r:List Nat):ma it l++ma it r=ma it (l++r):=by simp[ma]
theorem dW(l:List Nat)(x:Nat):(ma it l).push (it x)=ma it (l++[x]):=by simp[ma]
theorem BK(x:Nat):(#[it x]:Array Keyed)=ma it [x]:=rfl
theorem jI(l:List Nat)(i j:Nat):(ma it l).extract i j=ma it ((l.drop i).take (j - i)):=by
 simp[ma,extract_eq_take_drop]
theorem i'(l:List Nat)(i:Nat):(ma it l).extract i l.length=ma it (l.drop i):=by
 rw[jI,j7 (by simp)]
theorem lN(l:List Nat)(i k:Nat):(ma it l).extract i (i+k)=ma it ((l.drop i).take k):=by
 rw[jI,Nat.add_sub_cancel_left]
theorem Lb(l:List Nat){i:Nat}(h:i < l.length):(ma it l)[i]?=some (it (l.getD i 0)):=by
 simp[ma,h]
end
section
variable {prog:Program}{w:World}{A:Around}{E:Value->Shared->Prop}{s:Shared}{κ:SortKind}{it:Nat->Keyed}{n:Nat}{lt:Nat->Nat->Bool}
def lW(prog:Program)(w:World)(A:Around)(s:Shared)(κ:SortKind)(it:Nat->Keyed)(n:Nat)(lt:Nat->Nat->Bool):Prop:=∀i j (C:Bool->Shared->Prop),i < n->j < n->C (lt i j) s->wpAny (model prog w) A (keyLt' κ (it i).1 (it j).1) C (λ _ _=>False) s
theorem sI(h:lW prog w A s κ it n lt){st:SortSt}{i j:Nat}(hk:kindOf st=κ)(hi:i < n)(hj:j < n){Q:Option Bool->SortSt->Prop}(q:Q (some (lt i j)) st):wpS (model prog w) A E s (lt' (it i) (it j)) Q st:=by
 rw[lt'_eq]
 refine H0 (wpS_get ?_)
 rw[hk]
 refine H0 (wpS_lift (C3 (G7 (h i j (λ c s'=>s'=s/\c=lt i j) hi hj ⟨rfl,rfl⟩) (λ c s' hc=>?_) λ _ _ hF=>hF.elim)))
 obtain⟨rfl,rfl⟩:=hc
 exact⟨rfl,J0 q⟩
theorem bw{l:List Nat}{i:Nat}{st:SortSt}{Q:Keyed->SortSt->Prop}(h:i < l.length)(q:Q (it (l.getD i 0)) st):wpS (model prog w) A E s (elem' (ma it l) i) Q st:=by
 rw[elem'_eq,Lb l h]
 exact J0 q
def bd(lt:Nat->Nat->Bool)(left:Bool)(k x:Nat):Bool:=if left then lt x k else !lt k x
def qS(n:Nat)(l:List Nat):Prop:=∀i,i < l.length->l.getD i 0 < n
theorem fq(h:lW prog w A s κ it n lt)(O:Ord lt){st:SortSt}(hk:kindOf st=κ){left:Bool}{l:List Nat}(hl:qS n l){k base m hint:Nat}(UJ:k < n)(hm:base+m<=l.length)(hh:hint < m)(up:∀i j,base<=i->i<=j->j < base+m->le lt (l.getD i 0) (l.getD j 0)){Q:Option Nat->SortSt->Prop}
  (q:∀r,r<=m->(∀i,i < r->bd lt left k (l.getD (base+i) 0)=true)->(∀i,r<=i->i < m->bd lt left k (l.getD (base+i) 0)=false)->Q (some r) st):wpS (model prog w) A E s (cJ left (it k) (ma it l) base m hint) Q st:=by
 refine zg (λ i=>bd lt left k (l.getD (base+i) 0)) (λ i hi Q q=>?_) (λ i j nH hj e=>?_) hh q
 ·unfold Mf
  refine H0 (bw (by omega) ?_)
  unfold bd at q
  cases left with
  |true=>
   rw[J4 rfl]at q ⊢
   exact sI h hk (hl _ (by omega)) UJ q
  |false=>
   rw[J5 (by decide)]at q ⊢
   exact H0 (sI h hk UJ (hl _ (by omega)) (J0 q))
 ·have u:=up (base+i) (base+j) (by omega) (by omega) (by omega)
  unfold bd at e ⊢
  cases left with
  |true=>
   rw[J4 rfl]at e ⊢
   cases e2:lt (l.getD (base+i) 0) k with
   |true=>rfl
   |false=>rw[O.tr _ _ _ u e2]at e;cases e
  |false=>
   rw[J5 (by decide)]at e ⊢
   have e1:lt k (l.getD (base+j) 0)=false:=by simpa using e
   rw[O.tr _ _ _ e1 u]
   rfl
end
abbrev S6:=Option (Array Keyed)×Array Keyed×Nat×Nat×Nat×Nat
abbrev S7:=Option (Array Keyed)×Array Keyed×Nat×Nat×Nat×Nat×Nat
def Ox(a b out:Array Keyed)(ia ib mg ac bc:Nat):StateT SortSt Sem (ForInStep S7):=do
 let x <- elem' a ia
 let out:=out.push x
 let ia:=ia+1
 if ia+1==a.size then pure (.done (some (out++b.extract ib b.size++a.extract ia a.size),out,ia,ib,mg,ac,bc))
 else if ac < 7&&bc < 7 then pure (.done (none,out,ia,ib,mg,ac,bc))else pure (.yield (none,out,ia,ib,mg,ac,bc))
def Oy(a b out:Array Keyed)(ia ib mg ac bc:Nat):StateT SortSt Sem (ForInStep S7):=do
 let x <- elem' b ib
 let out:=out.push x
 let ib:=ib+1
 if ib==b.size then pure (.done (some (out++a.extract ia a.size++b.extract ib b.size),out,ia,ib,mg,ac,bc))
 else do
  let y <- elem' a ia
  match <- cJ true y b ib (b.size - ib) 0 with
  |some k=>
   if k > 0 then
    if ib+k==b.size then pure (.done (some (out++b.extract ib (ib+k)++a.extract ia a.size++b.extract (ib+k) b.size),out++b.extract ib (ib+k),ia,ib+k,mg,ac,k))
    else Ox a b (out++b.extract ib (ib+k)) ia (ib+k) mg ac k
   else Ox a b out ia ib mg ac k
  |_=>pure (.done (some (out++a.extract ia a.size++b.extract ib b.size),out,ia,ib,mg,ac,bc))
def MD(a b out:Array Keyed)(ia ib mg ac bc:Nat):StateT SortSt Sem (ForInStep S7):=do
 bC mg
 let x <- elem' b ib
 match <- cJ false x a ia (a.size - ia) 0 with
 |some k=>
  if k > 0 then
   if ia+k+1==a.size then pure (.done (some (out++a.extract ia (ia+k)++b.extract ib b.size++a.extract (ia+k) a.size),out++a.extract ia (ia+k),ia+k,ib,mg,k,bc))
   else if ia+k==a.size then pure (.done (some (out++a.extract ia (ia+k)++a.extract (ia+k) a.size++b.extract ib b.size),out++a.extract ia (ia+k),ia+k,ib,mg,k,bc))
   else Oy a b (out++a.extract ia (ia+k)) (ia+k) ib mg k bc
  else Oy a b out ia ib mg k bc
 |_=>pure (.done (some (out++a.extract ia a.size++b.extract ib b.size),out,ia,ib,mg,ac,bc))
def QQ(a b:Array Keyed)(mg:Nat)(c:S6):StateT SortSt Sem (ForInStep S6):=do
 let x <- elem' b c.2.2.2.1
 let y <- elem' a c.2.2.1
 match <- lt' x y with
 |some Dm=>
  if Dm then do
   let x <- elem' b c.2.2.2.1
   if c.2.2.2.1+1==b.size then pure (.done (some (c.2.1.push x++a.extract c.2.2.1 a.size++b.extract (c.2.2.2.1+1) b.size),c.2.1.push x,c.2.2.1,c.2.2.2.1+1,0,c.2.2.2.2.2+1))
   else if c.2.2.2.2.2+1 ≥ mg then pure (.done (none,c.2.1.push x,c.2.2.1,c.2.2.2.1+1,0,c.2.2.2.2.2+1))
   else pure (.yield (none,c.2.1.push x,c.2.2.1,c.2.2.2.1+1,0,c.2.2.2.2.2+1))
  else do
   let x <- elem' a c.2.2.1
   if c.2.2.1+1+1==a.size then pure (.done (some (c.2.1.push x++b.extract c.2.2.2.1 b.size++a.extract (c.2.2.1+1) a.size),c.2.1.push x,c.2.2.1+1,c.2.2.2.1,c.2.2.2.2.1+1,0))
   else if c.2.2.2.2.1+1 ≥ mg then pure (.done (none,c.2.1.push x,c.2.2.1+1,c.2.2.2.1,c.2.2.2.2.1+1,0))
   else pure (.yield (none,c.2.1.push x,c.2.2.1+1,c.2.2.2.1,c.2.2.2.2.1+1,0))
 |_=>pure (.done (some (c.2.1++a.extract c.2.2.1 a.size++b.extract c.2.2.2.1 b.size),c.2.1,c.2.2.1,c.2.2.2.1,c.2.2.2.2.1,c.2.2.2.2.2))
abbrev S5:=Option (Array Keyed)×Array Keyed×Nat×Nat×Nat
def QR(a b:Array Keyed)(c:S5):StateT SortSt Sem (ForInStep S5):=do
 let d <- forIn [0:a.size+b.size] ((none,c.2.1,c.2.2.1,c.2.2.2.1,0,0):S6) λ _ d=>QQ a b c.2.2.2.2 d
 match d.1 with
 |some r=>pure (.done (some r,d.2.1,d.2.2.1,d.2.2.2.1,c.2.2.2.2))
 |none=>do
  liftM (rule "list.sort.gallop")
  let e <- forIn [0:a.size+b.size] ((none,d.2.1,d.2.2.1,d.2.2.2.1,c.2.2.2.2+1,d.2.2.2.2.1,d.2.2.2.2.2):S7) λ _ e=>
   if e.2.2.2.2.1 > 1 then MD a b e.2.1 e.2.2.1 e.2.2.2.1 (e.2.2.2.2.1 - 1) e.2.2.2.2.2.1 e.2.2.2.2.2.2 else MD a b e.2.1 e.2.2.1 e.2.2.2.1 e.2.2.2.2.1 e.2.2.2.2.2.1 e.2.2.2.2.2.2
  match e.1 with
  |some r=>pure (.done (some r,e.2.1,e.2.2.1,e.2.2.2.1,e.2.2.2.2.1))
  |none=>do
   bC (e.2.2.2.2.1+1)
   pure (.yield (none,e.2.1,e.2.2.1,e.2.2.2.1,e.2.2.2.2.1+1))
theorem fw{α β:Type}{m m':StateT SortSt Sem α}{f f':α->StateT SortSt Sem β}(h:m=m')(k:∀x,f x=f' x):(m >>= f)=m' >>= f':=by subst h;exact G8 k
theorem jP{β:Type}{r:Std.Legacy.Range}{c:β}{f g:Nat->β->StateT SortSt Sem (ForInStep β)}(h:∀x c,f x c=g x c):forIn r c f=forIn r c g:=by rw[show f=g from funext λ x=>funext λ c=>h x c]
theorem sv(a b:Array Keyed):iZ a b=(do
 rule "list.sort.merge-lo"
 let total:=a.size+b.size
 let done (out:Array Keyed) (ia ib:Nat):=out++a.extract ia a.size++b.extract ib b.size
 let lP (out:Array Keyed) (ia ib:Nat):=out++b.extract ib b.size++a.extract ia a.size
 let mut out:Array Keyed:=#[<- elem' b 0]
 let mut ia:=0
 let mut ib:=1
 if ib==b.size then return done out ia ib
 if ia+1==a.size then return lP out ia ib
 let mut minGallop:=gallopOf (<- get)
 for _ in [0:total] do
  let mut dF:=0
  let mut dE:=0
  for _ in [0:total] do
   let some Dm <- lt' (<- elem' b ib) (<- elem' a ia)|return done out ia ib
   if Dm then
    out:=out.push (<- elem' b ib);ib:=ib+1;dE:=dE+1;dF:=0
    if ib==b.size then return done out ia ib
    if dE ≥ minGallop then break
   else
    out:=out.push (<- elem' a ia);ia:=ia+1;dF:=dF+1;dE:=0
    if ia+1==a.size then return lP out ia ib
    if dF ≥ minGallop then break
  rule "list.sort.gallop"
  minGallop:=minGallop+1
  for _ in [0:total] do
   if minGallop > 1 then minGallop:=minGallop - 1
   bC minGallop
   let some k <- cJ false (<- elem' b ib) a ia (a.size - ia) 0|return done out ia ib
   dF:=k
   if k > 0 then
    out:=out++a.extract ia (ia+k);ia:=ia+k
    if ia+1==a.size then return lP out ia ib
    if ia==a.size then return done out ia ib
   out:=out.push (<- elem' b ib);ib:=ib+1
   if ib==b.size then return done out ia ib
   let some k <- cJ true (<- elem' a ia) b ib (b.size - ib) 0|return done out ia ib
   dE:=k
   if k > 0 then
    out:=out++b.extract ib (ib+k);ib:=ib+k
    if ib==b.size then return done out ia ib
   out:=out.push (<- elem' a ia);ia:=ia+1
   if ia+1==a.size then return lP out ia ib
   if dF < 7&&dE < 7 then break
  minGallop:=minGallop+1
  bC minGallop
 unsupported "internal:list.sort.merge-bound"):=rfl
theorem sx(a b:Array Keyed):iZ a b=(do
 liftM (rule "list.sort.merge-lo")
 let x <- elem' b 0
 if 1==b.size then pure (#[x]++a.extract 0 a.size++b.extract 1 b.size)
 else if 0+1==a.size then pure (#[x]++b.extract 1 b.size++a.extract 0 a.size)
 else do
  let st <- get
  let c <- forIn [0:a.size+b.size] ((none,#[x],0,1,gallopOf st):S5) λ _ c=>QR a b c
  match c.1 with
  |some r=>pure r
  |none=>unsupported "internal:list.sort.merge-bound"):=by
 rw[sv]
 dsimp only
 refine G8 λ _=>G8 λ x=>G9 rfl (λ _=>rfl) λ _=>G9 rfl (λ _=>rfl) λ _=>G8 λ st=>?_
 refine fw (jP λ _ c=>?_) λ c=>?_
 ·unfold QR
  refine fw (jP λ _ d=>?_) λ d=>?_
  ·unfold QQ
   refine G8 λ _=>G8 λ _=>G8 λ z=>?_
   cases z <;> rfl
  ·obtain⟨r,d⟩:=d
   cases r with
   |some r=>rfl
   |none=>
    refine G8 λ _=>?_
    refine fw (jP λ _ e=>?_) λ e=>?_
    ·unfold MD Oy Ox
     refine G9 rfl (λ _=>?_) λ _=>?_
     ·refine G8 λ _=>G8 λ _=>G8 λ z=>?_
      cases z with
      |none=>rfl
      |some k=>
       refine G9 rfl (λ _=>G9 rfl (λ _=>rfl) λ _=>G9 rfl (λ _=>rfl) λ _=>?_) λ _=>?_
       ·refine G8 λ _=>G9 rfl (λ _=>rfl) λ _=>G8 λ _=>G8 λ z=>?_
        cases z <;> rfl
       ·refine G8 λ _=>G9 rfl (λ _=>rfl) λ _=>G8 λ _=>G8 λ z=>?_
        cases z <;> rfl
     ·refine G8 λ _=>G8 λ _=>G8 λ z=>?_
      cases z with
      |none=>rfl
      |some k=>
       refine G9 rfl (λ _=>G9 rfl (λ _=>rfl) λ _=>G9 rfl (λ _=>rfl) λ _=>?_) λ _=>?_
       ·refine G8 λ _=>G9 rfl (λ _=>rfl) λ _=>G8 λ _=>G8 λ z=>?_
        cases z <;> rfl
       ·refine G8 λ _=>G9 rfl (λ _=>rfl) λ _=>G8 λ _=>G8 λ z=>?_
        cases z <;> rfl
    ·obtain⟨r,e⟩:=e
     cases r <;> rfl
 ·obtain⟨r,c⟩:=c;cases r <;> rfl
end L5
namespace L5
open PySem PySem.W PyProof.Rows
section
variable {lt:Nat->Nat->Bool}{la lb:List Nat}
def jW(it:Nat->Keyed)(lt:Nat->Nat->Bool)(la lb:List Nat)(r:Array Keyed):Prop:=∃l:List Nat,r=ma it l/\l.Perm (la++lb)/\l.Pairwise (le lt)
structure MI(lt:Nat->Nat->Bool)(la lb lo:List Nat)(ia ib:Nat):Prop where
 perm:(lo++la.drop ia++lb.drop ib).Perm (la++lb)
 up:lo.Pairwise (le lt)
 xa:∀x∈lo,∀y∈la.drop ia,le lt x y
 xb:∀x∈lo,∀y∈lb.drop ib,le lt x y
theorem fQ(l:List Nat)(i k:Nat):l.drop i=(l.drop i).take k++l.drop (i+k):=by
 rw[<- drop_drop,take_append_drop]
theorem MI.as {lo:List Nat}{ia ib:Nat}(h:MI lt la lb lo ia ib)(ua:la.Pairwise (le lt))(k:Nat)(c:∀x∈(la.drop ia).take k,∀y∈lb.drop ib,le lt x y):MI lt la lb (lo++(la.drop ia).take k) (ia+k) ib:=by
 have e:=fQ la ia k
 have ud:=List.Pairwise.drop (i:=ia) ua
 rw[e]at ud
 obtain⟨u1,u2,u3⟩:=l9.mp ud
 refine⟨?_,l9.mpr ⟨h.up,u1,λ x hx y hy=>h.xa x hx y (mem_of_mem_take hy)⟩,λ x hx y hy=>?_,λ x hx y hy=>?_⟩
 ·have p:=h.perm
  rw[e]at p
  simpa[u7]using p
 ·rcases B5.mp hx with hx|hx
  ·exact h.xa x hx y (by rw[e];exact k8 _ hy)
  ·exact u3 x hx y hy
 ·rcases B5.mp hx with hx|hx
  ·exact h.xb x hx y hy
  ·exact c x hx y hy
theorem MI.bs {lo:List Nat}{ia ib:Nat}(h:MI lt la lb lo ia ib)(ub:lb.Pairwise (le lt))(k:Nat)(c:∀x∈(lb.drop ib).take k,∀y∈la.drop ia,le lt x y):MI lt la lb (lo++(lb.drop ib).take k) ia (ib+k):=by
 have e:=fQ lb ib k
 have ud:=List.Pairwise.drop (i:=ib) ub
 rw[e]at ud
 obtain⟨u1,u2,u3⟩:=l9.mp ud
 refine⟨?_,l9.mpr ⟨h.up,u1,λ x hx y hy=>h.xb x hx y (mem_of_mem_take hy)⟩,λ x hx y hy=>?_,λ x hx y hy=>?_⟩
 ·have p:=h.perm
  rw[e]at p
  refine List.Perm.trans ?_ p
  simp only[u7]
  refine List.Perm.append_left lo ?_
  rw[<- u7,<- u7]
  exact List.Perm.append_right _ perm_append_comm
 ·rcases B5.mp hx with hx|hx
  ·exact h.xa x hx y hy
  ·exact c x hx y hy
 ·rcases B5.mp hx with hx|hx
  ·exact h.xb x hx y (by rw[e];exact k8 _ hy)
  ·exact u3 x hx y hy
theorem MI.fin {it:Nat->Keyed}{lo:List Nat}{ia ib:Nat}(h:MI lt la lb lo ia ib)(ua:la.Pairwise (le lt))(ub:lb.Pairwise (le lt))(e:la.drop ia=[]\/lb.drop ib=[]):jW it lt la lb (ma it (lo++la.drop ia++lb.drop ib)):=by
 refine⟨_,rfl,h.perm,?_⟩
 rcases e with e|e
 ·rw[e,A3]
  exact l9.mpr ⟨h.up,List.Pairwise.drop ub,h.xb⟩
 ·rw[e,A3]
  exact l9.mpr ⟨h.up,List.Pairwise.drop ua,h.xa⟩
theorem drop_one(l:List Nat){i:Nat}(h:i < l.length):(l.drop i).take 1=[l.getD i 0]:=by
 rw[i4 h,take_succ_cons,take_zero]
 simp[h]
theorem oS(l:List Nat){i:Nat}(h:i+1=l.length):l.drop i=[l.getD i 0]:=by
 rw[i4 (by omega),j9 (by omega)]
 simp[show i < l.length by omega]
theorem cI{l:List Nat}{i x:Nat}(h:x∈l.drop i):∃j,i<=j/\j < l.length/\x=l.getD j 0:=by
 obtain⟨j,hj,rfl⟩:=m7.mp h
 rw[y6]at hj
 exact⟨i+j,by omega,by omega,by simp[show i+j < l.length by omega]⟩
theorem cW{l:List Nat}{i k x:Nat}(h:x∈(l.drop i).take k):∃j,i<=j/\j < i+k/\j < l.length/\x=l.getD j 0:=by
 obtain⟨j,hj,rfl⟩:=m7.mp h
 rw[A0,y6]at hj
 exact⟨i+j,by omega,by omega,by omega,by simp[show i+j < l.length by omega]⟩
theorem dz{l:List Nat}(O:Ord lt)(u:l.Pairwise (le lt)){i j:Nat}(nH:i<=j)(hj:j < l.length):le lt (l.getD i 0) (l.getD j 0):=by
 rcases Nat.lt_or_ge i j with z|z
 ·have:=pairwise_iff_getElem.mp u i j (by omega) hj z
  simpa[hj,show i < l.length by omega]using this
 ·have:i=j:=by omega
  subst this
  exact O.refl _
theorem MI.last {it:Nat->Keyed}{lo:List Nat}{ia ib:Nat}(h:MI lt la lb lo ia ib)(ub:lb.Pairwise (le lt))(e:ia+1=la.length)(hl:∀y∈lb,le lt y (la.getD (la.length - 1) 0)):jW it lt la lb (ma it (lo++lb.drop ib++la.drop ia)):=by
 refine⟨_,rfl,List.Perm.trans ?_ h.perm,?_⟩
 ·simp only[u7]
  exact List.Perm.append_left lo perm_append_comm
 ·refine l9.mpr ⟨l9.mpr ⟨h.up,List.Pairwise.drop ub,h.xb⟩,?_,λ x hx y hy=>?_⟩
  ·rw[oS la e]
   exact pairwise_singleton _ _
  ·rcases B5.mp hx with hx|hx
   ·exact h.xa x hx y hy
   ·rw[oS la e]at hy
    cases(q9.mp hy)
    have:=hl x (mem_of_mem_drop hx)
    rw[<- e]at this
    exact this
end
section
variable {prog:Program}{w:World}{A:Around}{E:Value->Shared->Prop}{s:Shared}{κ:SortKind}{it:Nat->Keyed}{n:Nat}{lt:Nat->Nat->Bool}
structure zz(n:Nat)(lt:Nat->Nat->Bool)(la lb:List Nat):Prop where
 O:Ord lt
 ba:qS n la
 bb:qS n lb
 ua:la.Pairwise (le lt)
 ub:lb.Pairwise (le lt)
 last:∀y∈lb,le lt y (la.getD (la.length - 1) 0)
 first:∀y∈la,le lt (lb.getD 0 0) y
variable {la lb:List Nat}
def gc(st:SortSt)(g:Nat):SortSt:=SortSt.mk' (kindOf st) (arrOf st) (pendingOf st) g (failedOf st)
theorem wD(st:SortSt)(g h:Nat):gc (gc st g) h=gc st h:=rfl
theorem lC{st:SortSt}{g:Nat}{Q:Unit->SortSt->Prop}(q:Q () (gc st g)):wpS (model prog w) A E s (bC g) Q st:=wpS_modify q
structure nB(lt:Nat->Nat->Bool)(la lb lo:List Nat)(ia ib:Nat):Prop extends MI lt la lb lo ia ib where
 a1:ia+1 < la.length
 b1:ib < lb.length
def D7(it:Nat->Keyed)(lt:Nat->Nat->Bool)(la lb:List Nat)(st:SortSt)(m:Nat)(c:S7)(aG:SortSt):Prop:=(∃g,aG=gc st g)/\((∃r,c.1=some r/\jW it lt la lb r)\/(c.1=none/\∃lo,c.2.1=ma it lo/\nB lt la lb lo c.2.2.1 c.2.2.2.1/\m < c.2.2.1+c.2.2.2.1))
def R7(it:Nat->Keyed)(lt:Nat->Nat->Bool)(la lb:List Nat)(st:SortSt)(m:Nat)(r:ForInStep S7)(aG:SortSt):Prop:=match r with
 | .done c=>D7 it lt la lb st m c aG
 | .yield c=>c.1=none/\D7 it lt la lb st m c aG
theorem BE(T:zz n lt la lb){st:SortSt}{lo:List Nat}{ia ib mg ac bc m:Nat}(L:nB lt la lb lo ia ib)(c:∀y∈lb.drop ib,le lt (la.getD ia 0) y)(hm:m<=ia+ib){g:Nat}:wpS (model prog w) A E s (Ox (ma it la) (ma it lb) (ma it lo) ia ib mg ac bc) (R7 it lt la lb st m) (gc st g):=by
 unfold Ox
 have a1:=L.a1
 refine H0 (bw (by omega) ?_)
 dsimp only
 simp only[dW,cX,i',lN,cY]
 have e:=drop_one la (show ia < la.length by omega)
 have M:=L.toMI.as T.ua 1 (λ x hx y hy=>by rw[e]at hx;cases(q9.mp hx);exact c y hy)
 rw[e]at M
 by_cases z:ia+1+1=la.length
 ·rw[J4 (by simp[z])]
  exact J0 ⟨⟨g,rfl⟩,.inl ⟨_,rfl,M.last T.ub z T.last⟩⟩
 ·rw[J5 (by simp[z])]
  split
  ·exact J0 ⟨⟨g,rfl⟩,.inr ⟨rfl,_,rfl,⟨M,by dsimp only;omega,L.b1⟩,by dsimp only;omega⟩⟩
  ·exact J0 ⟨rfl,⟨g,rfl⟩,.inr ⟨rfl,_,rfl,⟨M,by dsimp only;omega,L.b1⟩,by dsimp only;omega⟩⟩
theorem BF(h:lW prog w A s κ it n lt)(T:zz n lt la lb){st:SortSt}(hk:kindOf st=κ){lo:List Nat}{ia ib mg ac bc m:Nat}(L:nB lt la lb lo ia ib)(c:∀y∈la.drop ia,le lt (lb.getD ib 0) y)(hm:m<=ia+ib){g:Nat}:wpS (model prog w) A E s (Oy (ma it la) (ma it lb) (ma it lo) ia ib mg ac bc) (R7 it lt la lb st m) (gc st g):=by
 unfold Oy
 have a1:=L.a1
 have b1:=L.b1
 refine H0 (bw b1 ?_)
 dsimp only
 simp only[dW,cX,i',lN,cY]
 have e:=drop_one lb b1
 have M:=L.toMI.bs T.ub 1 (λ x hx y hy=>by rw[e]at hx;cases(q9.mp hx);exact c y hy)
 rw[e]at M
 by_cases z:ib+1=lb.length
 ·rw[J4 (by simp[z])]
  exact J0 ⟨⟨g,rfl⟩,.inl ⟨_,rfl,M.fin T.ua T.ub (.inr (j9 (by omega)))⟩⟩
 ·rw[J5 (by simp[z])]
  refine H0 (bw (by omega) (H0 (fq (base:=ib+1) (m:=lb.length - (ib+1)) (hint:=0) (st:=gc st g) h T.O hk T.bb (T.ba ia (by omega)) (by omega) (by omega) (λ i j _ nH hj=>dz T.O T.ub nH (by omega)) λ r hr t1 t2=>?_)))
  have rest:∀y∈lb.drop (ib+1+r),le lt (la.getD ia 0) y:=λ y hy=>by
   obtain⟨j,j1,j2,rfl⟩:=cI hy
   have:=t2 (j - (ib+1)) (by omega) (by omega)
   rw[show ib+1+(j - (ib+1))=j by omega]at this
   simpa[bd]using this
  dsimp only
  by_cases z0:r > 0
  ·rw[J4 z0]
   have M2:=M.bs T.ub r (λ x hx y hy=>by
    obtain⟨j,j1,j2,j3,rfl⟩:=cW hx
    obtain⟨j',i1,i2,rfl⟩:=cI hy
    have q:=t1 (j - (ib+1)) (by omega)
    rw[show ib+1+(j - (ib+1))=j by omega]at q
    have q:lt (lb.getD j 0) (la.getD ia 0)=true:=by simpa[bd]using q
    have u:=dz T.O T.ua i1 i2
    exact T.O.tr _ _ _ u (T.O.jq _ _ q))
   by_cases z1:ib+1+r=lb.length
   ·rw[J4 (by simp[z1])]
    exact J0 ⟨⟨g,rfl⟩,.inl ⟨_,rfl,M2.fin T.ua T.ub (.inr (j9 (by omega)))⟩⟩
   ·rw[J5 (by simp[z1])]
    exact BE T ⟨M2,a1,by omega⟩ rest (by omega)
  ·rw[J5 z0]
   have:r=0:=by omega
   subst this
   exact BE T ⟨M,a1,by omega⟩ rest (by omega)
theorem K7(h:lW prog w A s κ it n lt)(T:zz n lt la lb){st:SortSt}(hk:kindOf st=κ){lo:List Nat}{ia ib mg ac bc m:Nat}(L:nB lt la lb lo ia ib)(hm:m<=ia+ib){g:Nat}:wpS (model prog w) A E s (MD (ma it la) (ma it lb) (ma it lo) ia ib mg ac bc) (R7 it lt la lb st m) (gc st g):=by
 unfold MD
 have a1:=L.a1
 have b1:=L.b1
 refine H0 (lC ?_)
 rw[wD]
 simp only[dW,cX,i',lN,cY]
 refine H0 (bw b1 (H0 (fq (base:=ia) (m:=la.length - ia) (hint:=0) (st:=gc st mg) h T.O hk T.ba (T.bb _ b1) (by omega) (by omega) (λ i j _ nH hj=>dz T.O T.ua nH (by omega)) λ r hr t1 t2=>?_)))
 have rest:∀y∈la.drop (ia+r),le lt (lb.getD ib 0) y:=λ y hy=>by
  obtain⟨j,j1,j2,rfl⟩:=cI hy
  have:=t2 (j - ia) (by omega) (by omega)
  rw[show ia+(j - ia)=j by omega]at this
  have this:lt (lb.getD ib 0) (la.getD j 0)=true:=by simpa[bd]using this
  exact T.O.jq _ _ this
 dsimp only
 by_cases z0:r > 0
 ·rw[J4 z0]
  have M2:=L.toMI.as T.ua r (λ x hx y hy=>by
   obtain⟨j,j1,j2,j3,rfl⟩:=cW hx
   obtain⟨j',i1,i2,rfl⟩:=cI hy
   have q:=t1 (j - ia) (by omega)
   rw[show ia+(j - ia)=j by omega]at q
   have q:lt (lb.getD ib 0) (la.getD j 0)=false:=by simpa[bd]using q
   exact T.O.tr _ _ _ (dz T.O T.ub i1 i2) q)
  by_cases z1:ia+r+1=la.length
  ·rw[J4 (by simp[z1])]
   exact J0 ⟨⟨mg,rfl⟩,.inl ⟨_,rfl,M2.last T.ub z1 T.last⟩⟩
  ·rw[J5 (by simp[z1])]
   by_cases z2:ia+r=la.length
   ·rw[J4 (by simp[z2])]
    exact J0 ⟨⟨mg,rfl⟩,.inl ⟨_,rfl,M2.fin T.ua T.ub (.inl (j9 (by omega)))⟩⟩
   ·rw[J5 (by simp[z2])]
    exact BF h T hk ⟨M2,by omega,b1⟩ rest (by omega)
 ·rw[J5 z0]
  have:r=0:=by omega
  subst this
  exact BF h T hk L rest (by omega)
def D6(it:Nat->Keyed)(lt:Nat->Nat->Bool)(la lb:List Nat)(m:Nat)(c:S6):Prop:=(∃r,c.1=some r/\jW it lt la lb r)\/(c.1=none/\∃lo,c.2.1=ma it lo/\nB lt la lb lo c.2.2.1 c.2.2.2.1/\m<=c.2.2.1+c.2.2.2.1)
theorem K5(h:lW prog w A s κ it n lt)(T:zz n lt la lb){st:SortSt}(hk:kindOf st=κ){lo:List Nat}{ia ib mg ac bc m:Nat}(L:nB lt la lb lo ia ib)(hm:m<=ia+ib):wpS (model prog w) A E s (QQ (ma it la) (ma it lb) mg (none,ma it lo,ia,ib,ac,bc)) (λ r aG=>aG=st/\match r with| .done c=>D6 it lt la lb m c| .yield c=>c.1=none/\D6 it lt la lb (m+1) c) st:=by
 unfold QQ
 have a1:=L.a1
 have b1:=L.b1
 dsimp only
 simp only[cX,i',lN]
 refine H0 (bw b1 (H0 (bw (by omega) (H0 (sI h hk (T.bb _ b1) (T.ba _ (by omega)) ?_)))))
 dsimp only
 cases e:lt (lb.getD ib 0) (la.getD ia 0)with
 |true=>
  rw[J4 rfl]
  have e1:=drop_one lb b1
  have M:=L.toMI.bs T.ub 1 (λ x hx y hy=>by
   rw[e1]at hx
   cases(q9.mp hx)
   obtain⟨j',i1,i2,rfl⟩:=cI hy
   exact T.O.tr _ _ _ (dz T.O T.ua i1 i2) (T.O.jq _ _ e))
  rw[e1]at M
  refine H0 (bw b1 ?_)
  simp only[dW,cY]
  by_cases z:ib+1=lb.length
  ·rw[J4 (by simp[z])]
   exact J0 ⟨rfl,.inl ⟨_,rfl,M.fin T.ua T.ub (.inr (j9 (by omega)))⟩⟩
  ·rw[J5 (by simp[z])]
   split
   ·exact J0 ⟨rfl,.inr ⟨rfl,_,rfl,⟨M,by dsimp only;omega,by dsimp only;omega⟩,by dsimp only;omega⟩⟩
   ·exact J0 ⟨rfl,rfl,.inr ⟨rfl,_,rfl,⟨M,by dsimp only;omega,by dsimp only;omega⟩,by dsimp only;omega⟩⟩
 |false=>
  rw[J5 (by decide)]
  have e1:=drop_one la (show ia < la.length by omega)
  have M:=L.toMI.as T.ua 1 (λ x hx y hy=>by
   rw[e1]at hx
   cases(q9.mp hx)
   obtain⟨j',i1,i2,rfl⟩:=cI hy
   exact T.O.tr _ _ _ (dz T.O T.ub i1 i2) e)
  rw[e1]at M
  refine H0 (bw (by omega) ?_)
  simp only[dW,cY]
  by_cases z:ia+1+1=la.length
  ·rw[J4 (by simp[z])]
   exact J0 ⟨rfl,.inl ⟨_,rfl,M.last T.ub z T.last⟩⟩
  ·rw[J5 (by simp[z])]
   split
   ·exact J0 ⟨rfl,.inr ⟨rfl,_,rfl,⟨M,by dsimp only;omega,by dsimp only;omega⟩,by dsimp only;omega⟩⟩
   ·exact J0 ⟨rfl,rfl,.inr ⟨rfl,_,rfl,⟨M,by dsimp only;omega,by dsimp only;omega⟩,by dsimp only;omega⟩⟩
def D5(it:Nat->Keyed)(lt:Nat->Nat->Bool)(la lb:List Nat)(st:SortSt)(m:Nat)(c:S5)(aG:SortSt):Prop:=(∃g,aG=gc st g)/\((∃r,c.1=some r/\jW it lt la lb r)\/(c.1=none/\∃lo,c.2.1=ma it lo/\nB lt la lb lo c.2.2.1 c.2.2.2.1/\m<=c.2.2.1+c.2.2.2.1))
theorem K6(h:lW prog w A s κ it n lt)(T:zz n lt la lb){st:SortSt}(hk:kindOf st=κ){lo:List Nat}{ia ib mg m:Nat}(L:nB lt la lb lo ia ib)(hm:m<=ia+ib){g:Nat}:wpS (model prog w) A E s (QR (ma it la) (ma it lb) (none,ma it lo,ia,ib,mg)) (λ r aG=>match r with| .done c=>D5 it lt la lb st (m+1) c aG/\c.1≠none| .yield c=>c.1=none/\D5 it lt la lb st (m+1) c aG) (gc st g):=by
 unfold QR
 dsimp only
 simp only[cX]
 refine H0 (gL (λ k (c:S6) aG=>aG=gc st g/\c.1=none/\∃lo,c.2.1=ma it lo/\nB lt la lb lo c.2.2.1 c.2.2.2.1/\k<=c.2.2.1+c.2.2.2.1/\m<=c.2.2.1+c.2.2.2.1) (λ c aG=>aG=gc st g/\D6 it lt la lb m c) ?_ ?_ ?_ ⟨rfl,rfl,lo,rfl,L,E3 _,hm⟩)
 ·rintro k ⟨r,o,i,j,ac,bc⟩ aG _ nG ⟨rfl,rfl,Gf,rfl,L',h1,h2⟩
  dsimp only at L' h1 h2 ⊢
  refine wpS_mono (K5 h T (st:=gc st g) hk (m:=max k m) L' (by omega)) ?_
  rintro(c|c) aG ⟨rfl,d⟩
  ·refine⟨rfl,?_⟩
   rcases d with d|⟨d1,jz,d2,d3,d4⟩
   ·exact .inl d
   ·exact .inr ⟨d1,jz,d2,d3,by omega⟩
  ·obtain⟨d0,d⟩:=d
   rcases d with⟨r,d,_⟩|⟨d1,jz,d2,d3,d4⟩
   ·rw[d0]at d
    cases d
   ·exact⟨rfl,d0,jz,d2,d3,by omega,by omega⟩
 ·rintro⟨r,o,i,j,ac,bc⟩ aG ⟨rfl,rfl,Gf,rfl,L',h1,h2⟩
  have:=L'.a1
  have:=L'.b1
  dsimp only at*
  omega
 ·rintro⟨r,o,i,j,ac,bc⟩ aG ⟨rfl,d⟩
  rcases d with⟨r,e,f⟩|⟨d1,jz,d2,L2,d4⟩
  ·cases e
   exact J0 ⟨⟨⟨g,rfl⟩,.inl ⟨r,rfl,f⟩⟩,by simp⟩
  ·cases d1
   cases d2
   dsimp only at L2 d4 ⊢
   refine H0 (wpS_lift (G5 ⟨rfl,?_⟩))
   refine H0 (gL (λ k (c:S7) aG=>(∃g,aG=gc st g)/\c.1=none/\∃lo,c.2.1=ma it lo/\nB lt la lb lo c.2.2.1 c.2.2.2.1/\k<=c.2.2.1+c.2.2.2.1/\m<=c.2.2.1+c.2.2.2.1/\(0 < k->m < c.2.2.1+c.2.2.2.1)) (λ c aG=>D7 it lt la lb st m c aG) ?_ ?_ ?_ ⟨⟨g,rfl⟩,rfl,jz,rfl,L2,E3 _,d4,λ z=>absurd z (by decide)⟩)
   ·rintro k ⟨r,o,i,j,OC,ac,bc⟩ aG _ nG ⟨⟨g2,rfl⟩,rfl,Gf,rfl,L',h1,h2,h3⟩
    dsimp only at L' h1 h2 h3 ⊢
    have step:∀OB,wpS (model prog w) A E s (MD (ma it la) (ma it lb) (ma it Gf) i j OB ac bc) (kb (λ c aG=>D7 it lt la lb st m c aG) λ c' aG=>(∃g,aG=gc st g)/\c'.1=none/\∃lo,c'.2.1=ma it lo/\nB lt la lb lo c'.2.2.1 c'.2.2.2.1/\k+1<=c'.2.2.1+c'.2.2.2.1/\m<=c'.2.2.1+c'.2.2.2.1/\(0 < k+1->m < c'.2.2.1+c'.2.2.2.1)) (gc st g2):=λ OB=>by
     refine wpS_mono (K7 h T (st:=st) hk (m:=max k m) L' (by omega)) ?_
     rintro(c|c) aG d
     ·obtain⟨d0,d⟩:=d
      refine⟨d0,?_⟩
      rcases d with d|⟨d1,jz,d2,d3,d4⟩
      ·exact .inl d
      ·exact .inr ⟨d1,jz,d2,d3,by omega⟩
     ·obtain⟨dn,d0,d⟩:=d
      rcases d with⟨r,d,_⟩|⟨d1,jz,d2,d3,d4⟩
      ·rw[dn]at d
       cases d
      ·exact⟨d0,dn,jz,d2,d3,by omega,by omega,λ _=>by omega⟩
    split
    ·exact step _
    ·exact step _
   ·rintro⟨r,o,i,j,OC,ac,bc⟩ aG ⟨⟨g2,rfl⟩,rfl,Gf,rfl,L',h1,h2,h3⟩
    have:=L'.a1
    have:=L'.b1
    dsimp only at*
    omega
   ·rintro⟨r,o,i,j,OC,ac,bc⟩ aG ⟨⟨g2,rfl⟩,d⟩
    rcases d with⟨r,e,f⟩|⟨d1,SD,d2,L3,d4⟩
    ·cases e
     exact J0 ⟨⟨⟨g2,rfl⟩,.inl ⟨r,rfl,f⟩⟩,by simp⟩
    ·cases d1
     cases d2
     dsimp only at L3 d4 ⊢
     exact H0 (lC (J0 ⟨rfl,⟨_,rfl⟩,.inr ⟨rfl,SD,rfl,L3,by dsimp only;omega⟩⟩))
theorem vw(h:lW prog w A s κ it n lt)(T:zz n lt la lb){st:SortSt}(hk:kindOf st=κ)(h1:1<=la.length)(h2:1<=lb.length){Q:Array Keyed->SortSt->Prop}(q:∀g r,jW it lt la lb r->Q r (gc st g)):wpS (model prog w) A E s (iZ (ma it la) (ma it lb)) Q st:=by
 rw[sx]
 refine H0 (wpS_lift (G5 ⟨rfl,?_⟩))
 refine H0 (bw (by omega) ?_)
 have e0:st=gc st (gallopOf st):=by cases st;rfl
 have M0:MI lt la lb [] 0 0:=⟨by simp,List.Pairwise.nil,λ x hx=>(by cases hx),λ x hx=>(by cases hx)⟩
 have e1:=drop_one lb (show 0 < lb.length by omega)
 have M:=M0.bs T.ub 1 (λ x hx y hy=>by
  rw[e1]at hx
  cases(q9.mp hx)
  exact T.first y (by simpa using hy))
 rw[e1,A4,Nat.zero_add]at M
 simp only[BK,cX,i',cY]
 by_cases z:1=lb.length
 ·rw[J4 (by simp[<- z])]
  refine J0 ?_
  rw[e0]
  exact q _ _ (M.fin T.ua T.ub (.inr (j9 (by omega))))
 ·rw[J5 (by simp;omega)]
  by_cases z2:0+1=la.length
  ·rw[J4 (by simp[<- z2])]
   refine J0 ?_
   rw[e0]
   exact q _ _ (M.last T.ub z2 T.last)
  ·rw[J5 (by simp;omega)]
   refine H0 (wpS_get ?_)
   refine H0 (gL (λ k (c:S5) aG=>c.1=none/\D5 it lt la lb st k c aG) (λ c aG=>D5 it lt la lb st 0 c aG/\c.1≠none) ?_ ?_ ?_ ⟨rfl,⟨_,e0⟩,.inr ⟨rfl,_,rfl,⟨M,by dsimp only;omega,by dsimp only;omega⟩,E3 _⟩⟩)
   ·rintro k ⟨r,o,i,j,mg⟩ aG _ nG ⟨rfl,⟨g,rfl⟩,d⟩
    rcases d with⟨r,d,_⟩|⟨d1,jz,d2,d3,d4⟩
    ·cases d
    ·cases d2
     dsimp only at d3 d4 ⊢
     refine wpS_mono (K6 h T (st:=st) hk d3 d4) ?_
     rintro(c|c) aG d
     ·obtain⟨⟨g1,d⟩,dn⟩:=d
      refine⟨⟨g1,?_⟩,dn⟩
      rcases d with d|⟨d1,jz,d2,d3,d4⟩
      ·exact .inl d
      ·exact .inr ⟨d1,jz,d2,d3,by omega⟩
     ·exact d
   ·rintro⟨r,o,i,j,mg⟩ aG ⟨rfl,⟨g,rfl⟩,d⟩
    rcases d with⟨r,d,_⟩|⟨d1,jz,d2,d3,d4⟩
    ·cases d
    ·have:=d3.a1
     have:=d3.b1
     dsimp only at*
     omega
   ·rintro⟨r,o,i,j,mg⟩ aG ⟨⟨⟨g,rfl⟩,d⟩,dn⟩
    rcases d with⟨r,d,f⟩|⟨d1,jz,d2,d3,d4⟩
    ·cases d
     exact J0 (q _ _ f)
    ·exact absurd d1 dn
end
end L5
namespace L5
open PySem PySem.W PyProof.Rows
theorem sy(a b:Array Keyed):i_ a b=(do
 rule "list.sort.merge-hi"
 let total:=a.size+b.size
 let done (out:Array Keyed) (na nb:Nat):=a.extract 0 na++b.extract 0 nb++out.reverse
 let jk (out:Array Keyed) (na nb:Nat):=b.extract 0 nb++a.extract 0 na++out.reverse
 let mut na:=a.size - 1
 let mut nb:=b.size
 let mut out:Array Keyed:=#[<- elem' a na]
 if na==0 then return done out na nb
 if nb==1 then return jk out na nb
 let mut minGallop:=gallopOf (<- get)
 for _ in [0:total] do
  let mut dF:=0
  let mut dE:=0
  for _ in [0:total] do
   let some Dt <- lt' (<- elem' b (nb - 1)) (<- elem' a (na - 1))|return done out na nb
   if Dt then
    na:=na - 1;out:=out.push (<- elem' a na);dF:=dF+1;dE:=0
    if na==0 then return done out na nb
    if dF ≥ minGallop then break
   else
    nb:=nb - 1;out:=out.push (<- elem' b nb);dE:=dE+1;dF:=0
    if nb==1 then return jk out na nb
    if dE ≥ minGallop then break
  rule "list.sort.gallop"
  minGallop:=minGallop+1
  for _ in [0:total] do
   if minGallop > 1 then minGallop:=minGallop - 1
   bC minGallop
   let some at_ <- cJ false (<- elem' b (nb - 1)) a 0 na (na - 1)|return done out na nb
   let k:=na - at_
   dF:=k
   if k > 0 then
    out:=out++(a.extract at_ na).reverse;na:=at_
    if na==0 then return done out na nb
   nb:=nb - 1;out:=out.push (<- elem' b nb)
   if nb==1 then return jk out na nb
   let some at_ <- cJ true (<- elem' a (na - 1)) b 0 nb (nb - 1)|return done out na nb
   let k:=nb - at_
   dE:=k
   if k > 0 then
    out:=out++(b.extract at_ nb).reverse;nb:=at_
    if nb==1 then return jk out na nb
    if nb==0 then return done out na nb
   na:=na - 1;out:=out.push (<- elem' a na)
   if na==0 then return done out na nb
   if dF < 7&&dE < 7 then break
  minGallop:=minGallop+1
  bC minGallop
 unsupported "internal:list.sort.merge-bound"):=rfl
abbrev H7:=Option (Array Keyed)×Nat×Nat×Array Keyed×Nat×Nat×Nat
abbrev H6:=Option (Array Keyed)×Nat×Nat×Array Keyed×Nat×Nat
abbrev H5:=Option (Array Keyed)×Nat×Nat×Array Keyed×Nat
def Oz(a b:Array Keyed)(na nb:Nat)(out:Array Keyed)(mg ac bc:Nat):StateT SortSt Sem (ForInStep H7):=do
 let x <- elem' a (na - 1)
 if na - 1==0 then pure (.done (some (a.extract 0 (na - 1)++b.extract 0 nb++(out.push x).reverse),na - 1,nb,out.push x,mg,ac,bc))
 else if ac < 7&&bc < 7 then pure (.done (none,na - 1,nb,out.push x,mg,ac,bc))else pure (.yield (none,na - 1,nb,out.push x,mg,ac,bc))
def OA(a b:Array Keyed)(na nb:Nat)(out:Array Keyed)(mg ac bc:Nat):StateT SortSt Sem (ForInStep H7):=do
 let x <- elem' b (nb - 1)
 if nb - 1==1 then pure (.done (some (b.extract 0 (nb - 1)++a.extract 0 na++(out.push x).reverse),na,nb - 1,out.push x,mg,ac,bc))
 else do
  let y <- elem' a (na - 1)
  match <- cJ true y b 0 (nb - 1) (nb - 1 - 1)with
  |some t=>
   if nb - 1 - t > 0 then
    if t==1 then pure (.done (some (b.extract 0 t++a.extract 0 na++(out.push x++(b.extract t (nb - 1)).reverse).reverse),na,t,out.push x++(b.extract t (nb - 1)).reverse,mg,ac,nb - 1 - t))
    else if t==0 then pure (.done (some (a.extract 0 na++b.extract 0 t++(out.push x++(b.extract t (nb - 1)).reverse).reverse),na,t,out.push x++(b.extract t (nb - 1)).reverse,mg,ac,nb - 1 - t))
    else Oz a b na t (out.push x++(b.extract t (nb - 1)).reverse) mg ac (nb - 1 - t)
   else Oz a b na (nb - 1) (out.push x) mg ac (nb - 1 - t)
  |_=>pure (.done (some (a.extract 0 na++b.extract 0 (nb - 1)++(out.push x).reverse),na,nb - 1,out.push x,mg,ac,bc))
def ME(a b:Array Keyed)(na nb:Nat)(out:Array Keyed)(mg ac bc:Nat):StateT SortSt Sem (ForInStep H7):=do
 bC mg
 let x <- elem' b (nb - 1)
 match <- cJ false x a 0 na (na - 1)with
 |some t=>
  if na - t > 0 then
   if t==0 then pure (.done (some (a.extract 0 t++b.extract 0 nb++(out++(a.extract t na).reverse).reverse),t,nb,out++(a.extract t na).reverse,mg,na - t,bc))
   else OA a b t nb (out++(a.extract t na).reverse) mg (na - t) bc
  else OA a b na nb out mg (na - t) bc
 |_=>pure (.done (some (a.extract 0 na++b.extract 0 nb++out.reverse),na,nb,out,mg,ac,bc))
def QU(a b:Array Keyed)(mg:Nat)(c:H6):StateT SortSt Sem (ForInStep H6):=do
 let x <- elem' b (c.2.2.1 - 1)
 let y <- elem' a (c.2.1 - 1)
 match <- lt' x y with
 |some Dt=>
  if Dt then do
   let x <- elem' a (c.2.1 - 1)
   if c.2.1 - 1==0 then pure (.done (some (a.extract 0 (c.2.1 - 1)++b.extract 0 c.2.2.1++(c.2.2.2.1.push x).reverse),c.2.1 - 1,c.2.2.1,c.2.2.2.1.push x,c.2.2.2.2.1+1,0))
   else if c.2.2.2.2.1+1 ≥ mg then pure (.done (none,c.2.1 - 1,c.2.2.1,c.2.2.2.1.push x,c.2.2.2.2.1+1,0))
   else pure (.yield (none,c.2.1 - 1,c.2.2.1,c.2.2.2.1.push x,c.2.2.2.2.1+1,0))
  else do
   let x <- elem' b (c.2.2.1 - 1)
   if c.2.2.1 - 1==1 then pure (.done (some (b.extract 0 (c.2.2.1 - 1)++a.extract 0 c.2.1++(c.2.2.2.1.push x).reverse),c.2.1,c.2.2.1 - 1,c.2.2.2.1.push x,0,c.2.2.2.2.2+1))
   else if c.2.2.2.2.2+1 ≥ mg then pure (.done (none,c.2.1,c.2.2.1 - 1,c.2.2.2.1.push x,0,c.2.2.2.2.2+1))
   else pure (.yield (none,c.2.1,c.2.2.1 - 1,c.2.2.2.1.push x,0,c.2.2.2.2.2+1))
 |_=>pure (.done (some (a.extract 0 c.2.1++b.extract 0 c.2.2.1++c.2.2.2.1.reverse),c.2.1,c.2.2.1,c.2.2.2.1,c.2.2.2.2.1,c.2.2.2.2.2))
def QV(a b:Array Keyed)(c:H5):StateT SortSt Sem (ForInStep H5):=do
 let d <- forIn [0:a.size+b.size] ((none,c.2.1,c.2.2.1,c.2.2.2.1,0,0):H6) λ _ d=>QU a b c.2.2.2.2 d
 match d.1 with
 |some r=>pure (.done (some r,d.2.1,d.2.2.1,d.2.2.2.1,c.2.2.2.2))
 |none=>do
  liftM (rule "list.sort.gallop")
  let e <- forIn [0:a.size+b.size] ((none,d.2.1,d.2.2.1,d.2.2.2.1,c.2.2.2.2+1,d.2.2.2.2.1,d.2.2.2.2.2):H7) λ _ e=>
   if e.2.2.2.2.1 > 1 then ME a b e.2.1 e.2.2.1 e.2.2.2.1 (e.2.2.2.2.1 - 1) e.2.2.2.2.2.1 e.2.2.2.2.2.2 else ME a b e.2.1 e.2.2.1 e.2.2.2.1 e.2.2.2.2.1 e.2.2.2.2.2.1 e.2.2.2.2.2.2
  match e.1 with
  |some r=>pure (.done (some r,e.2.1,e.2.2.1,e.2.2.2.1,e.2.2.2.2.1))
  |none=>do
   bC (e.2.2.2.2.1+1)
   pure (.yield (none,e.2.1,e.2.2.1,e.2.2.2.1,e.2.2.2.2.1+1))
theorem sA(a b:Array Keyed):i_ a b=(do
 liftM (rule "list.sort.merge-hi")
 let x <- elem' a (a.size - 1)
 if a.size - 1==0 then pure (a.extract 0 (a.size - 1)++b.extract 0 b.size++(#[x]:Array Keyed).reverse)
 else if b.size==1 then pure (b.extract 0 b.size++a.extract 0 (a.size - 1)++(#[x]:Array Keyed).reverse)
 else do
  let st <- get
  let c <- forIn [0:a.size+b.size] ((none,a.size - 1,b.size,#[x],gallopOf st):H5) λ _ c=>QV a b c
  match c.1 with
  |some r=>pure r
  |none=>unsupported "internal:list.sort.merge-bound"):=by
 rw[sy]
 dsimp only
 refine G8 λ _=>G8 λ x=>G9 rfl (λ _=>rfl) λ _=>G9 rfl (λ _=>rfl) λ _=>G8 λ st=>?_
 refine fw (jP λ _ c=>?_) λ c=>?_
 ·unfold QV
  refine fw (jP λ _ d=>?_) λ d=>?_
  ·unfold QU
   refine G8 λ _=>G8 λ _=>G8 λ z=>?_
   cases z <;> rfl
  ·obtain⟨r,d⟩:=d
   cases r with
   |some r=>rfl
   |none=>
    refine G8 λ _=>?_
    refine fw (jP λ _ e=>?_) λ e=>?_
    ·unfold ME OA Oz
     refine G9 rfl (λ _=>?_) λ _=>?_
     ·refine G8 λ _=>G8 λ _=>G8 λ z=>?_
      cases z with
      |none=>rfl
      |some k=>
       refine G9 rfl (λ _=>G9 rfl (λ _=>rfl) λ _=>?_) λ _=>?_
       ·refine G8 λ _=>G9 rfl (λ _=>rfl) λ _=>G8 λ _=>G8 λ z=>?_
        cases z <;> rfl
       ·refine G8 λ _=>G9 rfl (λ _=>rfl) λ _=>G8 λ _=>G8 λ z=>?_
        cases z <;> rfl
     ·refine G8 λ _=>G8 λ _=>G8 λ z=>?_
      cases z with
      |none=>rfl
      |some k=>
       refine G9 rfl (λ _=>G9 rfl (λ _=>rfl) λ _=>?_) λ _=>?_
       ·refine G8 λ _=>G9 rfl (λ _=>rfl) λ _=>G8 λ _=>G8 λ z=>?_
        cases z <;> rfl
       ·refine G8 λ _=>G9 rfl (λ _=>rfl) λ _=>G8 λ _=>G8 λ z=>?_
        cases z <;> rfl
    ·obtain⟨r,e⟩:=e
     cases r <;> rfl
 ·obtain⟨r,c⟩:=c;cases r <;> rfl
end L5
namespace L5
open PySem PySem.W PyProof.Rows
theorem gC{it:Nat->Keyed}(l:List Nat):(ma it l).reverse=ma it l.reverse:=by simp[ma]
theorem ja{it:Nat->Keyed}(l:List Nat)(k:Nat):(ma it l).extract 0 k=ma it (l.take k):=by rw[jI,drop_zero,Nat.sub_zero]
section
variable {lt:Nat->Nat->Bool}{la lb:List Nat}
structure MH(lt:Nat->Nat->Bool)(la lb lo:List Nat)(na nb:Nat):Prop where
 perm:(la.take na++lb.take nb++lo.reverse).Perm (la++lb)
 up:lo.reverse.Pairwise (le lt)
 xa:∀x∈la.take na,∀y∈lo,le lt x y
 xb:∀x∈lb.take nb,∀y∈lo,le lt x y
theorem mn(l:List Nat){t k:Nat}(h:t<=k):l.take k=l.take t++(l.drop t).take (k - t):=by
 rw[show k=t+(k - t) by omega,take_add,Nat.add_sub_cancel_left]
theorem MH.as {lo:List Nat}{na nb t:Nat}(h:MH lt la lb lo na nb)(ua:la.Pairwise (le lt))(ht:t<=na)(c:∀x∈(la.drop t).take (na - t),∀y∈lb.take nb,le lt y x):MH lt la lb (lo++((la.drop t).take (na - t)).reverse) t nb:=by
 have e:=mn la ht
 have ud:=List.Pairwise.take (i:=na) ua
 rw[e]at ud
 obtain⟨u1,u2,u3⟩:=l9.mp ud
 have er:(lo++((la.drop t).take (na - t)).reverse).reverse=(la.drop t).take (na - t)++lo.reverse:=by simp
 refine⟨?_,?_,λ x hx y hy=>?_,λ x hx y hy=>?_⟩
 ·have p:=h.perm
  rw[e]at p
  rw[er]
  refine List.Perm.trans ?_ p
  simp only[u7]
  refine List.Perm.append_left _ ?_
  rw[<- u7,<- u7]
  exact List.Perm.append_right _ perm_append_comm
 ·rw[er]
  exact l9.mpr ⟨u2,h.up,λ x hx y hy=>h.xa x (by rw[e];exact k8 _ hx) y (y7.mp hy)⟩
 ·rcases B5.mp hy with hy|hy
  ·exact h.xa x (by rw[e];exact m6 _ hx) y hy
  ·exact u3 x hx y (y7.mp hy)
 ·rcases B5.mp hy with hy|hy
  ·exact h.xb x hx y hy
  ·exact c y (y7.mp hy) x hx
theorem MH.bs {lo:List Nat}{na nb t:Nat}(h:MH lt la lb lo na nb)(ub:lb.Pairwise (le lt))(ht:t<=nb)(c:∀x∈(lb.drop t).take (nb - t),∀y∈la.take na,le lt y x):MH lt la lb (lo++((lb.drop t).take (nb - t)).reverse) na t:=by
 have e:=mn lb ht
 have ud:=List.Pairwise.take (i:=nb) ub
 rw[e]at ud
 obtain⟨u1,u2,u3⟩:=l9.mp ud
 have er:(lo++((lb.drop t).take (nb - t)).reverse).reverse=(lb.drop t).take (nb - t)++lo.reverse:=by simp
 refine⟨?_,?_,λ x hx y hy=>?_,λ x hx y hy=>?_⟩
 ·have p:=h.perm
  rw[e]at p
  rw[er]
  simpa[u7]using p
 ·rw[er]
  exact l9.mpr ⟨u2,h.up,λ x hx y hy=>h.xb x (by rw[e];exact k8 _ hx) y (y7.mp hy)⟩
 ·rcases B5.mp hy with hy|hy
  ·exact h.xa x hx y hy
  ·exact c y (y7.mp hy) x hx
 ·rcases B5.mp hy with hy|hy
  ·exact h.xb x (by rw[e];exact m6 _ hx) y hy
  ·exact u3 x hx y (y7.mp hy)
theorem MH.fin {it:Nat->Keyed}{lo:List Nat}{na nb:Nat}(h:MH lt la lb lo na nb)(ua:la.Pairwise (le lt))(ub:lb.Pairwise (le lt))(e:na=0\/nb=0):jW it lt la lb (ma it (la.take na++lb.take nb++lo.reverse)):=by
 refine⟨_,rfl,h.perm,?_⟩
 rcases e with rfl|rfl
 ·rw[take_zero,A4]
  exact l9.mpr ⟨List.Pairwise.take ub,h.up,λ x hx y hy=>h.xb x hx y (y7.mp hy)⟩
 ·rw[take_zero,A3]
  exact l9.mpr ⟨List.Pairwise.take ua,h.up,λ x hx y hy=>h.xa x hx y (y7.mp hy)⟩
theorem MH.first {it:Nat->Keyed}{lo:List Nat}{na nb:Nat}(h:MH lt la lb lo na nb)(ua:la.Pairwise (le lt))(e:nb=1)(hl:1<=lb.length)(hf:∀y∈la,le lt (lb.getD 0 0) y):jW it lt la lb (ma it (lb.take nb++la.take na++lo.reverse)):=by
 refine⟨_,rfl,List.Perm.trans ?_ h.perm,?_⟩
 ·exact List.Perm.append_right _ perm_append_comm
 ·subst e
  have e1:lb.take 1=[lb.getD 0 0]:=drop_one lb (i:=0) (by omega)
  refine l9.mpr ⟨l9.mpr ⟨by rw[e1];exact pairwise_singleton _ _,List.Pairwise.take ua,λ x hx y hy=>?_⟩,h.up,λ x hx y hy=>?_⟩
  ·rw[e1]at hx
   cases(q9.mp hx)
   exact hf y (mem_of_mem_take hy)
  ·rcases B5.mp hx with hx|hx
   ·exact h.xb x hx y (y7.mp hy)
   ·exact h.xa x hx y (y7.mp hy)
theorem cH{l:List Nat}{k x:Nat}(h:x∈l.take k):∃j,j < k/\j < l.length/\x=l.getD j 0:=by
 obtain⟨j,hj,rfl⟩:=m7.mp h
 rw[A0]at hj
 exact⟨j,by omega,by omega,by simp[show j < l.length by omega]⟩
theorem fg(l:List Nat){k:Nat}(h:0 < k)(h2:k<=l.length):(l.drop (k - 1)).take (k - (k - 1))=[l.getD (k - 1) 0]:=by
 rw[show k - (k - 1)=1 by omega]
 exact drop_one l (by omega)
end
section
variable {prog:Program}{w:World}{A:Around}{E:Value->Shared->Prop}{s:Shared}{κ:SortKind}{it:Nat->Keyed}{n:Nat}{lt:Nat->Nat->Bool}{la lb:List Nat}
structure gP(lt:Nat->Nat->Bool)(la lb lo:List Nat)(na nb:Nat):Prop extends MH lt la lb lo na nb where
 a1:0 < na
 b1:1 < nb
 a2:na<=la.length
 b2:nb<=lb.length
def E7(it:Nat->Keyed)(lt:Nat->Nat->Bool)(la lb:List Nat)(st:SortSt)(m:Nat)(c:H7)(aG:SortSt):Prop:=(∃g,aG=gc st g)/\((∃r,c.1=some r/\jW it lt la lb r)\/(c.1=none/\∃lo,c.2.2.2.1=ma it lo/\gP lt la lb lo c.2.1 c.2.2.1/\c.2.1+c.2.2.1 < m))
theorem BG(T:zz n lt la lb){st:SortSt}{lo:List Nat}{na nb mg ac bc m:Nat}(L:gP lt la lb lo na nb)(c:∀y∈lb.take nb,le lt y (la.getD (na - 1) 0))(hm:na+nb<=m){g:Nat}:wpS (model prog w) A E s (Oz (ma it la) (ma it lb) na nb (ma it lo) mg ac bc) (kb (E7 it lt la lb st m) λ c aG=>c.1=none/\E7 it lt la lb st m c aG) (gc st g):=by
 unfold Oz
 have a1:=L.a1
 have a2:=L.a2
 refine H0 (bw (by omega) ?_)
 simp only[dW,gC,ja,cY]
 have e:=fg la a1 a2
 have M:=L.toMH.as T.ua (t:=na - 1) (by omega) (λ x hx y hy=>by rw[e]at hx;cases(q9.mp hx);exact c y hy)
 rw[e,j8]at M
 by_cases z:na - 1=0
 ·rw[J4 (by simp[z])]
  exact J0 ⟨⟨g,rfl⟩,.inl ⟨_,rfl,M.fin T.ua T.ub (.inl z)⟩⟩
 ·rw[J5 (by simp[z])]
  split
  ·exact J0 ⟨⟨g,rfl⟩,.inr ⟨rfl,_,rfl,⟨M,by dsimp only;omega,L.b1,by dsimp only;omega,L.b2⟩,by dsimp only;omega⟩⟩
  ·exact J0 ⟨rfl,⟨g,rfl⟩,.inr ⟨rfl,_,rfl,⟨M,by dsimp only;omega,L.b1,by dsimp only;omega,L.b2⟩,by dsimp only;omega⟩⟩
theorem BH(h:lW prog w A s κ it n lt)(T:zz n lt la lb){st:SortSt}(hk:kindOf st=κ){lo:List Nat}{na nb mg ac bc m:Nat}(L:gP lt la lb lo na nb)(c:∀y∈la.take na,le lt y (lb.getD (nb - 1) 0))(hm:na+nb<=m){g:Nat}:wpS (model prog w) A E s (OA (ma it la) (ma it lb) na nb (ma it lo) mg ac bc) (kb (E7 it lt la lb st m) λ c aG=>c.1=none/\E7 it lt la lb st m c aG) (gc st g):=by
 unfold OA
 have a1:=L.a1
 have a2:=L.a2
 have b1:=L.b1
 have b2:=L.b2
 refine H0 (bw (by omega) ?_)
 simp only[dW,gC,ja]
 have e:=fg lb (show 0 < nb by omega) b2
 have M:=L.toMH.bs T.ub (t:=nb - 1) (by omega) (λ x hx y hy=>by rw[e]at hx;cases(q9.mp hx);exact c y hy)
 rw[e,j8]at M
 by_cases z:nb - 1=1
 ·rw[J4 (by simp[z]),cY,cY]
  exact J0 ⟨⟨g,rfl⟩,.inl ⟨_,rfl,M.first T.ua z (by omega) T.first⟩⟩
 ·rw[J5 (by simp[z])]
  refine H0 (bw (by omega) (H0 (fq (base:=0) (m:=nb - 1) (hint:=nb - 1 - 1) (st:=gc st g) h T.O hk T.bb (T.ba (na - 1) (by omega)) (by omega) (by omega) (λ i j _ nH hj=>dz T.O T.ub nH (by omega)) λ r hr t1 t2=>?_)))
  have rest:∀y∈lb.take r,le lt y (la.getD (na - 1) 0):=λ y hy=>by
   obtain⟨j,j1,j2,rfl⟩:=cH hy
   have:=t1 j j1
   rw[Nat.zero_add]at this
   have this:lt (lb.getD j 0) (la.getD (na - 1) 0)=true:=by simpa[bd]using this
   exact T.O.jq _ _ this
  dsimp only
  by_cases z0:nb - 1 - r > 0
  ·rw[J4 z0];simp only[jI,gC,cY]
   have M2:=M.bs T.ub (t:=r) (by omega) (λ x hx y hy=>by
    obtain⟨j,j1,j2,j3,rfl⟩:=cW hx
    obtain⟨j',i1,i2,rfl⟩:=cH hy
    have q:=t2 j (by omega) (by omega)
    rw[Nat.zero_add]at q
    have q:lt (lb.getD j 0) (la.getD (na - 1) 0)=false:=by simpa[bd]using q
    exact T.O.tr _ _ _ q (dz T.O T.ua (show j'<=na - 1 by omega) (by omega)))
   by_cases z1:r=1
   ·rw[J4 (by simp[z1])]
    exact J0 ⟨⟨g,rfl⟩,.inl ⟨_,rfl,M2.first T.ua z1 (by omega) T.first⟩⟩
   ·rw[J5 (by simp[z1])]
    by_cases z2:r=0
    ·rw[J4 (by simp[z2])]
     exact J0 ⟨⟨g,rfl⟩,.inl ⟨_,rfl,M2.fin T.ua T.ub (.inr z2)⟩⟩
    ·rw[J5 (by simp[z2])]
     exact BG T ⟨M2,a1,by omega,a2,by omega⟩ rest (by omega)
  ·rw[J5 z0]
   have:r=nb - 1:=by omega
   subst this
   exact BG T ⟨M,a1,by omega,a2,by omega⟩ rest (by omega)
theorem K'(h:lW prog w A s κ it n lt)(T:zz n lt la lb){st:SortSt}(hk:kindOf st=κ){lo:List Nat}{na nb mg ac bc m:Nat}(L:gP lt la lb lo na nb)(hm:na+nb<=m){g:Nat}:wpS (model prog w) A E s (ME (ma it la) (ma it lb) na nb (ma it lo) mg ac bc) (kb (E7 it lt la lb st m) λ c aG=>c.1=none/\E7 it lt la lb st m c aG) (gc st g):=by
 unfold ME
 have a1:=L.a1
 have a2:=L.a2
 have b1:=L.b1
 have b2:=L.b2
 refine H0 (lC ?_)
 rw[wD]
 simp only[gC,ja]
 refine H0 (bw (by omega) (H0 (fq (base:=0) (m:=na) (hint:=na - 1) (st:=gc st mg) h T.O hk T.ba (T.bb (nb - 1) (by omega)) (by omega) (by omega) (λ i j _ nH hj=>dz T.O T.ua nH (by omega)) λ r hr t1 t2=>?_)))
 have rest:∀y∈la.take r,le lt y (lb.getD (nb - 1) 0):=λ y hy=>by
  obtain⟨j,j1,j2,rfl⟩:=cH hy
  have:=t1 j j1
  rw[Nat.zero_add]at this
  simpa[bd]using this
 dsimp only
 by_cases z0:na - r > 0
 ·rw[J4 z0];simp only[jI,gC,cY]
  have M2:=L.toMH.as T.ua (t:=r) (by omega) (λ x hx y hy=>by
   obtain⟨j,j1,j2,j3,rfl⟩:=cW hx
   obtain⟨j',i1,i2,rfl⟩:=cH hy
   have q:=t2 j (by omega) (by omega)
   rw[Nat.zero_add]at q
   have q:lt (lb.getD (nb - 1) 0) (la.getD j 0)=true:=by simpa[bd]using q
   exact T.O.tr _ _ _ (T.O.jq _ _ q) (dz T.O T.ub (show j'<=nb - 1 by omega) (by omega)))
  by_cases z1:r=0
  ·rw[J4 (by simp[z1])]
   exact J0 ⟨⟨mg,rfl⟩,.inl ⟨_,rfl,M2.fin T.ua T.ub (.inl z1)⟩⟩
  ·rw[J5 (by simp[z1])]
   exact BH h T hk ⟨M2,by omega,b1,by omega,b2⟩ rest (by omega)
 ·rw[J5 z0]
  have:r=na:=by omega
  subst this
  exact BH h T hk L rest (by omega)
end
end L5
namespace L5
open PySem PySem.W PyProof.Rows
section
variable {prog:Program}{w:World}{A:Around}{E:Value->Shared->Prop}{s:Shared}{κ:SortKind}{it:Nat->Keyed}{n:Nat}{lt:Nat->Nat->Bool}{la lb:List Nat}
def E6(it:Nat->Keyed)(lt:Nat->Nat->Bool)(la lb:List Nat)(m:Nat)(c:H6):Prop:=(∃r,c.1=some r/\jW it lt la lb r)\/(c.1=none/\∃lo,c.2.2.2.1=ma it lo/\gP lt la lb lo c.2.1 c.2.2.1/\c.2.1+c.2.2.1 < m)
theorem K9(h:lW prog w A s κ it n lt)(T:zz n lt la lb){st:SortSt}(hk:kindOf st=κ){lo:List Nat}{na nb mg ac bc m:Nat}(L:gP lt la lb lo na nb)(hm:na+nb<=m):wpS (model prog w) A E s (QU (ma it la) (ma it lb) mg (none,na,nb,ma it lo,ac,bc)) (kb (λ c aG=>aG=st/\E6 it lt la lb m c) λ c aG=>aG=st/\c.1=none/\E6 it lt la lb m c) st:=by
 unfold QU
 have a1:=L.a1
 have a2:=L.a2
 have b1:=L.b1
 have b2:=L.b2
 dsimp only
 simp only[ja]
 refine H0 (bw (by omega) (H0 (bw (by omega) (H0 (sI h hk (T.bb _ (by omega)) (T.ba _ (by omega)) ?_)))))
 dsimp only
 cases e:lt (lb.getD (nb - 1) 0) (la.getD (na - 1) 0)with
 |true=>
  rw[J4 rfl]
  have e1:=fg la a1 a2
  have M:=L.toMH.as T.ua (t:=na - 1) (by omega) (λ x hx y hy=>by
   rw[e1]at hx
   cases(q9.mp hx)
   obtain⟨j',i1,i2,rfl⟩:=cH hy
   exact T.O.tr _ _ _ (T.O.jq _ _ e) (dz T.O T.ub (show j'<=nb - 1 by omega) (by omega)))
  rw[e1,j8]at M
  refine H0 (bw (by omega) ?_)
  simp only[dW,gC,cY]
  by_cases z:na - 1=0
  ·rw[J4 (by simp[z])]
   exact J0 ⟨rfl,.inl ⟨_,rfl,M.fin T.ua T.ub (.inl z)⟩⟩
  ·rw[J5 (by simp[z])]
   split
   ·exact J0 ⟨rfl,.inr ⟨rfl,_,rfl,⟨M,by dsimp only;omega,b1,by dsimp only;omega,b2⟩,by dsimp only;omega⟩⟩
   ·exact J0 ⟨rfl,rfl,.inr ⟨rfl,_,rfl,⟨M,by dsimp only;omega,b1,by dsimp only;omega,b2⟩,by dsimp only;omega⟩⟩
 |false=>
  rw[J5 (by decide)]
  have e1:=fg lb (show 0 < nb by omega) b2
  have M:=L.toMH.bs T.ub (t:=nb - 1) (by omega) (λ x hx y hy=>by
   rw[e1]at hx
   cases(q9.mp hx)
   obtain⟨j',i1,i2,rfl⟩:=cH hy
   exact T.O.tr _ _ _ e (dz T.O T.ua (show j'<=na - 1 by omega) (by omega)))
  rw[e1,j8]at M
  refine H0 (bw (by omega) ?_)
  simp only[dW,gC,cY]
  by_cases z:nb - 1=1
  ·rw[J4 (by simp[z])]
   exact J0 ⟨rfl,.inl ⟨_,rfl,M.first T.ua z (by omega) T.first⟩⟩
  ·rw[J5 (by simp[z])]
   split
   ·exact J0 ⟨rfl,.inr ⟨rfl,_,rfl,⟨M,a1,by dsimp only;omega,a2,by dsimp only;omega⟩,by dsimp only;omega⟩⟩
   ·exact J0 ⟨rfl,rfl,.inr ⟨rfl,_,rfl,⟨M,a1,by dsimp only;omega,a2,by dsimp only;omega⟩,by dsimp only;omega⟩⟩
def E5(it:Nat->Keyed)(lt:Nat->Nat->Bool)(la lb:List Nat)(st:SortSt)(m:Nat)(c:H5)(aG:SortSt):Prop:=(∃g,aG=gc st g)/\((∃r,c.1=some r/\jW it lt la lb r)\/(c.1=none/\∃lo,c.2.2.2.1=ma it lo/\gP lt la lb lo c.2.1 c.2.2.1/\c.2.1+c.2.2.1+m<=la.length+lb.length))
theorem K_(h:lW prog w A s κ it n lt)(T:zz n lt la lb){st:SortSt}(hk:kindOf st=κ){lo:List Nat}{na nb mg m:Nat}(L:gP lt la lb lo na nb)(hm:na+nb+m<=la.length+lb.length){g:Nat}:wpS (model prog w) A E s (QV (ma it la) (ma it lb) (none,na,nb,ma it lo,mg)) (kb (λ c aG=>E5 it lt la lb st (m+1) c aG/\c.1≠none) λ c aG=>c.1=none/\E5 it lt la lb st (m+1) c aG) (gc st g):=by
 unfold QV
 dsimp only
 simp only[cX]
 refine H0 (gL (λ k (c:H6) aG=>aG=gc st g/\c.1=none/\∃lo,c.2.2.2.1=ma it lo/\gP lt la lb lo c.2.1 c.2.2.1/\c.2.1+c.2.2.1+k<=la.length+lb.length/\c.2.1+c.2.2.1+m<=la.length+lb.length) (λ c aG=>aG=gc st g/\E6 it lt la lb (la.length+lb.length+1 - m) c) ?_ ?_ ?_ ⟨rfl,rfl,lo,rfl,L,by dsimp only;omega,hm⟩)
 ·rintro k ⟨r,i,j,o,ac,bc⟩ aG _ nG ⟨rfl,rfl,Gf,rfl,L',h1,h2⟩
  dsimp only at L' h1 h2 ⊢
  refine wpS_mono (K9 h T (st:=gc st g) hk (m:=i+j) L' (E1 _)) ?_
  rintro(c|c) aG ⟨rfl,d⟩
  ·refine⟨rfl,?_⟩
   rcases d with d|⟨d1,jz,d2,d3,d4⟩
   ·exact .inl d
   ·exact .inr ⟨d1,jz,d2,d3,by omega⟩
  ·obtain⟨d0,d⟩:=d
   rcases d with⟨r,d,_⟩|⟨d1,jz,d2,d3,d4⟩
   ·rw[d0]at d
    cases d
   ·exact⟨rfl,d0,jz,d2,d3,by omega,by omega⟩
 ·rintro⟨r,i,j,o,ac,bc⟩ aG ⟨rfl,rfl,Gf,rfl,L',h1,h2⟩
  have:=L'.a1
  have:=L'.b1
  dsimp only at*
  omega
 ·rintro⟨r,i,j,o,ac,bc⟩ aG ⟨rfl,d⟩
  rcases d with⟨r,e,f⟩|⟨d1,jz,d2,L2,d4⟩
  ·cases e
   exact J0 ⟨⟨⟨g,rfl⟩,.inl ⟨r,rfl,f⟩⟩,by simp⟩
  ·cases d1
   cases d2
   dsimp only at L2 d4 ⊢
   refine H0 (wpS_lift (G5 ⟨rfl,?_⟩))
   refine H0 (gL (λ k (c:H7) aG=>(∃g,aG=gc st g)/\c.1=none/\∃lo,c.2.2.2.1=ma it lo/\gP lt la lb lo c.2.1 c.2.2.1/\c.2.1+c.2.2.1+k<=la.length+lb.length/\c.2.1+c.2.2.1+m<=la.length+lb.length/\(0 < k->c.2.1+c.2.2.1+m < la.length+lb.length)) (λ c aG=>E7 it lt la lb st (la.length+lb.length - m) c aG) ?_ ?_ ?_ ⟨⟨g,rfl⟩,rfl,jz,rfl,L2,by have:=L2.a2;have:=L2.b2;dsimp only;omega,by have:=L2.a1;dsimp only;omega,λ z=>absurd z (by decide)⟩)
   ·rintro k ⟨r,i,j,o,OC,ac,bc⟩ aG _ nG ⟨⟨g2,rfl⟩,rfl,Gf,rfl,L',h1,h2,h3⟩
    dsimp only at L' h1 h2 h3 ⊢
    have step:∀OB,wpS (model prog w) A E s (ME (ma it la) (ma it lb) i j (ma it Gf) OB ac bc) (kb (λ c aG=>E7 it lt la lb st (la.length+lb.length - m) c aG) λ c' aG=>(∃g,aG=gc st g)/\c'.1=none/\∃lo,c'.2.2.2.1=ma it lo/\gP lt la lb lo c'.2.1 c'.2.2.1/\c'.2.1+c'.2.2.1+(k+1)<=la.length+lb.length/\c'.2.1+c'.2.2.1+m<=la.length+lb.length/\(0 < k+1->c'.2.1+c'.2.2.1+m < la.length+lb.length)) (gc st g2):=λ OB=>by
     refine wpS_mono (K' h T (st:=st) hk (m:=i+j) L' (E1 _)) ?_
     rintro(c|c) aG d
     ·obtain⟨d0,d⟩:=d
      refine⟨d0,?_⟩
      rcases d with d|⟨d1,jz,d2,d3,d4⟩
      ·exact .inl d
      ·exact .inr ⟨d1,jz,d2,d3,by omega⟩
     ·obtain⟨dn,d0,d⟩:=d
      rcases d with⟨r,d,_⟩|⟨d1,jz,d2,d3,d4⟩
      ·rw[dn]at d
       cases d
      ·exact⟨d0,dn,jz,d2,d3,by omega,by omega,λ _=>by omega⟩
    split
    ·exact step _
    ·exact step _
   ·rintro⟨r,i,j,o,OC,ac,bc⟩ aG ⟨⟨g2,rfl⟩,rfl,Gf,rfl,L',h1,h2,h3⟩
    have:=L'.a1
    have:=L'.b1
    dsimp only at*
    omega
   ·rintro⟨r,i,j,o,OC,ac,bc⟩ aG ⟨⟨g2,rfl⟩,d⟩
    rcases d with⟨r,e,f⟩|⟨d1,SD,d2,L3,d4⟩
    ·cases e
     exact J0 ⟨⟨⟨g2,rfl⟩,.inl ⟨r,rfl,f⟩⟩,by simp⟩
    ·cases d1
     cases d2
     dsimp only at L3 d4 ⊢
     exact H0 (lC (J0 ⟨rfl,⟨_,rfl⟩,.inr ⟨rfl,SD,rfl,L3,by dsimp only;omega⟩⟩))
theorem vA(h:lW prog w A s κ it n lt)(T:zz n lt la lb){st:SortSt}(hk:kindOf st=κ)(h1:1<=la.length)(h2:1<=lb.length){Q:Array Keyed->SortSt->Prop}(q:∀g r,jW it lt la lb r->Q r (gc st g)):wpS (model prog w) A E s (i_ (ma it la) (ma it lb)) Q st:=by
 rw[sA]
 refine H0 (wpS_lift (G5 ⟨rfl,?_⟩))
 simp only[cX]
 refine H0 (bw (by omega) ?_)
 have e0:st=gc st (gallopOf st):=by cases st;rfl
 have M0:MH lt la lb [] la.length lb.length:=⟨by simp,List.Pairwise.nil,λ x _ y hy=>(by cases hy),λ x _ y hy=>(by cases hy)⟩
 have e1:=fg la (show 0 < la.length by omega) (E1 _)
 have M:=M0.as T.ua (t:=la.length - 1) (by omega) (λ x hx y hy=>by
  rw[e1]at hx
  cases(q9.mp hx)
  exact T.last y (by simpa using hy))
 rw[e1,j8,A4]at M
 simp only[BK,ja,gC,cY]
 by_cases z:la.length - 1=0
 ·rw[J4 (by simp[z])]
  refine J0 ?_
  rw[e0]
  exact q _ _ (M.fin T.ua T.ub (.inl z))
 ·rw[J5 (by simp[z])]
  by_cases z2:lb.length=1
  ·rw[J4 (by simp[z2])]
   refine J0 ?_
   rw[e0]
   exact q _ _ (M.first T.ua z2 (by omega) T.first)
  ·rw[J5 (by simp[z2])]
   refine H0 (wpS_get ?_)
   refine H0 (gL (λ k (c:H5) aG=>c.1=none/\E5 it lt la lb st k c aG) (λ c aG=>E5 it lt la lb st 0 c aG/\c.1≠none) ?_ ?_ ?_ ⟨rfl,⟨_,e0⟩,.inr ⟨rfl,_,rfl,⟨M,by dsimp only;omega,by dsimp only;omega,by dsimp only;omega,E1 _⟩,by dsimp only;omega⟩⟩)
   ·rintro k ⟨r,i,j,o,mg⟩ aG _ nG ⟨rfl,⟨g,rfl⟩,d⟩
    rcases d with⟨r,d,_⟩|⟨d1,jz,d2,d3,d4⟩
    ·cases d
    ·cases d2
     dsimp only at d3 d4 ⊢
     refine wpS_mono (K_ h T (st:=st) hk d3 d4) ?_
     rintro(c|c) aG d
     ·obtain⟨⟨g1,d⟩,dn⟩:=d
      refine⟨⟨g1,?_⟩,dn⟩
      rcases d with d|⟨d1,jz,d2,d3,d4⟩
      ·exact .inl d
      ·exact absurd d1 dn
     ·exact d
   ·rintro⟨r,i,j,o,mg⟩ aG ⟨rfl,⟨g,rfl⟩,d⟩
    rcases d with⟨r,d,_⟩|⟨d1,jz,d2,d3,d4⟩
    ·cases d
    ·have:=d3.a1
     have:=d3.b1
     dsimp only at*
     omega
   ·rintro⟨r,i,j,o,mg⟩ aG ⟨⟨⟨g,rfl⟩,d⟩,dn⟩
    rcases d with⟨r,d,f⟩|⟨d1,jz,d2,d3,d4⟩
    ·cases d
     exact J0 (q _ _ f)
    ·exact absurd d1 dn
end
end L5
namespace L5
open PySem PySem.W PyProof.Rows
theorem sE(i:Nat):mergeAt' i=(do
 let s <- get
 let(some (sa,na,power),some (sb,nb,_)):=((pendingOf s)[i]?,(pendingOf s)[i+1]?)|unsupported "internal:list.sort.pending"
 set (setPending s (((pendingOf s).setIfInBounds i (sa,na+nb,power)).eraseIdxIfInBounds (i+1)))
 let some k <- cJ false (<- elem' (arrOf s) sb) (arrOf s) sa na 0|return false
 let(sa,na):=(sa+k,na - k)
 if na==0 then return true
 let some nb <- cJ true (<- elem' (arrOf s) (sa+na - 1)) (arrOf s) sb nb (nb - 1)|return false
 if nb==0 then return true
 let x:=(arrOf s).extract sa sb
 let y:=(arrOf s).extract sb (sb+nb)
 let merged <- if na<=nb then iZ x y else i_ x y
 modify λ s=>setArr s (merged.toList.zipIdx.foldl (λ a (p,j)=>a.setIfInBounds (sa+j) p) (arrOf s))
 return(failedOf (<- get)).isNone):=rfl
section
variable {lt:Nat->Nat->Bool}
def nW(lt:Nat->Nat->Bool)(l:List Nat)(a b:Nat):Prop:=∀i j,a<=i->i<=j->j < b->le lt (l.getD i 0) (l.getD j 0)
theorem qZ{α:Type}:∀(m:List α) (b:Nat) (arr:Array α) (k:Nat),(m.zipIdx k).foldl (λ a (p:α×Nat)=>a.setIfInBounds (b+p.2) p.1) arr=(arr.toList.take (b+k)++m++arr.toList.drop (b+k+m.length)).toArray\/arr.size < b+k+m.length
 |[],b,arr,k=>.inl (by simp)
 |x::m,b,arr,k=>by
  rcases Nat.lt_or_ge arr.size (b+k+(x::m).length)with z|z
  ·exact .inr z
  ·left
   rw[x9]at z
   rw[zipIdx_cons,foldl_cons]
   have hs:(arr.setIfInBounds (b+k) x).size=arr.size:=by simp
   rcases qZ m b (arr.setIfInBounds (b+k) x) (k+1)with e|e
   ·rw[e]
    congr 1
    have hl:b+k < arr.toList.length:=by rw[n9];omega
    have e1:(arr.setIfInBounds (b+k) x).toList=arr.toList.take (b+k)++x::arr.toList.drop (b+k+1):=by
     rw[Array.toList_setIfInBounds,set_eq_take_append_cons_drop,J4 hl]
    rw[e1]
    have hlen:(arr.toList.take (b+k)).length=b+k:=by rw[A0];omega
    have t1:(arr.toList.take (b+k)++x::arr.toList.drop (b+k+1)).take (b+(k+1))=arr.toList.take (b+k)++[x]:=by
     rw[take_append,hlen,show b+(k+1) - (b+k)=1 by omega]
     have:(arr.toList.take (b+k)).take (b+(k+1))=arr.toList.take (b+k):=j7 (by rw[hlen];omega)
     rw[this]
     rfl
    have t2:(arr.toList.take (b+k)++x::arr.toList.drop (b+k+1)).drop (b+(k+1)+m.length)=arr.toList.drop (b+k+(m.length+1)):=by
     rw[drop_append,hlen,show b+(k+1)+m.length - (b+k)=m.length+1 by omega]
     have:(arr.toList.take (b+k)).drop (b+(k+1)+m.length)=[]:=j9 (by rw[hlen];omega)
     rw[this,A4,drop_succ_cons,drop_drop,show b+k+1+m.length=b+k+(m.length+1) by omega]
    rw[t1,t2,x9,u7 (arr.toList.take (b+k)) [x] m]
    rfl
   ·rw[hs]at e
    omega
end
end L5
namespace L5
open PySem PySem.W PyProof.Rows
theorem DI{σ:Type}{M:Model}{A:Around}{E:Value->Shared->Prop}{s:Shared}{x:σ}{Q:PUnit->σ->Prop}{st:σ}(h:Q ⟨⟩ x):wpS M A E s (set x:StateT σ Sem PUnit) Q st:=by
 unfold wpS;rw[StateT.run_set];exact G0 ⟨rfl,h⟩
def dM(κ:SortKind)(it:Nat->Keyed)(l:List Nat)(pd:Array (Nat×Nat×Nat))(g:Nat):SortSt:=SortSt.mk' κ (ma it l) pd g none
section
variable {prog:Program}{w:World}{A:Around}{E:Value->Shared->Prop}{s:Shared}{κ:SortKind}{it:Nat->Keyed}{n:Nat}{lt:Nat->Nat->Bool}{l:List Nat}
theorem iN(l:List Nat){b k i:Nat}(h:i < k)(h2:b+i < l.length):((l.drop b).take k).getD i 0=l.getD (b+i) 0:=by
 rw[e9,e9,getElem?_take_of_lt h,getElem?_drop]
theorem lF(l:List Nat){b k:Nat}(h:b+k<=l.length):((l.drop b).take k).length=k:=by
 rw[A0,y6];omega
theorem Ai{b k:Nat}(h:b+k<=l.length)(u:nW lt l b (b+k)):((l.drop b).take k).Pairwise (le lt):=by
 rw[pairwise_iff_getElem]
 intro i j hi hj nH
 rw[lF l h]at hi hj
 have e:∀(q:Nat) (hq:q < ((l.drop b).take k).length),((l.drop b).take k)[q]=l.getD (b+q) 0:=λ q hq=>by
  have h3:q < k:=by rw[lF l h]at hq;exact hq
  rw[<- iN l h3 (by omega),e9,i8 hq]
  rfl
 rw[e,e]
 exact u _ _ (by omega) (by omega) (by omega)
theorem lE{b k x:Nat}(h:x∈(l.drop b).take k):∃j,b<=j/\j < b+k/\j < l.length/\x=l.getD j 0:=cW h
theorem pL(l m:List Nat){c i:Nat}(h:c+m.length<=l.length):(l.take c++m++l.drop (c+m.length)).getD i 0=if i < c then l.getD i 0 else if i < c+m.length then m.getD (i - c) 0 else l.getD i 0:=by
 have hc:(l.take c).length=c:=by rw[A0];omega
 simp only[e9]
 by_cases h1:i < c
 ·rw[J4 h1,u7,g9 (by omega),getElem?_take_of_lt h1]
 ·rw[J5 h1,u7,e7 (by omega),hc]
  by_cases h2:i < c+m.length
  ·rw[J4 h2,g9 (by omega)]
  ·rw[J5 h2,e7 (by omega),getElem?_drop,show c+m.length+(i - c - m.length)=i by omega]
theorem La{c:Nat}{m:List Nat}(h:c+m.length<=l.length):(ma it m).toList.zipIdx.foldl (λ a (p:Keyed×Nat)=>a.setIfInBounds (c+p.2) p.1) (ma it l)=ma it (l.take c++m++l.drop (c+m.length)):=by
 rcases qZ (ma it m).toList c (ma it l) 0 with e|e
 ·rw[e]
  simp[ma,map_take,map_drop]
 ·have z:(ma it m).toList.length=m.length:=by rw[n9,cX]
  rw[cX,z]at e
  omega
structure Mg(lt:Nat->Nat->Bool)(l l':List Nat)(a b:Nat):Prop where
 perm:l'.Perm l
 out:∀i,i < a\/b<=i->l'.getD i 0=l.getD i 0
 up:nW lt l' a b
theorem vB(h:lW prog w A s κ it n lt)(O:Ord lt)(hb:qS n l){pd:Array (Nat×Nat×Nat)}{g i sa na nb pw pw2:Nat}(p1:pd[i]?=some (sa,na,pw))(p2:pd[i+1]?=some (sa+na,nb,pw2))(n1:1<=na)(n2:1<=nb)(hz:sa+na+nb<=l.length)(u1:nW lt l sa (sa+na))(u2:nW lt l (sa+na) (sa+na+nb)){Q:Bool->SortSt->Prop}
  (q:∀l' g',Mg lt l l' sa (sa+na+nb)->Q true (dM κ it l' ((pd.setIfInBounds i (sa,na+nb,pw)).eraseIdxIfInBounds (i+1)) g')):wpS (model prog w) A E s (mergeAt' i) Q (dM κ it l pd g):=by
 rw[sE]
 refine H0 (wpS_get ?_)
 have e1:(pendingOf (dM κ it l pd g))[i]?=some (sa,na,pw):=p1
 have e2:(pendingOf (dM κ it l pd g))[i+1]?=some (sa+na,nb,pw2):=p2
 have ea:arrOf (dM κ it l pd g)=ma it l:=rfl
 simp only[e1,e2,ea]
 refine H0 (DI ?_)
 show wpS _ _ _ _ _ _ (dM κ it l ((pd.setIfInBounds i (sa,na+nb,pw)).eraseIdxIfInBounds (i+1)) g)
 generalize(pd.setIfInBounds i (sa,na+nb,pw)).eraseIdxIfInBounds (i+1)=vj at*
 refine H0 (bw (by omega) (H0 (fq (base:=sa) (m:=na) (hint:=0) (st:=dM κ it l vj g) h O rfl hb (hb _ (by omega)) (by omega) (by omega) u1 λ k hk t1 t2=>?_)))
 dsimp only
 have f1:∀j,sa<=j->j < sa+k->le lt (l.getD j 0) (l.getD (sa+na) 0):=λ j j1 j2=>by
  have:=t1 (j - sa) (by omega)
  rw[show sa+(j - sa)=j by omega]at this
  simpa[bd]using this
 have f2:∀j,sa+k<=j->j < sa+na->lt (l.getD (sa+na) 0) (l.getD j 0)=true:=λ j j1 j2=>by
  have:=t2 (j - sa) (by omega) (by omega)
  rw[show sa+(j - sa)=j by omega]at this
  simpa[bd]using this
 by_cases z:na - k=0
 ·rw[J4 (by simp[z])]
  refine J0 (q l g ⟨List.Perm.refl _,λ _ _=>rfl,λ x y h1 h2 h3=>?_⟩)
  rcases Nat.lt_or_ge y (sa+na)with c|c
  ·exact u1 x y h1 h2 c
  ·rcases Nat.lt_or_ge x (sa+na)with d|d
   ·exact O.tr _ _ _ (u2 (sa+na) y (by omega) c h3) (f1 x h1 (by omega))
   ·exact u2 x y d h2 h3
 ·rw[J5 (by simp[z])]
  have ek:sa+k+(na - k) - 1=sa+na - 1:=by omega
  rw[ek]
  refine H0 (bw (by omega) (H0 (fq (base:=sa+na) (m:=nb) (hint:=nb - 1) (st:=dM κ it l vj g) h O rfl hb (hb _ (by omega)) (by omega) (by omega) u2 λ r hr t3 t4=>?_)))
  dsimp only
  have f3:∀j,sa+na<=j->j < sa+na+r->lt (l.getD j 0) (l.getD (sa+na - 1) 0)=true:=λ j j1 j2=>by
   have:=t3 (j - (sa+na)) (by omega)
   rw[show sa+na+(j - (sa+na))=j by omega]at this
   simpa[bd]using this
  have f4:∀j,sa+na+r<=j->j < sa+na+nb->le lt (l.getD (sa+na - 1) 0) (l.getD j 0):=λ j j1 j2=>by
   have:=t4 (j - (sa+na)) (by omega) (by omega)
   rw[show sa+na+(j - (sa+na))=j by omega]at this
   simpa[bd]using this
  by_cases z2:r=0
  ·rw[J4 (by simp[z2])]
   refine J0 (q l g ⟨List.Perm.refl _,λ _ _=>rfl,λ x y h1 h2 h3=>?_⟩)
   rcases Nat.lt_or_ge y (sa+na)with c|c
   ·exact u1 x y h1 h2 c
   ·rcases Nat.lt_or_ge x (sa+na)with d|d
    ·exact O.tr _ _ _ (f4 y (by omega) h3) (u1 x (sa+na - 1) h1 (by omega) (by omega))
    ·exact u2 x y d h2 h3
  ·rw[J5 (by simp[z2])]
   simp only[jI]
   rw[show sa+na - (sa+k)=na - k by omega,show sa+na+r - (sa+na)=r by omega]
   have lA:=lF l (b:=sa+k) (k:=na - k) (by omega)
   have lB:=lF l (b:=sa+na) (k:=r) (by omega)
   have T:zz n lt ((l.drop (sa+k)).take (na - k)) ((l.drop (sa+na)).take r):=by
    refine⟨O,λ i hi=>?_,λ i hi=>?_,Ai (by omega) λ x y h1 h2 h3=>u1 x y (by omega) h2 (by omega),Ai (by omega) λ x y h1 h2 h3=>u2 x y h1 h2 (by omega),λ y hy=>?_,λ y hy=>?_⟩
    ·rw[lA]at hi
     rw[iN l hi (by omega)]
     exact hb _ (by omega)
    ·rw[lB]at hi
     rw[iN l hi (by omega)]
     exact hb _ (by omega)
    ·obtain⟨j,j1,j2,j3,rfl⟩:=lE hy
     rw[lA,iN l (by omega) (by omega),show sa+k+(na - k - 1)=sa+na - 1 by omega]
     exact O.jq _ _ (f3 j j1 j2)
    ·obtain⟨j,j1,j2,j3,rfl⟩:=lE hy
     rw[iN l (by omega) (by omega),Nat.add_zero]
     exact O.jq _ _ (f2 j j1 (by omega))
   have tail:∀(x:Array Keyed) g',jW it lt ((l.drop (sa+k)).take (na - k)) ((l.drop (sa+na)).take r) x->wpS (model prog w) A E s (do
     modify λ s=>setArr s (x.toList.zipIdx.foldl (λ a (p,j)=>a.setIfInBounds (sa+k+j) p) (arrOf s))
     return(failedOf (<- get)).isNone) Q (dM κ it l vj g'):=?tl
   ·split
    ·exact H0 (vw h T rfl (by omega) (by omega) λ g' x f=>tail x g' f)
    ·exact H0 (vA h T rfl (by omega) (by omega) λ g' x f=>tail x g' f)
   rintro x g' ⟨m,rfl,pm,um⟩
   have lm:m.length=na - k+r:=by rw[pm.length_eq,p5,lA,lB]
   refine H0 (wpS_modify (H0 (wpS_get (J0 ?_))))
   show Q true (SortSt.mk' κ ((ma it m).toList.zipIdx.foldl (λ a (p:Keyed×Nat)=>a.setIfInBounds (sa+k+p.2) p.1) (ma it l)) vj g' none)
   rw[La (by omega)]
   have gm:∀i,i < m.length->∃j,((sa+k<=j/\j < sa+na)\/(sa+na<=j/\j < sa+na+r))/\m.getD i 0=l.getD j 0:=λ i hi=>by
    have hm:m.getD i 0∈m:=by
     rw[e9,i8 hi]
     exact A1 hi
    rcases B5.mp (pm.mem_iff.mp hm)with z|z
    ·obtain⟨j,j1,j2,j3,e⟩:=lE z
     exact⟨j,.inl ⟨j1,by omega⟩,e⟩
    ·obtain⟨j,j1,j2,j3,e⟩:=lE z
     exact⟨j,.inr ⟨j1,by omega⟩,e⟩
   refine q _ g' ⟨?_,λ i hi=>?_,λ x y h1 h2 h3=>?_⟩
   ·have s1:=take_append_drop (sa+k) l
    have s2:=fQ l (sa+k) (na - k)
    have s3:=fQ l (sa+na) r
    rw[show sa+k+(na - k)=sa+na by omega]at s2
    have e:l=l.take (sa+k)++(((l.drop (sa+k)).take (na - k)++(l.drop (sa+na)).take r)++l.drop (sa+na+r)):=by
     rw[u7 ((l.drop (sa+k)).take (na - k)),<- s3,<- s2,s1]
    rw[lm,show sa+k+(na - k+r)=sa+na+r by omega,u7]
    refine List.Perm.trans ?_ (List.Perm.of_eq e.symm)
    exact List.Perm.append_left _ (List.Perm.append_right _ pm)
   ·rw[pL l m (by omega)]
    rw[lm]
    by_cases c1:i < sa+k
    ·rw[J4 c1]
    ·rw[J5 c1,J5 (by omega)]
   ·rw[pL l m (by omega),pL l m (by omega),lm]
    by_cases c1:y < sa+k
    ·rw[J4 c1,J4 (by omega)]
     exact u1 x y h1 h2 (by omega)
    ·rw[J5 c1]
     by_cases c2:y < sa+k+(na - k+r)
     ·rw[J4 c2]
      by_cases d1:x < sa+k
      ·rw[J4 d1]
       obtain⟨j,hj,e⟩:=gm (y - (sa+k)) (by omega)
       rw[e]
       rcases hj with hj|hj
       ·exact u1 x j h1 (by omega) hj.2
       ·exact O.tr _ _ _ (u2 (sa+na) j (by omega) hj.1 (by omega)) (f1 x h1 d1)
      ·rw[J5 d1,J4 (by omega)]
       exact dz O um (by omega) (by omega)
     ·rw[J5 c2]
      by_cases d1:x < sa+k
      ·rw[J4 d1]
       exact O.tr _ _ _ (u2 (sa+na) y (by omega) (by omega) h3) (f1 x h1 d1)
      ·rw[J5 d1]
       by_cases d2:x < sa+k+(na - k+r)
       ·rw[J4 d2]
        obtain⟨j,hj,e⟩:=gm (x - (sa+k)) (by omega)
        rw[e]
        rcases hj with hj|hj
        ·exact O.tr _ _ _ (f4 y (by omega) h3) (u1 j (sa+na - 1) (by omega) (by omega) (by omega))
        ·exact u2 j y hj.1 (by omega) h3
       ·rw[J5 d2]
        exact u2 x y (by omega) h2 h3
end
end L5
namespace L5
open PySem PySem.W PyProof.Rows
section
variable {it:Nat->Keyed}{lt:Nat->Nat->Bool}
def kR(l:List Nat)(i j:Nat):List Nat:=(kas_rev l.toArray i j).toList
def zw(l:List Nat)(k t:Nat):List Nat:=(bubble l.toArray k (k - t)).toList
theorem dU(p:Array Nat)(i:Nat):p.toList.getD i 0=pg p i:=by
 rw[iT,e9,l6]
theorem eu(l:List Nat){i j:Nat}(hj:j<=l.length)(k:Nat):(kR l i j).getD k 0=if i<=k/\k < j then l.getD (i+j - 1 - k) 0 else l.getD k 0:=by
 unfold kR
 rw[dU,Kj (by simpa using hj),<- dU,<- dU]
theorem nv(l:List Nat){k t:Nat}(hk:k < l.length)(ht:t<=k)(j:Nat):(zw l k t).getD j 0=if j=t then l.getD k 0 else if t < j/\j<=k then l.getD (j - 1) 0 else l.getD j 0:=by
 unfold zw
 rw[dU,Kk (by simpa using hk) ht,<- dU,<- dU,<- dU]
theorem fj(l:List Nat)(i j:Nat):(kR l i j).Perm l:=by
 have:=Array.Perm.toList (mirror_perm l.toArray i j ((j - i) / 2))
 simpa[kR,kas_rev]using this
theorem zv(l:List Nat)(k t:Nat):(zw l k t).Perm l:=by
 have:=Array.Perm.toList (bubble_perm l.toArray k (k - t))
 simpa[zw]using this
theorem jJ(l:List Nat):ma it l=l.toArray.map it:=by simp[ma]
theorem qS.perm {n:Nat}{l l':List Nat}(h:qS n l)(p:l'.Perm l):qS n l':=λ i hi=>by
 have hm:l'.getD i 0∈l':=by
  rw[e9,i8 hi]
  exact A1 hi
 obtain⟨j,hj,e⟩:=m7.mp (p.mem_iff.mp hm)
 have:=h j hj
 rw[e9,i8 hj]at this
 rw[<- e]
 exact this
variable {prog:Program}{w:World}{A:Around}{E:Value->Shared->Prop}{s:Shared}{κ:SortKind}{n:Nat}{l:List Nat}{pd:Array (Nat×Nat×Nat)}{g:Nat}
theorem pG{i j:Nat}{Q:Unit->SortSt->Prop}(q:Q () (dM κ it (kR l i j) pd g)):wpS (model prog w) A E s (reverseSlice' i j) Q (dM κ it l pd g):=by
 rw[reverseSlice'_eq]
 refine wpS_modify ?_
 have e:mirror (ma it l) i j ((j - i) / 2)=ma it (kR l i j):=by
  rw[jJ,jJ]
  have:=kas_swaps_map it (λ k=>i+k) (λ k=>j - 1 - k) (List.range ((j - i) / 2)) l.toArray
  exact this
 show Q () (SortSt.mk' κ (mirror (ma it l) i j ((j - i) / 2)) pd g none)
 rw[e]
 exact q
theorem Mh{k t:Nat}{Q:Unit->SortSt->Prop}(q:Q () (dM κ it (zw l k t) pd g)):wpS (model prog w) A E s (moveDown' k t) Q (dM κ it l pd g):=by
 rw[moveDown'_eq]
 refine wpS_modify ?_
 have e:bubble (ma it l) k (k - t)=ma it (zw l k t):=by
  rw[jJ,jJ]
  have:=kas_swaps_map it (λ i=>k - i) (λ i=>k - i - 1) (List.range (k - t)) l.toArray
  exact this
 show Q () (SortSt.mk' κ (bubble (ma it l) k (k - t)) pd g none)
 rw[e]
 exact q
theorem gR(h:lW prog w A s κ it n lt)(hb:qS n l){i j:Nat}(hi:i < l.length)(hj:j < l.length){Q:Option Bool->SortSt->Prop}(q:Q (some (lt (l.getD i 0) (l.getD j 0))) (dM κ it l pd g)):wpS (model prog w) A E s (ltAt' i j) Q (dM κ it l pd g):=by
 rw[ltAt'_eq]
 refine H0 (wpS_get ?_)
 show wpS _ _ _ _ (do let x <- elem' (ma it l) i;let y <- elem' (ma it l) j;lt' x y) Q _
 exact H0 (bw hi (H0 (bw hj (sI h rfl (hb _ hi) (hb _ hj) q))))
end
end L5
namespace L5
open PySem PySem.W PyProof.Rows
section
variable {it:Nat->Keyed}{lt:Nat->Nat->Bool}{prog:Program}{w:World}{A:Around}{E:Value->Shared->Prop}{s:Shared}{κ:SortKind}{n:Nat}{l:List Nat}{pd:Array (Nat×Nat×Nat)}{g:Nat}
theorem Mj(h:lW prog w A s κ it n lt)(O:Ord lt)(hb:qS n l){lo m ok:Nat}(hm:lo+m<=l.length)(bN:ok<=m)(h1:1<=m)(u:nW lt l lo (lo+ok)){Q:Bool->SortSt->Prop}(q:∀l',Mg lt l l' lo (lo+m)->Q true (dM κ it l' pd g)):wpS (model prog w) A E s (binarySort' lo m ok) Q (dM κ it l pd g):=by
 rw[binarySort'_eq]
 refine H0 (gL (λ k (c:Option Bool×Unit) aG=>c.1=none/\∃l',Mg lt l l' lo (lo+k)/\aG=dM κ it l' pd g) (λ c aG=>c.1=none/\∃l',Mg lt l l' lo (lo+m)/\aG=dM κ it l' pd g) ?_ ?_ ?_ ⟨rfl,l,⟨List.Perm.refl _,λ _ _=>rfl,λ x y a b c=>?_⟩,rfl⟩)
 ·rintro k ⟨c,⟨⟩⟩ aG XX MK ⟨rfl,l',M,rfl⟩
  have oN:=hb.perm M.perm
  have sY:=M.perm.length_eq
  dsimp only
  refine H0 (gL (λ j (c:Option Bool×Nat×Nat) aG=>aG=dM κ it l' pd g/\c.1=none/\c.2.1<=c.2.2/\c.2.2<=k/\c.2.2 - c.2.1+j<=k/\(∀i,i < c.2.1->le lt (l'.getD (lo+i) 0) (l'.getD (lo+k) 0))/\(∀i,c.2.2<=i->i < k->lt (l'.getD (lo+k) 0) (l'.getD (lo+i) 0)=true))
   (λ c aG=>aG=dM κ it l' pd g/\c.1=none/\c.2.1<=k/\(∀i,i < c.2.1->le lt (l'.getD (lo+i) 0) (l'.getD (lo+k) 0))/\(∀i,c.2.1<=i->i < k->lt (l'.getD (lo+k) 0) (l'.getD (lo+i) 0)=true)) ?_ ?_ ?_ ⟨rfl,rfl,E3 _,E1 _,by dsimp only;omega,λ i hi=>(by dsimp only at hi;omega),λ i hi V7=>(by dsimp only at hi;omega)⟩)
  ·rintro j ⟨r,a,b⟩ aG _ hj ⟨rfl,rfl,c1,c2,c3,c4,c5⟩
   dsimp only at c1 c2 c3 c4 c5 ⊢
   by_cases z:a ≥ b
   ·rw[J4 z]
    have:a=b:=by omega
    subst this
    exact J0 ⟨rfl,rfl,c2,c4,c5⟩
   ·rw[J5 z]
    refine H0 (gR h oN (by omega) (by omega) ?_)
    dsimp only
    cases e:lt (l'.getD (lo+k) 0) (l'.getD (lo+(a+b) / 2) 0)with
    |true=>
     rw[J4 rfl]
     refine J0 ⟨rfl,rfl,by dsimp only;omega,by dsimp only;omega,by dsimp only;omega,c4,λ i hi V7=>?_⟩
     dsimp only at hi
     cases e2:lt (l'.getD (lo+k) 0) (l'.getD (lo+i) 0)with
     |true=>rfl
     |false=>
      have:=O.tr _ _ _ e2 (M.up (lo+(a+b) / 2) (lo+i) (by omega) (by omega) (by omega))
      rw[this]at e
      cases e
    |false=>
     rw[J5 (by decide)]
     refine J0 ⟨rfl,rfl,by dsimp only;omega,c2,by dsimp only;omega,λ i hi=>?_,c5⟩
     dsimp only at hi
     exact O.tr _ _ _ e (M.up (lo+i) (lo+(a+b) / 2) (by omega) (by omega) (by omega))
  ·rintro⟨r,a,b⟩ aG ⟨rfl,rfl,c1,c2,c3,c4,c5⟩
   dsimp only at c1 c2 c3 c4 c5 ⊢
   have:a=b:=by omega
   subst this
   exact⟨rfl,rfl,c2,c4,c5⟩
  ·rintro⟨r,a,b⟩ aG ⟨rfl,rfl,c2,c4,c5⟩
   dsimp only at c2 c4 c5 ⊢
   refine H0 (Mh (J0 ⟨rfl,_,⟨(zv _ _ _).trans M.perm,λ i hi=>?_,λ x y x1 x2 x3=>?_⟩,rfl⟩))
   ·rw[nv l' (by omega) (by omega),J5 (by omega),J5 (by omega)]
    exact M.out i (by omega)
   ·rw[nv l' (by omega) (by omega),nv l' (by omega) (by omega)]
    by_cases y1:y=lo+a
    ·rw[J4 y1]
     by_cases y2:x=lo+a
     ·rw[J4 y2]
      exact O.refl _
     ·rw[J5 y2,J5 (by omega)]
      have:=c4 (x - lo) (by omega)
      rw[show lo+(x - lo)=x by omega]at this
      exact this
    ·rw[J5 y1]
     by_cases y2:lo+a < y/\y<=lo+k
     ·rw[J4 y2]
      by_cases y3:x=lo+a
      ·rw[J4 y3]
       have:=c5 (y - 1 - lo) (by omega) (by omega)
       rw[show lo+(y - 1 - lo)=y - 1 by omega]at this
       exact O.jq _ _ this
      ·rw[J5 y3]
       by_cases y4:lo+a < x/\x<=lo+k
       ·rw[J4 y4]
        exact M.up _ _ (by omega) (by omega) (by omega)
       ·rw[J5 y4]
        exact M.up _ _ (by omega) (by omega) (by omega)
     ·rw[J5 y2,J5 (by omega),J5 (by omega)]
      exact M.up _ _ x1 x2 (by omega)
 ·rintro⟨c,⟨⟩⟩ aG ⟨rfl,l',M,rfl⟩
  rw[show max (max ok 1) m=m by omega]at M
  exact⟨rfl,l',M,rfl⟩
 ·rintro⟨c,⟨⟩⟩ aG ⟨rfl,l',M,rfl⟩
  exact J0 (q l' M)
 ·by_cases z:ok=0
  ·subst z
   have:x=y:=by omega
   subst this
   exact O.refl _
  ·exact u x y a b (by omega)
end
end L5
namespace L5
open PySem PySem.W PyProof.Rows
def Dq(lo a bI:Nat):StateT SortSt Sem AscSt:=
 forIn [a:bI] ((none,a):AscSt) λ _ c=>do
  match <- ltAt' (lo+c.2) (lo+c.2 - 1)with
  |some pq=>if pq=true then pure (ForInStep.done (none,c.2))else pure (ForInStep.yield (none,c.2+1))
  |_=>pure (ForInStep.done (some none,c.2))
def Mw(lo n bI:Nat):StateT SortSt Sem (Option Nat):=do
 reverseSlice' lo (lo+n)
 let c <- Dq lo n bI
 match c.1 with
 |some r=>pure r
 |none=>pure (some c.2)
def GS(lo n bI:Nat):StateT SortSt Sem DescSt:=
 forIn [n:bI] ((none,n,0):DescSt) λ _ c=>do
  match <- ltAt' (lo+c.2.1) (lo+c.2.1 - 1)with
  |some pq=>
   if pq=true then
    if c.2.2 > 0 then do
     reverseSlice' (lo+c.2.1 - (c.2.2+1)) (lo+c.2.1)
     pure (ForInStep.yield (none,c.2.1+1,0))
    else pure (ForInStep.yield (none,c.2.1+1,0))
   else do
    match <- ltAt' (lo+c.2.1 - 1) (lo+c.2.1)with
    |some Lg=>
     if Lg=true then pure (ForInStep.done (none,c.2.1,c.2.2))
     else pure (ForInStep.yield (none,c.2.1+1,c.2.2+1))
    |_=>pure (ForInStep.done (some none,c.2.1,c.2.2))
  |_=>pure (ForInStep.done (some none,c.2.1,c.2.2))
def LV(lo n bI:Nat):StateT SortSt Sem (Option Nat):=do
 liftM (rule "list.sort.descending-run")
 let c <- GS lo (n+1) bI
 match c.1 with
 |some r=>pure r
 |none=>
  if c.2.2 > 0 then do
   reverseSlice' (lo+c.2.1 - (c.2.2+1)) (lo+c.2.1)
   Mw lo c.2.1 bI
  else Mw lo c.2.1 bI
theorem zq(lo bI:Nat):countRun' lo bI=(do
  let c <- Dq lo 1 bI
  match c.1 with
  |some r=>pure r
  |none=>
   if(c.2==bI)=true then pure (some c.2)
   else if c.2 > 1 then do
    match <- ltAt' lo (lo+c.2 - 1)with
    |some Nr=>if Nr=true then pure (some c.2)else do
      reverseSlice' lo (lo+c.2)
      LV lo c.2 bI
    |_=>pure none
   else LV lo c.2 bI):=by
 have dp:∀m,LV lo m bI=(do
   liftM (rule "list.sort.descending-run")
   let c <- GS lo (m+1) bI
   match c.1 with
   |some r=>pure r
   |none=>
    if c.2.2 > 0 then do
     reverseSlice' (lo+c.2.1 - (c.2.2+1)) (lo+c.2.1)
     Mw lo c.2.1 bI
    else Mw lo c.2.1 bI):=λ m=>rfl
 rw[countRun'_eq]
 dsimp only
 refine fw (jP λ _ c=>G8 λ z=>by cases z <;> rfl) λ c=>?_
 obtain⟨r,m⟩:=c
 cases r with
 |some r=>rfl
 |none=>
  have jp:∀(X:StateT SortSt Sem (Option Nat)),X=LV lo m bI->X=LV lo m bI:=λ _ h=>h
  have body:∀{P:StateT SortSt Sem (Option Nat)},P=P:=rfl
  refine G9 rfl (λ _=>rfl) λ _=>G9 rfl (λ _=>?_) λ _=>?_
  ·refine G8 λ z=>?_
   cases z with
   |none=>rfl
   |some Nr=>
    refine G9 rfl (λ _=>rfl) λ _=>G8 λ _=>?_
    rw[dp]
    refine G8 λ _=>fw (jP λ _ c=>G8 λ z=>?_) λ c=>?_
    ·cases z with
     |none=>rfl
     |some b=>
      refine G9 rfl (λ _=>rfl) λ _=>G8 λ z=>by cases z <;> rfl
    ·obtain⟨r,x,y⟩:=c
     cases r with
     |some r=>rfl
     |none=>
      refine G9 rfl (λ _=>G8 λ _=>G8 λ _=>fw (jP λ _ c=>G8 λ z=>by cases z <;> rfl) λ c=>?_) λ _=>G8 λ _=>fw (jP λ _ c=>G8 λ z=>by cases z <;> rfl) λ c=>?_
      ·obtain⟨r,x⟩:=c;cases r <;> rfl
      ·obtain⟨r,x⟩:=c;cases r <;> rfl
  ·rw[dp]
   refine G8 λ _=>fw (jP λ _ c=>G8 λ z=>?_) λ c=>?_
   ·cases z with
    |none=>rfl
    |some b=>
     refine G9 rfl (λ _=>rfl) λ _=>G8 λ z=>by cases z <;> rfl
   ·obtain⟨r,x,y⟩:=c
    cases r with
    |some r=>rfl
    |none=>
     refine G9 rfl (λ _=>G8 λ _=>G8 λ _=>fw (jP λ _ c=>G8 λ z=>by cases z <;> rfl) λ c=>?_) λ _=>G8 λ _=>fw (jP λ _ c=>G8 λ z=>by cases z <;> rfl) λ c=>?_
     ·obtain⟨r,x⟩:=c;cases r <;> rfl
     ·obtain⟨r,x⟩:=c;cases r <;> rfl
end L5
namespace L5
open PySem PySem.W PyProof.Rows
section
variable {it:Nat->Keyed}{lt:Nat->Nat->Bool}{prog:Program}{w:World}{A:Around}{E:Value->Shared->Prop}{s:Shared}{κ:SortKind}{n:Nat}{l:List Nat}{pd:Array (Nat×Nat×Nat)}{g:Nat}
theorem nW.next (O:Ord lt){lo m:Nat}(u:nW lt l lo (lo+m))(hm:1<=m)(q:le lt (l.getD (lo+m - 1) 0) (l.getD (lo+m) 0)):nW lt l lo (lo+(m+1)):=λ i j a b c=>by
 by_cases e:j=lo+m
 ·subst e
  by_cases e2:i=lo+m
  ·subst e2;exact O.refl _
  ·exact O.trans (u i (lo+m - 1) a (by omega) (by omega)) q
 ·exact u i j a b (by omega)
def Iv(lt:Nat->Nat->Bool)(l:List Nat)(a b:Nat):Prop:=∀i j,a<=i->i<=j->j < b->le lt (l.getD j 0) (l.getD i 0)
theorem Iv.next (O:Ord lt){lo m:Nat}(u:Iv lt l lo (lo+m))(hm:1<=m)(q:le lt (l.getD (lo+m) 0) (l.getD (lo+m - 1) 0)):Iv lt l lo (lo+(m+1)):=λ i j a b c=>by
 by_cases e:j=lo+m
 ·subst e
  by_cases e2:i=lo+m
  ·subst e2;exact O.refl _
  ·exact O.trans q (u i (lo+m - 1) a (by omega) (by omega))
 ·exact u i j a b (by omega)
theorem Ml(h:lW prog w A s κ it n lt)(O:Ord lt)(hb:qS n l){lo a bI:Nat}(hz:lo+bI<=l.length)(h1:1<=a)(ha:a<=bI)(u:nW lt l lo (lo+a)){Q:AscSt->SortSt->Prop}(q:∀m,a<=m->m<=bI->nW lt l lo (lo+m)->Q (none,m) (dM κ it l pd g)):wpS (model prog w) A E s (Dq lo a bI) Q (dM κ it l pd g):=by
 unfold Dq
 refine gL (λ i (c:AscSt) aG=>aG=dM κ it l pd g/\c.1=none/\c.2=i/\nW lt l lo (lo+c.2)) (λ c aG=>aG=dM κ it l pd g/\c.1=none/\a<=c.2/\c.2<=bI/\nW lt l lo (lo+c.2)) ?_ ?_ ?_ ⟨rfl,rfl,rfl,u⟩
 ·rintro i ⟨r,m⟩ aG i1 i2 ⟨rfl,rfl,e,u'⟩
  dsimp only at e u' ⊢
  subst e
  refine H0 (gR h hb (by omega) (by omega) ?_)
  dsimp only
  cases e:lt (l.getD (lo+m) 0) (l.getD (lo+m - 1) 0)with
  |true=>
   rw[J4 rfl]
   exact J0 ⟨rfl,rfl,i1,by dsimp only;omega,u'⟩
  |false=>
   rw[J5 (by decide)]
   exact J0 ⟨rfl,rfl,rfl,u'.next O (by omega) e⟩
 ·rintro⟨r,m⟩ aG ⟨rfl,rfl,e,u'⟩
  dsimp only at e u'
  exact⟨rfl,rfl,by dsimp only;omega,by dsimp only;omega,u'⟩
 ·rintro⟨r,m⟩ aG ⟨rfl,rfl,m1,m2,u'⟩
  exact q m m1 m2 u'
structure Ds(lt:Nat->Nat->Bool)(l l':List Nat)(lo m q:Nat):Prop where
 perm:l'.Perm l
 out:∀i,i < lo\/lo+m<=i->l'.getD i 0=l.getD i 0
 dn:Iv lt l' lo (lo+m)
 ev:∀k,lo+m - (q+1)<=k->k < lo+m->Ev lt (l'.getD k 0) (l'.getD (lo+m - 1) 0)
 q1:q+1<=m
theorem Ds.turn (O:Ord lt){l':List Nat}{lo m q:Nat}(D:Ds lt l l' lo m q)(hz:lo+m<=l'.length):(kR l' (lo+m - (q+1)) (lo+m)).Perm l/\(∀i,i < lo\/lo+m<=i->(kR l' (lo+m - (q+1)) (lo+m)).getD i 0=l.getD i 0)/\Iv lt (kR l' (lo+m - (q+1)) (lo+m)) lo (lo+m)/\∀k,Ev lt ((kR l' (lo+m - (q+1)) (lo+m)).getD k 0) (l'.getD k 0):=by
 have q1:=D.q1
 have ev:∀k,Ev lt ((kR l' (lo+m - (q+1)) (lo+m)).getD k 0) (l'.getD k 0):=λ k=>by
  rw[eu l' hz]
  split
  case isTrue z=>exact O.Pd (D.ev _ (by omega) (by omega)) (D.ev k z.1 z.2).sym
  case isFalse z=>exact⟨O.refl _,O.refl _⟩
 refine⟨(fj _ _ _).trans D.perm,λ i hi=>?_,λ i j a b c=>O.trans (ev j).1 (O.trans (D.dn i j a b c) (ev i).2),ev⟩
 rw[eu l' hz,J5 (by omega)]
 exact D.out i hi
theorem LY(h:lW prog w A s κ it n lt)(O:Ord lt)(hb:qS n l){lo a bI:Nat}(hz:lo+bI<=l.length)(ha:a<=bI){l0:List Nat}(D:Ds lt l l0 lo a 0){Q:DescSt->SortSt->Prop}(k:∀m q l',m<=bI->Ds lt l l' lo m q->Q (none,m,q) (dM κ it l' pd g)):wpS (model prog w) A E s (GS lo a bI) Q (dM κ it l0 pd g):=by
 unfold GS
 refine gL (λ i (c:DescSt) aG=>c.1=none/\c.2.1=i/\∃l',aG=dM κ it l' pd g/\Ds lt l l' lo c.2.1 c.2.2) (λ c aG=>c.1=none/\c.2.1<=bI/\∃l',aG=dM κ it l' pd g/\Ds lt l l' lo c.2.1 c.2.2) ?_ ?_ ?_ ⟨rfl,rfl,l0,rfl,D⟩
 ·rintro i ⟨r,m,q⟩ aG i1 i2 ⟨rfl,e,l',rfl,D'⟩
  dsimp only at e D' ⊢
  subst e
  have hl:=D'.perm.length_eq
  have oN:=hb.perm D'.perm
  have q1:=D'.q1
  refine H0 (gR h oN (by omega) (by omega) ?_)
  dsimp only
  cases e:lt (l'.getD (lo+m) 0) (l'.getD (lo+m - 1) 0)with
  |true=>
   rw[J4 rfl]
   split
   ·obtain⟨t1,t2,t3,t4⟩:=D'.turn O (by omega)
    refine H0 (pG (J0 ⟨rfl,rfl,_,rfl,⟨t1,λ i hi=>t2 i (by dsimp only at hi;omega),t3.next O (by omega) ?_,λ k k1 k2=>?_,by dsimp only;omega⟩⟩))
    ·rw[eu l' (k:=lo+m) (by omega),J5 (by omega)]
     exact O.trans (O.jq _ _ e) (t4 (lo+m - 1)).2
    ·dsimp only at k1 k2 ⊢
     have:k=lo+m:=by omega
     subst this
     exact⟨O.refl _,O.refl _⟩
   ·refine J0 ⟨rfl,rfl,_,rfl,⟨D'.perm,λ i hi=>D'.out i (by dsimp only at hi;omega),D'.dn.next O (by omega) (O.jq _ _ e),λ k k1 k2=>?_,by dsimp only;omega⟩⟩
    dsimp only at k1 k2 ⊢
    have:k=lo+m:=by omega
    subst this
    exact⟨O.refl _,O.refl _⟩
  |false=>
   rw[J5 (by decide)]
   refine H0 (gR h oN (by omega) (by omega) ?_)
   dsimp only
   cases e2:lt (l'.getD (lo+m - 1) 0) (l'.getD (lo+m) 0)with
   |true=>
    rw[J4 rfl]
    exact J0 ⟨rfl,by dsimp only;omega,_,rfl,D'⟩
   |false=>
    rw[J5 (by decide)]
    refine J0 ⟨rfl,rfl,_,rfl,⟨D'.perm,λ i hi=>D'.out i (by dsimp only at hi;omega),D'.dn.next O (by omega) e2,λ k k1 k2=>?_,by dsimp only;omega⟩⟩
    dsimp only at k1 k2 ⊢
    have hE:Ev lt (l'.getD (lo+m - 1) 0) (l'.getD (lo+m) 0):=⟨e,e2⟩
    rw[show lo+(m+1) - 1=lo+m by omega]
    by_cases z:k=lo+m
    ·subst z
     exact⟨O.refl _,O.refl _⟩
    ·exact O.Pd (D'.ev k (by omega) (by omega)) hE
 ·rintro⟨r,m,q⟩ aG ⟨rfl,e,l',rfl,D'⟩
  dsimp only at e D'
  exact⟨rfl,by dsimp only;omega,l',rfl,D'⟩
 ·rintro⟨r,m,q⟩ aG ⟨rfl,e,l',rfl,D'⟩
  exact k m q l' e D'
theorem Ho(h:lW prog w A s κ it n lt)(O:Ord lt)(hb:qS n l){lo m bI:Nat}(hz:lo+bI<=l.length)(h1:1<=m)(hm:m<=bI){l':List Nat}(pm:l'.Perm l)(out:∀i,i < lo\/lo+m<=i->l'.getD i 0=l.getD i 0)(dn:Iv lt l' lo (lo+m)){Q:Option Nat->SortSt->Prop}(q:∀k l',1<=k->k<=bI->Mg lt l l' lo (lo+k)->Q (some k) (dM κ it l' pd g)):wpS (model prog w) A E s (Mw lo m bI) Q (dM κ it l' pd g):=by
 unfold Mw
 have hl:=pm.length_eq
 have zb:=(fj l' lo (lo+m)).length_eq
 refine H0 (pG (H0 (Ml h O (hb.perm ((fj _ _ _).trans pm)) (by omega) h1 hm (λ i j a b c=>?_) λ k k1 k2 u=>?_)))
 ·rw[eu l' (by omega),eu l' (by omega),J4 ⟨a,by omega⟩,J4 ⟨by omega,c⟩]
  exact dn _ _ (by omega) (by omega) (by omega)
 ·refine J0 (q k _ (by omega) k2 ⟨(fj _ _ _).trans pm,λ i hi=>?_,u⟩)
  rw[eu l' (by omega),J5 (by omega)]
  exact out i (by omega)
end
end L5
namespace L5
open PySem PySem.W PyProof.Rows
section
variable {it:Nat->Keyed}{lt:Nat->Nat->Bool}{prog:Program}{w:World}{A:Around}{E:Value->Shared->Prop}{s:Shared}{κ:SortKind}{n:Nat}{l:List Nat}{pd:Array (Nat×Nat×Nat)}{g:Nat}
theorem Ii(h:lW prog w A s κ it n lt)(O:Ord lt)(hb:qS n l){lo m bI:Nat}(hz:lo+bI<=l.length)(hm:m+1<=bI){l0:List Nat}(D:Ds lt l l0 lo (m+1) 0){Q:Option Nat->SortSt->Prop}(q:∀k l',1<=k->k<=bI->Mg lt l l' lo (lo+k)->Q (some k) (dM κ it l' pd g)):wpS (model prog w) A E s (LV lo m bI) Q (dM κ it l0 pd g):=by
 unfold LV
 refine H0 (wpS_lift (G5 ⟨rfl,H0 (LY h O hb hz hm D λ x y l' x1 D'=>?_)⟩))
 have q1:=D'.q1
 have hl:=D'.perm.length_eq
 dsimp only
 split
 ·obtain⟨t1,t2,t3,t4⟩:=D'.turn O (by omega)
  exact H0 (pG (Ho h O hb hz (by omega) x1 t1 t2 t3 q))
 ·exact Ho h O hb hz (by omega) x1 D'.perm D'.out D'.dn q
theorem C_(h:lW prog w A s κ it n lt)(O:Ord lt)(hb:qS n l){lo bI:Nat}(hz:lo+bI<=l.length)(h1:1<=bI){Q:Option Nat->SortSt->Prop}(q:∀k l',1<=k->k<=bI->Mg lt l l' lo (lo+k)->Q (some k) (dM κ it l' pd g)):wpS (model prog w) A E s (countRun' lo bI) Q (dM κ it l pd g):=by
 rw[zq]
 refine H0 ?_
 unfold Dq
 refine gL (λ i (c:AscSt) aG=>aG=dM κ it l pd g/\c.1=none/\c.2=i/\nW lt l lo (lo+c.2)) (λ c aG=>aG=dM κ it l pd g/\c.1=none/\1<=c.2/\c.2<=bI/\nW lt l lo (lo+c.2)/\(c.2 < bI->lt (l.getD (lo+c.2) 0) (l.getD (lo+c.2 - 1) 0)=true)) ?_ ?_ ?_ ⟨rfl,rfl,rfl,λ i j a b c=>?_⟩
 ·rintro i ⟨r,m⟩ aG i1 i2 ⟨rfl,rfl,e,u'⟩
  dsimp only at e u' ⊢
  subst e
  refine H0 (gR h hb (by omega) (by omega) ?_)
  dsimp only
  cases e:lt (l.getD (lo+m) 0) (l.getD (lo+m - 1) 0)with
  |true=>
   rw[J4 rfl]
   exact J0 ⟨rfl,rfl,i1,by dsimp only;omega,u',λ _=>e⟩
  |false=>
   rw[J5 (by decide)]
   exact J0 ⟨rfl,rfl,rfl,u'.next O (by omega) e⟩
 ·rintro⟨r,m⟩ aG ⟨rfl,rfl,e,u'⟩
  dsimp only at e u'
  exact⟨rfl,rfl,by dsimp only;omega,by dsimp only;omega,u',λ z=>by dsimp only at z;omega⟩
 ·rintro⟨r,m⟩ aG ⟨rfl,rfl,m1,m2,u',e⟩
  dsimp only at m1 m2 u' e ⊢
  by_cases z:m=bI
  ·rw[J4 (by simp[z])]
   exact J0 (q m l m1 m2 ⟨List.Perm.refl _,λ _ _=>rfl,u'⟩)
  ·rw[J5 (by simp[z])]
   have e:=e (by omega)
   by_cases z2:m > 1
   ·rw[J4 z2]
    refine H0 (gR h hb (by omega) (by omega) ?_)
    dsimp only
    cases e3:lt (l.getD lo 0) (l.getD (lo+m - 1) 0)with
    |true=>
     rw[J4 rfl]
     exact J0 (q m l m1 m2 ⟨List.Perm.refl _,λ _ _=>rfl,u'⟩)
    |false=>
     rw[J5 (by decide)]
     have al:∀i,lo<=i->i < lo+m->Ev lt (l.getD i 0) (l.getD (lo+m - 1) 0):=λ i a b=>⟨u' i (lo+m - 1) a (by omega) (by omega),O.trans e3 (u' lo i (E1 _) a b)⟩
     have gv:∀i,(kR l lo (lo+m)).getD i 0=if lo<=i/\i < lo+m then l.getD (lo+(lo+m) - 1 - i) 0 else l.getD i 0:=eu l (by omega)
     refine H0 (pG (Ii h O hb hz (by omega) ⟨fj _ _ _,λ i hi=>?_,?_,λ k k1 k2=>?_,by omega⟩ q))
     ·rw[gv,J5 (by omega)]
     ·refine Iv.next O (λ i j a b c=>?_) m1 ?_
      ·rw[gv,gv,J4 ⟨by omega,c⟩,J4 ⟨a,by omega⟩]
       exact u' _ _ (by omega) (by omega) (by omega)
      ·rw[gv,gv,J5 (by omega),J4 ⟨by omega,by omega⟩]
       exact O.trans (O.jq _ _ e) (al _ (by omega) (by omega)).2
     ·have:k=lo+m:=by omega
      subst this
      exact⟨O.refl _,O.refl _⟩
   ·rw[J5 z2]
    have:m=1:=by omega
    subst this
    refine Ii h O hb hz (by omega) ⟨List.Perm.refl _,λ _ _=>rfl,Iv.next O (λ i j a b c=>?_) m1 (O.jq _ _ e),λ k k1 k2=>?_,by omega⟩ q
    ·have:i=j:=by omega
     subst this
     exact O.refl _
    ·have:k=lo+1:=by omega
     subst this
     exact⟨O.refl _,O.refl _⟩
 ·dsimp only at c
  have:i=j:=by omega
  subst this
  exact O.refl _
end
end L5
namespace L5
open PySem PySem.W PyProof.Rows
abbrev Rn:=Nat×Nat×Nat
def Runs(lt:Nat->Nat->Bool)(l:List Nat):List Rn->Nat->Nat->Prop
 |[],a,b=>a=b
 |(s,k,_)::r,a,b=>s=a/\1<=k/\nW lt l a (a+k)/\Runs lt l r (a+k) b
section
variable {lt:Nat->Nat->Bool}{l l':List Nat}
theorem Runs.le:∀{r:List Rn} {a b:Nat},Runs lt l r a b->a+r.length<=b
 |[],a,b,h=>by cases(show a=b from h);simp
 |(s,k,p)::r,a,b,h=>by
  obtain⟨_,h1,_,h2⟩:=h
  have:=Runs.le h2
  rw[x9]
  omega
theorem Runs.split:∀{r t:List Rn} {a b:Nat},Runs lt l (r++t) a b->∃c,Runs lt l r a c/\Runs lt l t c b
 |[],t,a,b,h=>⟨a,rfl,h⟩
 |(s,k,p)::r,t,a,b,h=>by
  obtain⟨h0,h1,h2,h3⟩:=h
  obtain⟨c,c1,c2⟩:=Runs.split h3
  exact⟨c,⟨h0,h1,h2,c1⟩,c2⟩
theorem Runs.app:∀{r t:List Rn} {a b c:Nat},Runs lt l r a c->Runs lt l t c b->Runs lt l (r++t) a b
 |[],t,a,b,c,h,g=>by cases(show a=c from h);exact g
 |(s,k,p)::r,t,a,b,c,h,g=>by
  obtain⟨h0,h1,h2,h3⟩:=h
  exact⟨h0,h1,h2,Runs.app h3 g⟩
theorem Runs.same:∀{r:List Rn} {a b:Nat},Runs lt l r a b->(∀i,a<=i->i < b->l'.getD i 0=l.getD i 0)->Runs lt l' r a b
 |[],a,b,h,e=>h
 |(s,k,p)::r,a,b,h,e=>by
  obtain⟨h0,h1,h2,h3⟩:=h
  have:=h3.le
  refine⟨h0,h1,λ i j x y z=>?_,Runs.same h3 λ i x y=>e i (by omega) y⟩
  rw[e i x (by omega),e j (by omega) (by omega)]
  exact h2 i j x y z
theorem Runs.merge {L R:List Rn}{a b sa na pw sb nb p2:Nat}(h:Runs lt l (L++(sa,na,pw)::(sb,nb,p2)::R) a b):sb=sa+na/\1<=na/\1<=nb/\sa+na+nb<=b/\nW lt l sa (sa+na)/\nW lt l (sa+na) (sa+na+nb)/\∀l',Mg lt l l' sa (sa+na+nb)->Runs lt l' (L++(sa,na+nb,pw)::R) a b:=by
 obtain⟨c,c1,rfl,c3,c4,rfl,c6,c7,c8⟩:=Runs.split h
 have:=c8.le
 have:=c1.le
 refine⟨rfl,c3,c6,by omega,c4,c7,λ l' M=>(c1.same λ i x y=>M.out i (by omega)).app ⟨rfl,by omega,by rw[<- Nat.add_assoc];exact M.up,?_⟩⟩
 rw[<- Nat.add_assoc]
 exact c8.same λ i x y=>M.out i (by omega)
theorem rS{L R:List Rn}{x y z:Rn}:((L++x::y::R).toArray.setIfInBounds L.length z).eraseIdxIfInBounds (L.length+1)=(L++z::R).toArray:=by
 apply Array.toList_inj.mp
 simp[set_append,eraseIdx_append,Array.eraseIdxIfInBounds]
 intro h
 omega
theorem vg{r:List Rn}{i:Nat}(h:i+1 < r.length):∃L R x y,r=L++x::y::R/\L.length=i:=by
 refine⟨r.take i,r.drop (i+2),r[i],r[i+1],?_,by rw[A0];omega⟩
 rw[<- i4 (by omega),<- i4 (by omega),take_append_drop]
end
end L5
namespace L5
open PySem PySem.W PyProof.Rows
theorem Runs.pow {lt:Nat->Nat->Bool}{l:List Nat}{f:Rn->Rn}(hf:∀x,(f x).1=x.1/\(f x).2.1=x.2.1):∀{r:List Rn} {i a b:Nat},Runs lt l r a b->Runs lt l (r.modify i f) a b
 |[],i,a,b,h=>by rw[modify_nil];exact h
 |(s,k,p)::r,0,a,b,h=>by
  rw[modify_zero_cons]
  obtain⟨e1,e2⟩:=hf (s,k,p)
  revert e1 e2
  generalize f (s,k,p)=y
  obtain⟨s',k',p'⟩:=y
  rintro rfl rfl
  exact h
 |(s,k,p)::r,i+1,a,b,h=>by
  rw[modify_succ_cons]
  obtain⟨h0,h1,h2,h3⟩:=h
  exact⟨h0,h1,h2,Runs.pow hf h3⟩
section
variable {it:Nat->Keyed}{lt:Nat->Nat->Bool}{prog:Program}{w:World}{A:Around}{E:Value->Shared->Prop}{s:Shared}{κ:SortKind}{n:Nat}{l:List Nat}{pd:Array Rn}{g:Nat}
theorem sr(h:lW prog w A s κ it n lt)(O:Ord lt)(hb:qS n l){i b:Nat}(hi:i+1 < pd.size)(R:Runs lt l pd.toList 0 b)(hz:b<=l.length){Q:Bool->SortSt->Prop}(q:∀l' (vj:Array Rn) g',l'.Perm l->(∀j,b<=j->l'.getD j 0=l.getD j 0)->Runs lt l' vj.toList 0 b->vj.size+1=pd.size->Q true (dM κ it l' vj g')):wpS (model prog w) A E s (mergeAt' i) Q (dM κ it l pd g):=by
 obtain⟨L,T,⟨sa,na,pw⟩,⟨sb,nb,p2⟩,e,el⟩:=vg (r:=pd.toList) (i:=i) (by simpa using hi)
 have ep:pd=(L++(sa,na,pw)::(sb,nb,p2)::T).toArray:=by rw[<- e]
 subst ep
 subst el
 obtain⟨rfl,n1,n2,Uq,u1,u2,k⟩:=Runs.merge R
 refine vB h O hb (sa:=sa) (na:=na) (nb:=nb) (pw:=pw) (pw2:=p2) ?_ ?_ n1 n2 (by omega) u1 u2 λ l' g' M=>q l' _ g' M.perm (λ j hj=>M.out j (.inr (by omega))) ?_ ?_
 ·simp
 ·simp[e7]
 ·rw[rS];exact k l' M
 ·rw[rS];simp;omega
theorem OH{β:Type}{lo k mr z:Nat}{K:Nat->StateT SortSt Sem β}{T:StateT SortSt Sem β}{d:β}{l2:List Nat}(h:lW prog w A s κ it n lt)(O:Ord lt)(hb:qS n l)(hz:z=l.length)(OX:lo < z)(k1:1<=k)(k2:k<=z - lo)(M:Mg lt l l2 lo (lo+k)){Q:β->SortSt->Prop}
  (q:∀m l3,1<=m->m<=z - lo->Mg lt l l3 lo (lo+m)->wpS (model prog w) A E s (K m) Q (dM κ it l3 pd g))
  (hT:T=(do
   liftM (rule "list.sort.binary-insertion")
   let b <- binarySort' lo (min (z - lo) mr) k
   if(!b)=true then pure d else K (min (z - lo) mr))):wpS (model prog w) A E s (if k < mr then T else K k) Q (dM κ it l2 pd g):=by
 subst hT
 subst hz
 have e:=M.perm.length_eq
 by_cases fO:k < mr
 ·rw[J4 fO]
  refine H0 (wpS_lift (G5 ⟨rfl,?_⟩))
  refine H0 (Mj h O (hb.perm M.perm) (by omega) (by omega) (by omega) M.up λ l3 M3=>?_)
  rw[J5 (by decide)]
  refine q _ _ (by omega) (by omega) ⟨M3.perm.trans M.perm,λ i hi=>(M3.out i hi).trans (M.out i (by omega)),M3.up⟩
 ·rw[J5 fO]
  exact q _ _ k1 k2 M
theorem Pz{β:Type}{lo mr z:Nat}{F:Option Nat->StateT SortSt Sem β}{T K:Nat->StateT SortSt Sem β}{d:β}(h:lW prog w A s κ it n lt)(O:Ord lt)(hb:qS n l)(hz:z=l.length)(OX:lo < z){Q:β->SortSt->Prop}(hF:∀k,F (some k)=if k < mr then T k else K k)
  (hT:∀k,T k=(do
   liftM (rule "list.sort.binary-insertion")
   let b <- binarySort' lo (min (z - lo) mr) k
   if(!b)=true then pure d else K (min (z - lo) mr)))
  (q:∀m l3,1<=m->m<=z - lo->Mg lt l l3 lo (lo+m)->wpS (model prog w) A E s (K m) Q (dM κ it l3 pd g)):wpS (model prog w) A E s (countRun' lo (z - lo) >>= F) Q (dM κ it l pd g):=by
 refine H0 (C_ h O hb (by omega) (by omega) λ k l2 k1 k2 M=>?_)
 rw[hF]
 exact OH h O hb hz OX k1 k2 M q (hT k)
def St(κ:SortKind)(it:Nat->Keyed)(lt:Nat->Nat->Bool)(l:List Nat)(b:Nat)(X:List Nat->Array Rn->Prop)(st:SortSt):Prop:=∃l' pd g,st=dM κ it l' pd g/\l'.Perm l/\Runs lt l' pd.toList 0 b/\X l' pd
theorem DW(h:lW prog w A s κ it n lt)(O:Ord lt)(hb:qS n l){Q:Unit->SortSt->Prop}(q:∀l' vj g',l'.Perm l->nW lt l' 0 l.length->Q () (dM κ it l' vj g')):wpS (model prog w) A E s sortRuns' Q (dM κ it l #[] g):=by
 rw[sortRuns'_eq]
 refine H0 (wpS_get ?_)
 dsimp only
 have es:(arrOf (dM κ it l #[] g)).size=l.length:=cX l
 simp only[es]
 generalize minRun' l.length l.length 0=mr
 refine H0 (gL (λ i (c:Option Unit×Nat) aG=>c.1=none/\i<=c.2/\c.2<=l.length/\St κ it lt l c.2 (λ _ _=>True) aG) (λ c aG=>c.1=none/\St κ it lt l l.length (λ _ _=>True) aG) ?_ ?_ ?_ ⟨rfl,E1 _,E3 _,l,#[],g,rfl,.refl _,rfl,trivial⟩)
 ·rintro i ⟨r,lo⟩ aG _ _ ⟨rfl,i1,i2,l1,pd,g1,rfl,pm,R,_⟩
  dsimp only at i1 i2 R ⊢
  have e1:=pm.length_eq
  by_cases z:lo ≥ l.length
  ·rw[J4 z]
   have:lo=l.length:=by omega
   subst this
   exact J0 ⟨rfl,l1,pd,g1,rfl,pm,R,trivial⟩
  ·rw[J5 z]
   refine' Pz h O (hb.perm pm) e1.symm (by omega) ?hF ?hT (λ m l3 m1 m2 M3=>?_)
   case hF=>exact λ k=>rfl
   case hT=>exact λ k=>rfl
   have Uk:=M3.perm.trans pm
   have R3:Runs lt l3 pd.toList 0 lo:=R.same λ j _ hj=>M3.out j (.inl hj)
   have fin:∀l4 (iV:Array Rn) g4,l4.Perm l->Runs lt l4 iV.toList 0 lo->nW lt l4 lo (lo+m)->St κ it lt l (lo+m) (λ _ _=>True) (dM κ it l4 (iV.push (lo,m,0)) g4):=λ l4 iV g4 a1 a2 a3=>⟨l4,_,g4,rfl,a1,by rw[Array.toList_push];exact a2.app ⟨rfl,m1,a3,rfl⟩,trivial⟩
   refine H0 (wpS_get ?_)
   have ep:pendingOf (dM κ it l3 pd g1)=pd:=rfl
   rw[ep]
   cases eb:pd.back? with
   |none=>
    dsimp only
    exact H0 (wpS_modify (J0 ⟨rfl,by dsimp only;omega,by dsimp only;omega,fin l3 pd g1 Uk R3 M3.up⟩))
   |some x=>
    obtain⟨s1,n1,p1⟩:=x
    dsimp only
    refine H0 (gL (λ i (c:Option Unit×Unit) aG=>c.1=none/\St κ it lt l lo (λ l' _=>nW lt l' lo (lo+m)) aG) (λ c aG=>c.1=none/\St κ it lt l lo (λ l' _=>nW lt l' lo (lo+m)) aG) ?_ (λ _ _ x=>x) ?_ ⟨rfl,l3,pd,g1,rfl,Uk,R3,M3.up⟩)
    ·rintro j ⟨r,u⟩ aG _ _ ⟨rfl,l4,iV,g4,rfl,a1,a2,a3⟩
     refine H0 (wpS_get ?_)
     have ep:pendingOf (dM κ it l4 iV g4)=iV:=rfl
     rw[ep]
     by_cases z2:iV.size > 1
     ·rw[J4 z2,i0 (show iV.size - 2 < iV.size by omega)]
      generalize iV[iV.size - 2]'(by omega)=y
      obtain⟨y1,y2,y3⟩:=y
      dsimp only
      split
      ·exact J0 ⟨rfl,l4,iV,g4,rfl,a1,a2,a3⟩
      ·refine H0 (sr h O (hb.perm a1) (by omega) a2 (by rw[a1.length_eq];omega) λ l5 So g5 b1 b2 b3 _=>?_)
       rw[J5 (by decide)]
       refine J0 ⟨rfl,l5,So,g5,rfl,b1.trans a1,b3,λ x y x1 x2 x3=>?_⟩
       rw[b2 x x1,b2 y (by omega)]
       exact a3 x y x1 x2 x3
     ·rw[J5 z2]
      dsimp only
      exact J0 ⟨rfl,l4,iV,g4,rfl,a1,a2,a3⟩
    ·rintro⟨r,u⟩ aG ⟨rfl,l4,iV,g4,rfl,a1,a2,a3⟩
     dsimp only
     refine H0 (wpS_modify (H0 (wpS_modify (J0 ⟨rfl,by dsimp only;omega,by dsimp only;omega,fin l4 _ g4 a1 ?_ a3⟩))))
     show Runs lt l4 (iV.modify (iV.size - 1) _).toList 0 lo
     rw[Array.toList_modify]
     refine Runs.pow ?_ a2
     exact λ x=>⟨rfl,rfl⟩
 ·rintro⟨r,lo⟩ aG ⟨rfl,i1,i2,l1,pd,g1,rfl,pm,R,_⟩
  dsimp only at i1 i2 R
  have:lo=l.length:=by omega
  subst this
  exact⟨rfl,l1,pd,g1,rfl,pm,R,trivial⟩
 ·rintro⟨r,lo⟩ aG ⟨rfl,l1,pd,g1,rfl,pm,R,_⟩
  try dsimp only
  refine H0 (gL (λ i (c:Option Unit×Unit) aG=>c.1=none/\St κ it lt l l.length (λ _ vj=>vj.size+i<=l.length) aG) (λ c aG=>c.1=none/\St κ it lt l l.length (λ _ vj=>vj.size<=1) aG) ?_ ?_ ?_ ⟨rfl,l1,pd,g1,rfl,pm,R,by have:=R.le;rw[n9]at this;omega⟩)
  ·rintro j ⟨r,u⟩ aG _ _ ⟨rfl,l4,iV,g4,rfl,a1,a2,a3⟩
   try dsimp only at a3
   refine H0 (wpS_get ?_)
   have ep:pendingOf (dM κ it l4 iV g4)=iV:=rfl
   rw[ep]
   by_cases z2:iV.size<=1
   ·rw[J4 z2]
    exact J0 ⟨rfl,l4,iV,g4,rfl,a1,a2,z2⟩
   ·rw[J5 z2]
    try dsimp only
    have:∀c:Bool,(if c=true then iV.size - 2 - 1 else iV.size - 2)+1 < iV.size:=λ c=>by split <;> omega
    refine H0 (sr h O (hb.perm a1) (this _) a2 (by rw[a1.length_eq];omega) λ l5 So g5 b1 b2 b3 b4=>?_)
    rw[J5 (by decide)]
    exact J0 ⟨rfl,l5,So,g5,rfl,b1.trans a1,b3,by dsimp only;omega⟩
  ·rintro⟨r,u⟩ aG ⟨rfl,l4,iV,g4,rfl,a1,a2,a3⟩
   try dsimp only at a3
   exact⟨rfl,l4,iV,g4,rfl,a1,a2,by dsimp only;omega⟩
  ·rintro⟨r,u⟩ aG ⟨rfl,l4,iV,g4,rfl,a1,a2,a3⟩
   try dsimp only
   refine J0 (q l4 iV g4 a1 λ i j _ ij hj=>?_)
   obtain⟨r⟩:=iV
   dsimp only at a2 a3
   match r,a2,a3 with
   |[],a2,_=>
    have:0=l.length:=a2
    omega
   |[(s1,k1,p1)],a2,_=>
    obtain⟨_,_,c3,c4⟩:=a2
    have c4:0+k1=l.length:=c4
    exact c3 i j (by omega) ij (by omega)
end
end L5
namespace L5
open PySem PySem.W PyProof.Rows
section
variable {prog:Program}{w:World}{A:Around}{E:Value->Shared->Prop}{s:Shared}
theorem BZ{ks vs:List Value}{κ:SortKind}{lt:Nat->Nat->Bool}(O:Ord lt)(hl:ks.length=vs.length)(hc:∀i j C,i < vs.length->j < vs.length->C (lt i j) s->wpAny (model prog w) A (keyLt' κ (ks.getD i Value.none) (ks.getD j Value.none)) C (λ _ _=>False) s):
  wpAny (model prog w) A ((sortRuns').run (SortSt.mk' κ ((List.toArray ks).zip vs.toArray) #[] 7 none)) (λ r s'=>s'=s/\∃p:Array Nat,p.size=vs.length/\arrOf r.2=p.map (kas_item ((List.toArray ks).zip vs.toArray))/\failedOf r.2=none/\Pm vs.length p/\Up lt p vs.length) E s:=by
 have WZ:SortSt.mk' κ ((List.toArray ks).zip vs.toArray) #[] 7 none=dM κ (kas_item ((List.toArray ks).zip vs.toArray)) (List.range vs.length) #[] 7:=by
  have e:=kas_range ((List.toArray ks).zip vs.toArray)
  rw[show((List.toArray ks).zip vs.toArray).size=vs.length by simp[hl]]at e
  unfold dM
  rw[jJ,e]
 rw[WZ]
 refine DW (E:=E) (l:=List.range vs.length) (n:=vs.length) (lt:=lt) (Q:=λ _ st=>∃p:Array Nat,p.size=vs.length/\arrOf st=p.map (kas_item ((List.toArray ks).zip vs.toArray))/\failedOf st=none/\Pm vs.length p/\Up lt p vs.length) (λ i j C hi hj hC=>?_) O (λ i hi=>?_) λ l' vj g' pm up=>?_
 ·rw[kat_item hl,kat_item hl]
  exact hc i j C hi hj hC
 ·rw[w6]at hi
  rw[e9,n0 hi]
  exact hi
 ·rw[w6]at up
  refine⟨l'.toArray,by rw[x4,pm.length_eq,w6],jJ l',rfl,?_,λ i j nH hj=>?_⟩
  ·exact Array.perm_iff_toList_perm.mpr pm
  ·rw[<- dU,<- dU]
   exact up i j (E3 _) nH hj
end
end L5
namespace L5
open PySem
def dG(T:String)(h:Heap)(j l:Addr)(i:Nat):Prop:=∃o,h.get? j=some o/\o.cls=.type T/\o.data=.fields #[.ref l,.int i 0]
theorem dG.keep {T:String}{h h':Heap}{j l:Addr}{i:Nat}(x:dG T h j l i)(k:∀o,h.get? j=some o->h'.get? j=some o):dG T h' j l i:=let⟨o,a,r⟩:=x;⟨o,k o a,r⟩
structure NK(T:String)(Sq:Heap->Addr->Array Value->Prop):Prop where
 keep:∀{h h':Heap} {l:Addr} {vs:Array Value},Sq h l vs->(∀o,h.get? l=some o->h'.get? l=some o)->Sq h' l vs
 start:∀{prog:Program} {w:World} {A:Around} {E:Value->Shared->Prop} {s:Shared} {l:Addr} {vs:Array Value} {Q:Value->Shared->Prop},Sq s.heap l vs->
  Q (.ref s.heap.objs.size) {s with heap:=s.heap.push {cls:=.type T,data:=.fields #[.ref l,.int 0 0]}}->wpAny (model prog w) A (pyIter (.ref l)) Q E s
 item:∀{prog:Program} {w:World} {A:Around} {E:Value->Shared->Prop} {s:Shared} {j l:Addr} {i:Nat} {vs:Array Value} {x:Value} {Q:Value->Shared->Prop},dG T s.heap j l i->Sq s.heap l vs->vs[i]?=some x->
  (∀h',dG T h' j l (i+1)->Heap.SameBut j s.heap h'->Q x {s with heap:=h'})->wpAny (model prog w) A (Builtin.SmallTypes.nextOf (.ref j)) Q E s
 stop:∀{prog:Program} {w:World} {A:Around} {E:Value->Shared->Prop} {s:Shared} {j l:Addr} {i:Nat} {vs:Array Value} {Q:Value->Shared->Prop},A.handled=none->dG T s.heap j l i->Sq s.heap l vs->vs[i]?=none->
  (∀h' e,Heap.ExtBut j s.heap h'->(∃o,h'.get? e=some o/\o.cls=.type "StopIteration")->E (.ref e) {s with heap:=h'})->wpAny (model prog w) A (Builtin.SmallTypes.nextOf (.ref j)) Q E s
theorem FW:NK "list_iterator" Heap.IsList where
 keep:=λ x k=>x.at k
 start:=λ x q=>w5 x q
 item:=λ a b c d=>wpAny_nextOf_list_item a b c d
 stop:=λ a b c d e=>wpAny_nextOf_list_end a b c d e
section
variable {prog:Program}{w:World}{A:Around}{E:Value->Shared->Prop}{s:Shared}
theorem K1{j q:Addr}{i:Nat}{vs:Array Value}{x:Value}{Q:Value->Shared->Prop}(ji:s.heap.IsTupleIter j q i)(jt:s.heap.IsTuple q vs)(jx:vs[i]?=some x)
  (k:∀h',h'.IsTupleIter j q (i+1)->Heap.SameBut j s.heap h'->Q x {s with heap:=h'}):wpAny (model prog w) A (Builtin.SmallTypes.nextOf (.ref j)) Q E s:=by
 obtain⟨ob,hb,kc,kd⟩:=id ji
 obtain⟨ot,ht,_,nt,dt⟩:=jt
 unfold Builtin.SmallTypes.nextOf
 refine E9 (j5 (name:=Str.ofString "__next__") ji.typeIs e6 (y9 e6 ji.typeIs F.entry_tuple_iterator_next ?_ (F.args_tuple_iterator_next_1 _)))
 refine E9 (m:=field (.ref j) 0) (E4 hb kd (x:=.ref q) rfl ?_)
 show wpAny _ _ (if(Value.ref q==Value.none)=true then _ else _) _ _ s
 rw[J5 (show(Value.ref q==Value.none)≠true from o9)]
 refine E9 (m:=field (.ref j) 1) (E4 hb kd (x:=.int i 0) rfl ?_)
 refine E9 (m:=seqItems? (.ref q)) (B9 ht dt ?_)
 simp only[u4,jx]
 refine E9 (wpAny_setField hb kd (by simp) (G0 ⟨x,rfl,G0 (k _ ?_ (m9 ..))⟩))
 refine⟨_,k7 _ hb (Obj.isFreed_of_fields (Obj.data_mapFields kd _)),(Obj.cls_mapFields ..).trans kc,?_⟩
 rw[Obj.data_mapFields kd];simp[rawInt]
theorem IT{j q:Addr}{i:Nat}{vs:Array Value}{Q:Value->Shared->Prop}(hA:A.handled=none)(ji:s.heap.IsTupleIter j q i)(jt:s.heap.IsTuple q vs)(jx:vs[i]?=none)
  (k:∀h' e,Heap.ExtBut j s.heap h'->(∃o,h'.get? e=some o/\o.cls=.type "StopIteration")->E (.ref e) {s with heap:=h'}):wpAny (model prog w) A (Builtin.SmallTypes.nextOf (.ref j)) Q E s:=by
 obtain⟨ob,hb,kc,kd⟩:=id ji
 obtain⟨ot,ht,_,nt,dt⟩:=jt
 unfold Builtin.SmallTypes.nextOf
 refine E9 (j5 (name:=Str.ofString "__next__") ji.typeIs e6 (y9 e6 ji.typeIs F.entry_tuple_iterator_next ?_ (F.args_tuple_iterator_next_1 _)))
 refine E9 (m:=field (.ref j) 0) (E4 hb kd (x:=.ref q) rfl ?_)
 show wpAny _ _ (if(Value.ref q==Value.none)=true then _ else _) _ _ s
 rw[J5 (show(Value.ref q==Value.none)≠true from o9)]
 refine E9 (m:=field (.ref j) 1) (E4 hb kd (x:=.int i 0) rfl ?_)
 refine E9 (m:=seqItems? (.ref q)) (B9 ht dt ?_)
 simp only[u4,jx]
 refine E9 (G5 (E9 (wpAny_setField hb kd (by simp) ?_)))
 refine E9 (m:=newExc (.type "StopIteration") []) ?_
 simp only[newExc,newTuple]
 refine E9 (u5 (E9 (m:=firstArgMember _ _) (wpAny_of_eq (a:=Value.none) (by first|rfl|(simp only[firstArgMember];rfl)) (u5 ?_ (by size_fits)))) (by size_fits))
 simp only[raiseNew]
 refine E9 (wpAny_handled ?_)
 have hB:A.in1.handled=none:=hA
 rw[hB]
 exact E9 (G0 (wpAny_throw (k _ _ (((m9 ..).extBut.push _).push _) ⟨_,o7 _ rfl,rfl⟩)))
end
theorem sj:NK "tuple_iterator" Heap.IsTuple where
 keep:=λ x k=>let⟨o,a,r⟩:=x;⟨o,k o a,r⟩
 start:=λ x q=>wpAny_pyIter_tuple x q
 item:=λ a b c d=>K1 a b c d
 stop:=λ a b c d e=>IT a b c d e
structure Za(z u v a b l m:Addr):Prop where
 uz:u≠z
 vz:v≠z
 az:a≠z
 bz:b≠z
 uv:u≠v
 ua:u≠a
 ub:u≠b
 va:v≠a
 vb:v≠b
 ab:a≠b
 lz:l≠z
 lv:l≠v
 la:l≠a
 lb:l≠b
 mz:m≠z
 mv:m≠v
 ma:m≠a
 mb:m≠b
section
variable {prog:Program}{w:World}{A:Around}{E:Value->Shared->Prop}{s:Shared}{T1 T2:String}{S1 S2:Heap->Addr->Array Value->Prop}
theorem yb{z u v a b l m:Addr}{i:Nat}{xs ys:Array Value}{x y c d:Value}{Q:Value->Shared->Prop}(k1:NK T1 S1)(k2:NK T2 S2)(D:Za z u v a b l m)
  (hz:IsZip s.heap z u v .none) (hu:IsPair s.heap u (.ref a) (.ref b)) (hv:IsPair s.heap v c d) (ha:dG T1 s.heap a l i) (hb:dG T2 s.heap b m i) (hl:S1 s.heap l xs) (hm:S2 s.heap m ys) (hx:xs[i]?=some x) (hy:ys[i]?=some y)
  (k:∀h',IsZip h' z u v (rawInt s.heap.objs.size)->IsPair h' v x y->dG T1 h' a l (i+1)->dG T2 h' b m (i+1)->IsPair h' s.heap.objs.size x y->h'.objs.size=s.heap.objs.size+1->
   (∀f o,f≠z->f≠v->f≠a->f≠b->s.heap.get? f=some o->h'.get? f=some o)->Q (.ref s.heap.objs.size) {s with heap:=h'}):
  wpAny (model prog w) A (Builtin.«zip.__next__» ⟨[.ref z],[]⟩) (λ fin s'=>∃v,fin=.done (.ret v)/\Q v s') E s:=by
 refine E9 (m:=field (.ref z) 2) (E4 hz rfl (x:=.bool false) rfl ?_)
 refine E9 (m:=field (.ref z) 3) (E4 hz rfl (x:=.ref u) rfl ?_)
 refine E9 (B9 hu rfl ?_)
 refine E9 (m:=Builtin.SmallTypes.ownedTupleIsFree (.ref z)) ?_
 unfold Builtin.SmallTypes.ownedTupleIsFree
 refine E9 (m:=field (.ref z) 0) (E4 hz rfl (x:=.none) rfl (G0 ?_))
 simp only[if_true]
 refine E9 (G5 (E9 (E4 hz rfl (x:=.ref v) rfl (E9 (p8 hz (by simp) λ g1 z1 s1=>?_)))))
 have z1:IsZip g1 z u v .ellipsis:=z1
 refine E9 ?_
 simp only[zipIdx_cons,zipIdx_nil,forIn_cons,forIn_nil]
 refine E9 (E9 (wpAny_onRaise (E9 (m:=Builtin.SmallTypes.nextOf (.ref a)) (k1.item (ha.keep λ o e=>s1.extBut _ _ D.az e) (k1.keep hl λ o e=>s1.extBut _ _ D.lz e) hx λ g2 a2 s2=>G0 ?_))))
 have v2:IsPair g2 v c d:=s2.extBut _ _ D.va (s1.extBut _ _ D.vz hv)
 refine E9 (B9 v2 rfl (E9 (wpAny_updateSeq_pair v2 λ g3 v3 s3=>E9 (E8 (G0 ?_)))))
 have v3:IsPair g3 v x d:=v3
 have mT:∀f o,f≠z->f≠v->f≠a->s.heap.get? f=some o->g3.get? f=some o:=λ f o n1 n2 n3 e=>s3.extBut _ _ n2 (s2.extBut _ _ n3 (s1.extBut _ _ n1 e))
 refine E9 (E9 (wpAny_onRaise (E9 (m:=Builtin.SmallTypes.nextOf (.ref b)) (k2.item (hb.keep λ o e=>mT _ _ D.bz D.vb.symm D.ab.symm e) (k2.keep hm λ o e=>mT _ _ D.mz D.mv D.ma e) hy λ g4 b4 s4=>G0 ?_))))
 have v4:IsPair g4 v x d:=s4.extBut _ _ D.vb v3
 refine E9 (B9 v4 rfl (E9 (wpAny_updateSeq_pair v4 λ g5 v5 s5=>E9 (E8 (G0 (G0 ?_))))))
 have v5:IsPair g5 v x y:=v5
 refine E9 (B9 v5 rfl (E9 (wpAny_newTuple ?_)))
 have ez:g5.objs.size=s.heap.objs.size:=by rw[s5.1,s4.1,s3.1,s2.1,s1.1]
 have OG:∀f o,f≠z->f≠v->f≠a->f≠b->s.heap.get? f=some o->g5.get? f=some o:=λ f o n1 n2 n3 n4 e=>s5.extBut _ _ n2 (s4.extBut _ _ n4 (mT f o n1 n2 n3 e))
 have z5:IsZip g5 z u v .ellipsis:=s5.extBut _ _ D.vz.symm (s4.extBut _ _ D.bz.symm (s3.extBut _ _ D.vz.symm (s2.extBut _ _ D.az.symm z1)))
 have a5:dG T1 g5 a l (i+1):=a2.keep λ o e=>s5.extBut _ _ D.va.symm (s4.extBut _ _ D.ab (s3.extBut _ _ D.va.symm e))
 have b5:dG T2 g5 b m (i+1):=b4.keep λ o e=>s5.extBut _ _ D.vb.symm e
 have QX:z < g5.objs.size:=D3 z5
 refine E9 (m:=Builtin.SmallTypes.ownedTupleHandOut (.ref z) (.ref g5.objs.size)) ?_
 unfold Builtin.SmallTypes.ownedTupleHandOut
 have z6:IsZip (g5.push {cls:=.type "tuple",data:=.seq #[x,y]}) z u v .ellipsis:=k4 _ z5
 refine E9 (p8 z6 (by simp) λ g7 z7 s7=>p8 (show IsZip g7 z u v (rawInt g5.objs.size)from z7) (by simp) λ g8 z8 s8=>?_)
 have z8:IsZip g8 z u v (rawInt g5.objs.size):=z8
 have go:∀f o,f≠z->g5.get? f=some o->g8.get? f=some o:=λ f o n1 e=>s8.extBut _ _ n1 (s7.extBut _ _ n1 (k4 _ e))
 have t8:IsPair g8 g5.objs.size x y:=s8.extBut _ _ (Nat.ne_of_gt QX) (s7.extBut _ _ (Nat.ne_of_gt QX) (o7 _ rfl))
 have e8:g8.objs.size=g5.objs.size+1:=by rw[s8.1,s7.1,C0]
 rw[ez]at z8 t8 e8
 refine G0 ⟨_,rfl,?_⟩
 show Q (.ref g5.objs.size) _
 rw[ez]
 exact k g8 z8 (go _ _ D.vz v5) (a5.keep λ o e=>go _ o D.az e) (b5.keep λ o e=>go _ o D.bz e) t8 e8 λ f o n1 n2 n3 n4 e=>go f o n1 (OG f o n1 n2 n3 n4 e)
theorem zJ{z u v a b l m:Addr}{i:Nat}{xs ys:Array Value}{c d:Value}{Q:Fin->Shared->Prop}(hA:A.handled=none)(k1:NK T1 S1)(k2:NK T2 S2)(D:Za z u v a b l m)
  (hz:IsZip s.heap z u v .none) (hu:IsPair s.heap u (.ref a) (.ref b)) (hv:IsPair s.heap v c d) (ha:dG T1 s.heap a l i) (hb:dG T2 s.heap b m i) (hl:S1 s.heap l xs) (hm:S2 s.heap m ys) (he:xs[i]?=none\/ys[i]?=none)
  (k:∀h' e,(∀f o,f≠z->f≠v->f≠a->f≠b->s.heap.get? f=some o->h'.get? f=some o)->(∃o,h'.get? e=some o/\o.cls=.type "StopIteration")->E (.ref e) {s with heap:=h'}):
  wpAny (model prog w) A (Builtin.«zip.__next__» ⟨[.ref z],[]⟩) Q E s:=by
 refine E9 (m:=field (.ref z) 2) (E4 hz rfl (x:=.bool false) rfl ?_)
 refine E9 (m:=field (.ref z) 3) (E4 hz rfl (x:=.ref u) rfl ?_)
 refine E9 (B9 hu rfl ?_)
 refine E9 (m:=Builtin.SmallTypes.ownedTupleIsFree (.ref z)) ?_
 unfold Builtin.SmallTypes.ownedTupleIsFree
 refine E9 (m:=field (.ref z) 0) (E4 hz rfl (x:=.none) rfl (G0 ?_))
 simp only[if_true]
 refine E9 (G5 (E9 (E4 hz rfl (x:=.ref v) rfl (E9 (p8 hz (by simp) λ g1 z1 s1=>?_)))))
 have z1:IsZip g1 z u v .ellipsis:=z1
 refine E9 ?_
 simp only[zipIdx_cons,zipIdx_nil,forIn_cons,forIn_nil]
 have UO:=ha.keep (h':=g1) λ o e=>s1.extBut _ _ D.az e
 have Q9:=k1.keep (h':=g1) hl λ o e=>s1.extBut _ _ D.lz e
 refine E9 (E9 (wpAny_onRaise ?_))
 cases hx:xs[i]? with
 |none=>
  refine E9 (m:=Builtin.SmallTypes.nextOf (.ref a)) (k1.stop hA UO Q9 hx λ g2 e s2 oe=>?_)
  obtain⟨ob,GF,LF⟩:=oe
  have z2:IsZip g2 z u v .ellipsis:=s2 _ _ D.az.symm z1
  have ne:e≠z:=λ q=>by subst q;rw[z2]at GF;cases GF;simp at LF
  exact p8 z2 (by simp) λ g3 _ s3=>k g3 e (λ f o n1 _ n3 _ q=>s3.extBut _ _ n1 (s2 _ _ n3 (s1.extBut _ _ n1 q))) ⟨ob,s3.extBut _ _ ne GF,LF⟩
 |some x=>
  have hy:ys[i]?=none:=by rcases he with q|q;rw[hx]at q;cases q;exact q
  refine E9 (m:=Builtin.SmallTypes.nextOf (.ref a)) (k1.item UO Q9 hx λ g2 a2 s2=>G0 ?_)
  have v2:IsPair g2 v c d:=s2.extBut _ _ D.va (s1.extBut _ _ D.vz hv)
  refine E9 (B9 v2 rfl (E9 (wpAny_updateSeq_pair v2 λ g3 v3 s3=>E9 (E8 (G0 ?_)))))
  have mT:∀f o,f≠z->f≠v->f≠a->s.heap.get? f=some o->g3.get? f=some o:=λ f o n1 n2 n3 e=>s3.extBut _ _ n2 (s2.extBut _ _ n3 (s1.extBut _ _ n1 e))
  refine E9 (E9 (wpAny_onRaise (E9 (m:=Builtin.SmallTypes.nextOf (.ref b)) (k2.stop hA (hb.keep λ o e=>mT _ _ D.bz D.vb.symm D.ab.symm e) (k2.keep hm λ o e=>mT _ _ D.mz D.mv D.ma e) hy λ g4 e s4 oe=>?_))))
  obtain⟨ob,GF,LF⟩:=oe
  have z4:IsZip g4 z u v .ellipsis:=s4 _ _ D.bz.symm (s3.extBut _ _ D.vz.symm (s2.extBut _ _ D.az.symm z1))
  have ne:e≠z:=λ q=>by subst q;rw[z4]at GF;cases GF;simp at LF
  exact p8 z4 (by simp) λ g5 _ s5=>k g5 e (λ f o n1 n2 n3 n4 q=>s5.extBut _ _ n1 (s4 _ _ n4 (mT f o n1 n2 n3 q))) ⟨ob,s5.extBut _ _ ne GF,LF⟩
theorem BB{z u v a b l m:Addr}{i:Nat}{xs ys:Array Value}{x y c d:Value}{Q:Option Value->Shared->Prop}(k1:NK T1 S1)(k2:NK T2 S2)(D:Za z u v a b l m)
  (hz:IsZip s.heap z u v .none) (hu:IsPair s.heap u (.ref a) (.ref b)) (hv:IsPair s.heap v c d) (ha:dG T1 s.heap a l i) (hb:dG T2 s.heap b m i) (hl:S1 s.heap l xs) (hm:S2 s.heap m ys) (hx:xs[i]?=some x) (hy:ys[i]?=some y)
  (k:∀h',IsZip h' z u v (rawInt s.heap.objs.size)->IsPair h' v x y->dG T1 h' a l (i+1)->dG T2 h' b m (i+1)->IsPair h' s.heap.objs.size x y->h'.objs.size=s.heap.objs.size+1->
   (∀f o,f≠z->f≠v->f≠a->f≠b->s.heap.get? f=some o->h'.get? f=some o)->Q (some (.ref s.heap.objs.size)) {s with heap:=h'}):wpAny (model prog w) A (pyNext (.ref z)) Q E s:=by
 have ty:s.TypeIs (.ref z) "zip":=⟨_,hz,rfl⟩
 unfold pyNext
 refine E9 (C3 (j5 (name:=Str.ofString "__next__") ty F.slot_zip_next (y9 F.slot_zip_next ty F.entry_zip_next ?_ (F.args_zip_next_1 _))))
 exact yb k1 k2 D hz hu hv ha hb hl hm hx hy λ h' a1 a2 a3 a4 a5 a6 a7=>G0 (k h' a1 a2 a3 a4 a5 a6 a7)
theorem BV{z u v a b l m:Addr}{i:Nat}{xs ys:Array Value}{c d:Value}{Q:Option Value->Shared->Prop}(hA:A.handled=none)(k1:NK T1 S1)(k2:NK T2 S2)(D:Za z u v a b l m)
  (hz:IsZip s.heap z u v .none) (hu:IsPair s.heap u (.ref a) (.ref b)) (hv:IsPair s.heap v c d) (ha:dG T1 s.heap a l i) (hb:dG T2 s.heap b m i) (hl:S1 s.heap l xs) (hm:S2 s.heap m ys) (he:xs[i]?=none\/ys[i]?=none)
  (k:∀h',(∀f o,f≠z->f≠v->f≠a->f≠b->s.heap.get? f=some o->h'.get? f=some o)->Q none {s with heap:=h'}):wpAny (model prog w) A (pyNext (.ref z)) Q E s:=by
 have ty:s.TypeIs (.ref z) "zip":=⟨_,hz,rfl⟩
 unfold pyNext
 refine E9 (C3 (j5 (name:=Str.ofString "__next__") ty F.slot_zip_next (y9 F.slot_zip_next ty F.entry_zip_next ?_ (F.args_zip_next_1 _))))
 refine zJ hA k1 k2 D hz hu hv ha hb hl hm he λ h' e q oe=>?_
 obtain⟨ob,GF,LF⟩:=oe
 exact E9 (wpAny_isInstance (T:="StopIteration") (b:=true) ⟨ob,GF,LF⟩ isSubtype_stop (G0 (k _ q)))
end
abbrev wq(T:String)(h:Heap)(l:Addr):Heap:=h.push {cls:=.type T,data:=.fields #[.ref l,.int 0 0]}
abbrev M_(T1 T2:String)(h:Heap)(l m:Addr):Heap:=(wq T2 (wq T1 h l) m).push {cls:=.type "tuple",data:=.seq #[.ref h.objs.size,.ref (wq T1 h l).objs.size]}
abbrev MZ(T1 T2:String)(h:Heap)(l m:Addr):Heap:=(M_ T1 T2 h l m).push {cls:=.type "tuple",data:=.seq #[.none,.none]}
abbrev Iz(T1 T2:String)(h:Heap)(l m:Addr):Heap:=(MZ T1 T2 h l m).push {cls:=.type "zip",data:=.fields #[.none,.bool false,.bool false,.ref (wq T2 (wq T1 h l) m).objs.size,.ref (M_ T1 T2 h l m).objs.size]}
theorem ya{T1 T2:String}{S1 S2:Heap->Addr->Array Value->Prop}(k1:NK T1 S1)(k2:NK T2 S2)(l m:Addr)(xs ys:Array Value):
  Meets (Builtin.«zip.__new__» ⟨[.type "zip",.ref l,.ref m],[]⟩) (λ _ R s=>S1 s.heap l xs/\S2 s.heap m ys/\R (.ok (.ret (.ref (MZ T1 T2 s.heap l m).objs.size))) {s with heap:=Iz T1 T2 s.heap l m}):=
 .of_wp λ prog w A R s h=>by
  obtain⟨hp,g,d,tk,os⟩:=s
  obtain⟨a1,a2,h⟩:=h
  have sz:=sub_zip
  have b1:S1 (Shared.heap ⟨hp,g,d,tk,os⟩) l xs:=a1
  have b2:S2 (Shared.heap ⟨hp.push {cls:=.type T1,data:=.fields #[.ref l,.int 0 0]},g,d,tk,os⟩) m ys:=k2.keep a2 λ o e=>k4 _ e
  wp_walk using k1.start b1,k2.start b2
  exact⟨_,rfl,h⟩
theorem K8{prog:Program}{w:World}{A:Around}{E:Value->Shared->Prop}{s:Shared}{T1 T2:String}{S1 S2:Heap->Addr->Array Value->Prop}(k1:NK T1 S1)(k2:NK T2 S2){l m:Addr}{xs ys:Array Value}{Q:Value->Shared->Prop}(a1:S1 s.heap l xs)(a2:S2 s.heap m ys)
  (k:∀h',IsZip h' (s.heap.objs.size+4) (s.heap.objs.size+2) (s.heap.objs.size+3) .none->IsPair h' (s.heap.objs.size+2) (.ref s.heap.objs.size) (.ref (s.heap.objs.size+1))->IsPair h' (s.heap.objs.size+3) .none .none->
   dG T1 h' s.heap.objs.size l 0->dG T2 h' (s.heap.objs.size+1) m 0->h'.objs.size=s.heap.objs.size+5->(∀f o,s.heap.get? f=some o->h'.get? f=some o)->Q (.ref (s.heap.objs.size+4)) {s with heap:=h'}):
  wpAny (model prog w) A (call (.type "zip") [.ref l,.ref m]) Q E s:=by
 refine callType_new F.called_zip (by decide) (F.typeCall_zip_2 _ _) (F.newCall_zip_2 _ _) (λ ob=>F.args_object_init_3 ob _ _) F.entry_zip_new (ya k1 k2 l m xs ys) ⟨a1,a2,?_⟩
 have e1:(wq T1 s.heap l).objs.size=s.heap.objs.size+1:=C0 ..
 have e2:(wq T2 (wq T1 s.heap l) m).objs.size=s.heap.objs.size+2:=by rw[C0,e1]
 have e3:(M_ T1 T2 s.heap l m).objs.size=s.heap.objs.size+3:=by rw[C0,e2]
 have e4:(MZ T1 T2 s.heap l m).objs.size=s.heap.objs.size+4:=by rw[C0,e3]
 have e5:(Iz T1 T2 s.heap l m).objs.size=s.heap.objs.size+5:=by rw[C0,e4]
 have up1:∀f o,(MZ T1 T2 s.heap l m).get? f=some o->(Iz T1 T2 s.heap l m).get? f=some o:=λ f o e=>k4 _ e
 have Ui:∀f o,(M_ T1 T2 s.heap l m).get? f=some o->(Iz T1 T2 s.heap l m).get? f=some o:=λ f o e=>up1 f o (k4 _ e)
 have Uh:∀f o,(wq T2 (wq T1 s.heap l) m).get? f=some o->(Iz T1 T2 s.heap l m).get? f=some o:=λ f o e=>Ui f o (k4 _ e)
 have Ug:∀f o,(wq T1 s.heap l).get? f=some o->(Iz T1 T2 s.heap l m).get? f=some o:=λ f o e=>Uh f o (k4 _ e)
 have g5:(Iz T1 T2 s.heap l m).get? (MZ T1 T2 s.heap l m).objs.size=some _:=o7 _ rfl
 have g4:=up1 _ _ (o7 (M_ T1 T2 s.heap l m) rfl)
 have g3:=Ui _ _ (o7 (wq T2 (wq T1 s.heap l) m) rfl)
 have g2:=Uh _ _ (o7 (wq T1 s.heap l) rfl)
 have g1:=Ug _ _ (o7 (s.heap) rfl)
 show _/\_
 rw[e2,e3,e4]at g5
 rw[e1,e2]at g3
 rw[e3]at g4
 rw[e1]at g2
 rw[e4]
 exact⟨⟨_,g5,rfl⟩,k _ g5 g3 g4 ⟨_,g1,rfl,rfl⟩ ⟨_,g2,rfl,rfl⟩ e5 λ f o x=>Ug f o (k4 _ x)⟩
end L5
namespace L2
open PySem PySem.Spec PyProof.Rows
open HT (lexLt cB dJ c_ de mH)
open PySem.SeqAt PySem.MeetsSeq PySem.MeetsSeq2 PySem.MeetsSeq3 PySem.SeqRoads2
open PySem.AutoSeq1 (wpAny_loadPart')
theorem lQ{vs:List Value}{ns:List Int}(h:IntsAre vs ns){i:Nat}(hi:i < ns.length):∃t,vs[i]?=some (.int ns[i] t):=by
 induction h generalizing i with
 |nil=>simp at hi
 |cons n t h ih=>
  cases i with
  |zero=>exact⟨t,rfl⟩
  |succ i=>obtain⟨t',e⟩:=ih (i:=i) (by simpa using hi);exact⟨t',by simpa using e⟩
theorem Gd(l b:Addr)(xs ys:Array Value)(n k:Nat)(dd ee:Option Addr)(sl tl:Array (Option Value))(ns ms:List Int)(hi:IntsAre xs.toList ns)(hj:IntsAre ys.toList ms)(f:Nat):
  ∀i:Nat,ns.length - i=f->Meets (Builtin.«list.__eq__.loop» ⟨[.ref l,.ref b,rawInt i,rawInt 0],[]⟩)
   (λ A R s=>s.heap.get? l=some {cls:=.type "list",dict:=dd,data:=.seq xs n,slots:=sl}/\s.heap.get? b=some {cls:=.type "list",dict:=ee,data:=.seq ys k,slots:=tl}/\i<=ns.length/\i<=ms.length/\
    R (.ok (.ret (.bool (lexLt (ns.drop i) (ms.drop i))))) s):=by
 have z1:xs.size=ns.length:=by rw[<- hi.length];simp
 have z2:ys.size=ms.length:=by rw[<- hj.length];simp
 induction f with
 |zero=>
  intro i hf prog w A R s h
  obtain⟨hp,g,d,tk,os⟩:=s
  obtain⟨hl,hb,i1,i2,h⟩:=h
  wp_walk using A7 hl,A7 hb
  have e1:xs[((i:Nat):Int).toNat]?=none:=by simp;omega
  have d1:ns.drop i=[]:=by simp;omega
  rw[d1]at h
  rw[e1]
  have fin:R (.ok (.ret (.bool (decide (xs.size < ys.size))))) ⟨hp,g,d,tk,os⟩:=by
   have q:lexLt [] (ms.drop i)=decide (xs.size < ys.size):=by
    cases e:ms.drop i with
    |nil=>
     have:ms.length<=i:=by simpa using e
     rw[dJ];exact(A6 (by omega)).symm
    |cons c r=>
     have:i < ms.length:=by
      refine y0 λ z=>?_
      rw[j9 z]at e
      cases e
     rw[c_];exact(B8 (by omega)).symm
   rw[<- q];exact h
  wp_walk using A7 hl,A7 hb
  exact fin
 |succ f ih=>
  intro i hf prog w A R s h
  obtain⟨hp,g,d,tk,os⟩:=s
  obtain⟨hl,hb,i1,i2,h⟩:=h
  have a1:i < ns.length:=by omega
  obtain⟨t,e1⟩:=lQ hi a1
  have e1:xs[((i:Nat):Int).toNat]?=some (.int ns[i] t):=by simpa using e1
  by_cases a2:i < ms.length
  ·obtain⟨u,e2⟩:=lQ hj a2
   have e2:ys[((i:Nat):Int).toNat]?=some (.int ms[i] u):=by simpa using e2
   rw[i4 a1,i4 a2,cB]at h
   wp_walk using A7 hl,A7 hb
   rw[e1,e2]
   refine E9 (EqAt.int_int ns[i] t ms[i] u prog w _ _ ?_)
   have cc:((i:Int)+1)=((i+1:Nat):Int):=by push_cast;rfl
   by_cases q:ns[i]=ms[i]
   ·rw[J4 q]at h
    have qb:(ns[i]==ms[i])=true:=by simp[q]
    rw[qb]
    wp_walk
    rw[cc]
    exact⟨C8 plain_eq_loop _,B2 entry_eq_loop (by rw[m8 plain_eq_loop _];exact ih (i+1) (by omega) prog w A R _ ⟨hl,hb,by omega,by omega,h⟩)⟩
   ·rw[J5 q]at h
    have qb:(ns[i]==ms[i])=false:=by simp[q]
    rw[qb]
    have rl:=mH A.in1 ⟨hp,g,d,tk,os⟩ ns[i] t ms[i] u prog w
    wp_walk using A7 hl,A7 hb
    rw[e1,e2]
    wp_walk using rl
    exact h
  ·have e2:ys[((i:Nat):Int).toNat]?=none:=by simp;omega
   have d2:ms.drop i=[]:=by simp;omega
   rw[i4 a1,d2,de]at h
   wp_walk using A7 hl,A7 hb
   rw[e1,e2]
   wp_walk using A7 hl,A7 hb
   have q:decide (xs.size < ys.size)=false:=A6 (by omega)
   show R (.ok (.ret (.bool (decide (xs.size < ys.size))))) _
   rw[q]
   exact h
theorem sM(l b:Addr)(xs ys:Array Value)(n k:Nat)(dd ee:Option Addr)(sl tl:Array (Option Value))(ns ms:List Int)(hi:IntsAre xs.toList ns)(hj:IntsAre ys.toList ms):
  Meets (Builtin.«list.__lt__» ⟨[.ref l,.ref b],[]⟩) (λ A R s=>s.heap.get? l=some {cls:=.type "list",dict:=dd,data:=.seq xs n,slots:=sl}/\s.heap.get? b=some {cls:=.type "list",dict:=ee,data:=.seq ys k,slots:=tl}/\
    R (.ok (.ret (.bool (lexLt ns ms)))) s):=by
 intro prog w A R s h
 obtain⟨hp,g,d,tk,os⟩:=s
 obtain⟨hl,hb,h⟩:=h
 have f3:=AutoSeq1.sub_list_list
 wp_walk using A7 hl,A7 hb
 exact⟨C8 plain_eq_loop _,B2 entry_eq_loop (by rw[m8 plain_eq_loop _];exact Gd l b xs ys n k dd ee sl tl ns ms hi hj _ 0 rfl prog w A R _ ⟨hl,hb,E3 _,E3 _,h⟩)⟩
theorem BL{prog:Program}{w:World}{A:Around}{E:Value->Shared->Prop}{s:Shared}{l b:Addr}{xs ys:Array Value}{ns ms:List Int}{Q:Value->Shared->Prop}(hl:s.heap.IsList l xs)(hb:s.heap.IsList b ys)(hi:IntsAre xs.toList ns)(hj:IntsAre ys.toList ms)
  (hu:A.units < cLine) (h:Q (.bool (lexLt ns ms)) s):wpAny (model prog w) A (compareOp .Lt (.ref l) (.ref b)) Q E s:=by
 obtain⟨⟨c1,dd,da,sl⟩,o1,k1,n,d1⟩:=id hl
 obtain⟨⟨c2,ee,db,tl⟩,o2,k2,m,d2⟩:=id hb
 simp only at k1 d1 k2 d2
 subst k1 d1 k2 d2
 exact richCompare_meets_room (op:=.Lt) ⟨_,o1,rfl⟩ ⟨_,o2,rfl⟩ PySem.F.slot_list_lt PySem.F.entry_list_lt (PySem.F.args_list_lt_2 _ _) (sM l b xs ys n m dd ee sl tl ns ms hi hj)
  ⟨o1,o2,show Value.bool (lexLt ns ms)≠Value.notImplemented/\Q (.bool (lexLt ns ms)) s from⟨(λ x=>nomatch x),h⟩⟩ hu
end L2
namespace L2
open PySem PySem.Spec PyProof.Rows L5
def Sq(b:Bool)(K:PySem.W.Frag)(H:Hp)(a:Addr)(xs:List V):Prop:=match b with
 |true=>fz K H a xs
 |false=>du K H a xs
def P'(b:Bool):String:=match b with
 |true=>"tuple_iterator"
 |false=>"list_iterator"
def vL(b:Bool):Heap->Addr->Array Value->Prop:=match b with
 |true=>Heap.IsTuple
 |false=>Heap.IsList
theorem iX:∀b,NK (P' b) (vL b)
 |true=>sj
 |false=>FW
section
variable {X:Cx}{pins:List (Addr×Obj)}{σ:St}{H:Hp}{s:Shared}{a v:Addr}{xs ys:List V}
theorem eg(I:Inv X pins σ H s):∀{b:Bool},Sq b X.K H a xs->∃au:List Value,Vals xs au/\vL b s.heap a au.toArray
 |true,h=>let⟨au,r,p,_⟩:=I.tuple h;⟨au,r,p⟩
 |false,h=>let⟨au,r,p,_⟩:=I.list h;⟨au,r,p.isList⟩
theorem uP(I:Inv X pins σ H s):∀{b:Bool},Sq b X.K H a xs->Sq b X.K H a ys->xs=ys
 |true,h,q=>I.oo h q
 |false,h,q=>I.sL h q
theorem wK{u:HO}(h:Rd H a u):∃o,H a=some o:=by
 rcases h with h|⟨o,h⟩
 ·exact⟨_,h⟩
 ·exact⟨_,h⟩
theorem zY:∀{b:Bool} {K:PySem.W.Frag},Sq b K H a xs->(∃o,H a=some o)\/∃o,K.lookup a=some o
 |true,K,h=>by
  rcases h with h|⟨o,au,n,hk,_⟩
  ·exact .inl (wK h)
  ·exact .inr ⟨o,hk⟩
 |false,K,h=>by
  rcases h with h|⟨o,au,n,hk,_⟩
  ·exact .inl (wK h)
  ·exact .inr ⟨o,hk⟩
theorem gj(I:Inv X pins σ H s)(f:fS X pins H v){b:Bool}(h:Sq b X.K H a xs):a≠v:=λ e=>by
 subst e
 rcases zY h with⟨o,q⟩|⟨o,q⟩
 ·rw[f.1]at q;cases q
 ·have q:=I.ok.mod.QY a o q
  rcases f.2.2.2.1 with z|z
  ·exact I.ok.yP a o q z
  ·exact absurd (q8 (D3 q) (D9 I.ok.DC z)) (C5 _)
theorem hV{t':Nat}{ch:List Addr}{h':Heap}(I:Inv X pins σ H s)(k:∀b o,b∉ch->s.heap.get? b=some o->h'.get? b=some o)(hf:∀b∈ch,fS X pins H b):Inv X pins σ H {s with heap:=h',toks:=t'}:=by
 have Ov:∀b u,H b=some u->b∉ch:=λ b u e z=>by rw[(hf b z).1]at e;cases e
 refine I.step (g':=s.gens) (d':=s.drawn) (ch:=ch) (λ b hb=>?_) (λ b o _ _ hc e _=>k b o hc e) (λ b o _ _ hc e _=>⟨o.slots,k b o hc e⟩) (λ _ _ _ _ n=>n)
  (λ b o hc e=>⟨o,k b o hc e⟩) (λ _ _ e=>e) (λ _ _ _ e=>e) (λ b ps e=>⟨#[],by rw[e];simp⟩) (λ m hm=>?_) (λ b u e=>?_) I.bare
 ·obtain⟨f0,f1,f2,f3,f4,f5⟩:=hf b hb
  exact⟨f3,f1,f4,f5⟩
 ·obtain⟨o,es,ep,ho,r⟩:=hm
  exact⟨o,es,ep,k _ o (λ z=>(hf _ z).2.1 rfl) ho,r⟩
 ·refine(I.bN b u e).kM (λ c v hc q=>k c v ?_ q) (λ _ q=>q) λ _ _ q=>q
  rcases hc with z|z
  ·rw[z];exact Ov b u e
  ·exact Ov c _ z
end
def Rv(K:PySem.W.Frag)(b1 b2:Bool)(l m:Addr):It:=
 ⟨λ i H=>∃xs ys x y,Sq b1 K H l xs/\Sq b2 K H m ys/\xs[i]?=some x/\ys[i]?=some y,
  λ i H v H'=>∃(p:Addr) (x y:V),H p=none/\v=.ref p/\H'=upd H p (.tup [x,y])/\(∀xs,Sq b1 K H l xs->xs[i]?=some x)/\∀ys,Sq b2 K H m ys->ys[i]?=some y,
  λ i H=>∃xs ys,Sq b1 K H l xs/\Sq b2 K H m ys/\(xs.length<=i\/ys.length<=i)⟩
structure Zb(z u v a b:Addr):Prop where
 uz:u≠z
 vz:v≠z
 az:a≠z
 bz:b≠z
 uv:u≠v
 ua:u≠a
 ub:u≠b
 va:v≠a
 vb:v≠b
 ab:a≠b
def U'(b1 b2:Bool)(z u v a b l m:Addr)(i:Nat)(h:Heap):Prop:=IsZip h z u v .none/\IsPair h u (.ref a) (.ref b)/\(∃c d,IsPair h v c d)/\dG (P' b1) h a l i/\dG (P' b2) h b m i
theorem Hl{X:Cx}{pins:List (Addr×Obj)}{σ:St}{H:Hp}{s:Shared}{b1 b2:Bool}{z u v a b l m:Addr}{xs ys:List V}(I:Inv X pins σ H s)(B:Zb z u v a b)(hf:∀c∈[z,u,v,a,b],fS X pins H c)(hl:Sq b1 X.K H l xs)(hm:Sq b2 X.K H m ys):Za z u v a b l m:=
 ⟨B.uz,B.vz,B.az,B.bz,B.uv,B.ua,B.ub,B.va,B.vb,B.ab,gj I (hf z (by simp)) hl,gj I (hf v (by simp)) hl,gj I (hf a (by simp)) hl,gj I (hf b (by simp)) hl,
  gj I (hf z (by simp)) hm,gj I (hf v (by simp)) hm,gj I (hf a (by simp)) hm,gj I (hf b (by simp)) hm⟩
theorem zU{P:Program}{w:World}{K:PySem.W.Frag}{es:List Expr}{k0}{pos:Pos}(b1 b2:Bool){z u v a b:Addr}(B:Zb z u v a b)(l m:Addr):Turn P w K (.Tuple es k0 pos) (Rv K b1 b2 l m) [z,u,v,a,b] z (U' b1 b2 z u v a b l m) where
 mem:=by simp
 obj:=λ i h st c hc=>by
  obtain⟨hz,hu,⟨x,y,hv⟩,⟨oa,ha,_,da⟩,⟨ob,hb,_,db⟩⟩:=st
  rcases C7.mp hc with rfl|hc
  ·exact⟨_,hz,λ v z=>by cases z⟩
  rcases C7.mp hc with rfl|hc
  ·exact⟨_,hu,λ v z=>by cases z⟩
  rcases C7.mp hc with rfl|hc
  ·exact⟨_,hv,λ v z=>by cases z⟩
  rcases C7.mp hc with rfl|hc
  ·exact⟨_,ha,λ v z=>by rw[da]at z;cases z⟩
  rcases C7.mp hc with rfl|hc
  ·exact⟨_,hb,λ v z=>by rw[db]at z;cases z⟩
  ·cases hc
 keep:=λ i h h' st q=>by
  obtain⟨hz,hu,⟨x,y,hv⟩,ha,hb⟩:=st
  exact⟨q z (by simp) _ hz,q u (by simp) _ hu,⟨x,y,q v (by simp) _ hv⟩,ha.keep λ o e=>q a (by simp) o e,hb.keep λ o e=>q b (by simp) o e⟩
 item:=by
  intro X hP hw hK hc i pins s σ H E I hf st hg
  subst hP hw hK
  obtain⟨xs,ys,x,y,hl,hm,hx,hy⟩:=hg
  obtain⟨hz,hu,⟨c,d,hv⟩,ha,hb⟩:=st
  obtain⟨Lu,r1,p1⟩:=eg I hl
  obtain⟨Q0,r2,p2⟩:=eg I hm
  obtain⟨u1,e1,q1⟩:=r1.get hx
  obtain⟨u2,e2,q2⟩:=r2.get hy
  have D:=Hl I B hf hl hm
  refine BB (iX b1) (iX b2) D hz hu hv ha hb p1 p2 (x:=u1) (y:=u2) (by simpa using e1) (by simpa using e2) λ g g1 g2 g3 g4 g5 g6 g7=>?_
  have hn:H s.heap.objs.size=none:=I.bN.fresh (E1 _)
  have zd:∀c∈[z,v,a,b],fS X pins H c:=λ c hc=>hf c (by simp at hc ⊢;rcases hc with rfl|rfl|rfl|rfl <;> simp)
  have I1:Inv X pins σ H {s with heap:=g}:=hV (t':=s.toks) I (λ c o hc e=>g7 c o (λ z=>hc (by simp[z])) (λ z=>hc (by simp[z])) (λ z=>hc (by simp[z])) (λ z=>hc (by simp[z])) e) zd
  refine⟨_,rfl,wpAny_letOwnedTupleGo_zip (s:={s with heap:=g}) g1 λ g' z' sb=>?_⟩
  have I2:Inv X pins σ H {s with heap:=g'}:=hV (s:={s with heap:=g}) (t':=s.toks) (ch:=[z]) I1 (λ c o hc e=>sb.extBut _ _ (λ z=>hc (by simp[z])) e) (λ c hc=>zd c (by simp at hc ⊢;exact .inl hc))
  have fo:=I.iu (H':=H) (E1 s.heap.objs.size) hn
  have QX:z < s.heap.objs.size:=D3 hz
  have t5:IsPair g' s.heap.objs.size u1 u2:=sb.extBut _ _ (Nat.ne_of_gt QX) g5
  have I3:Inv X pins σ (upd H s.heap.objs.size (.tup [x,y])) {s with heap:=g'}:=Inv.oq I2 hn ⟨show 2<=sizeLine by decide,[u1,u2],.cons q1 (.cons q2 .nil),⟨_,t5,rfl,_,rfl⟩⟩ fo.2.1 (D9 I.sz (E1 _)) fo.2.2.2.2.1 fo.2.2.2.2.2
  refine⟨.ref s.heap.objs.size,_,I3,rfl,⟨s.heap.objs.size,x,y,hn,rfl,rfl,λ Rz h'=>by rw[uP I h' hl];exact hx,λ XD h'=>by rw[uP I h' hm];exact hy⟩,?_,λ c hc=>?_⟩
  ·exact⟨z',sb.extBut _ _ B.uz (g7 _ _ B.uz B.uv B.ua B.ub hu),⟨_,_,sb.extBut _ _ B.vz g2⟩,g3.keep λ o e=>sb.extBut _ _ B.az e,g4.keep λ o e=>sb.extBut _ _ B.bz e⟩
  ·have fO:∀c∈[z,u,v,a,b],c < s.heap.objs.size:=λ c hc=>by
    obtain⟨_,qa,_⟩:=ha
    obtain⟨_,qb,_⟩:=hb
    simp at hc
    rcases hc with rfl|rfl|rfl|rfl|rfl
    ·exact D3 hz
    ·exact D3 hu
    ·exact D3 hv
    ·exact D3 qa
    ·exact D3 qb
   rw[aP (D1 (fO c hc))]
   exact(hf c hc).1
 done:=by
  intro X hP hw hK hc i pins s σ H E I hf st hg
  subst hP hw hK
  obtain⟨xs,ys,hl,hm,he⟩:=hg
  obtain⟨hz,hu,⟨c,d,hv⟩,ha,hb⟩:=st
  obtain⟨Lu,r1,p1⟩:=eg I hl
  obtain⟨Q0,r2,p2⟩:=eg I hm
  have D:=Hl I B hf hl hm
  have l1:=r1.length
  have l2:=r2.length
  refine BV (I.ok.hd hc) (iX b1) (iX b2) D hz hu hv ha hb p1 p2 ?_ λ g g7=>⟨rfl,hV (t':=s.toks) (ch:=[z,v,a,b]) I (λ c o hc e=>g7 c o (λ z=>hc (by simp[z])) (λ z=>hc (by simp[z])) (λ z=>hc (by simp[z])) (λ z=>hc (by simp[z])) e) λ c hc=>hf c (by simp at hc ⊢;rcases hc with rfl|rfl|rfl|rfl <;> simp)⟩
  rcases he with q|q
  ·exact .inl (by simp;omega)
  ·exact .inr (by simp;omega)
 self:=λ _ _ _ _ _ st h=>wpAny_pyIter_zip st.1 h
section
variable {X:Cx}{es:List Expr}{k0:_}{mj:Pos}{a b:Expr}{ta:TA}{p pos:Pos}
def SI(K:PySem.W.Frag)(ta:TA):TI:=λ σ H R=>ta σ H λ vs H1=>∃(b1 b2:Bool) (l m:Addr),vs=[.ref l,.ref m]/\(∃xs,Sq b1 K H1 l xs)/\(∃ys,Sq b2 K H1 m ys)/\R (Rv K b1 b2 l m) H1
theorem Kg(hg:Gl X "zip")(hm:X.mg "zip"=none)(ha:PA X [a,b] ta)(hs:starEach [a,b] X.env=[(false,eval a X.env),(false,eval b X.env)]:=by rfl)(gI:starEach [b] X.env=[(false,eval b X.env)]:=by rfl):
  PI X (.Tuple es k0 mj) (.Call (.Name "zip" p) [a,b] [] pos) (SI X.K ta):=by
 intro pins s σ H R I h
 refine Call_ (eZ I hg hm boot_zip (c9 (cP (ha pos pins s σ H _ I h) λ us s1 ⟨vs,H1,I1,r1,q1⟩=>?_) (by rw[hs,gI]) (by rw[gI];rfl)))
 obtain⟨b1,b2,l,m,e,⟨xs,hl⟩,⟨ys,hm⟩,q⟩:=q1
 subst e
 obtain⟨u1,u2,rfl,r,r'⟩:=vals2 r1
 cases(show u1=Value.ref l from r)
 cases(show u2=Value.ref m from r')
 obtain⟨Lu,r1,p1⟩:=eg I1 hl
 obtain⟨Q0,r2,p2⟩:=eg I1 hm
 refine K8 (iX b1) (iX b2) p1 p2 λ g g1 g2 g3 g4 g5 g6 g7=>wpAny_pyIter_zip (s:={s1 with heap:=g}) g1 ?_
 have I2:Inv X pins σ H1 {s1 with heap:=g}:=I1.kept (t':=s1.toks) g7
 have fr:∀c,s1.heap.objs.size<=c->fS X pins H1 c:=λ c hc=>I1.iu hc (I1.bN.fresh hc)
 refine⟨_,[s1.heap.objs.size+4,s1.heap.objs.size+2,s1.heap.objs.size+3,s1.heap.objs.size,s1.heap.objs.size+1],_,_,H1,rfl,I2,zU b1 b2 ⟨?_,?_,?_,?_,?_,?_,?_,?_,?_,?_⟩ l m,⟨g1,g2,⟨_,_,g3⟩,g4,g5⟩,λ c hc=>fr c ?_,q⟩
 any_goals (show(_:Nat)≠_;omega)
 simp at hc
 rcases hc with rfl|rfl|rfl|rfl|rfl <;> omega
end
end L2
namespace L3
open PySem PySem.Spec L2 L5
def hX(ds es:List D):List D:=(ds.zip es).map λ p=>D.tup [p.1,p.2]
theorem qU(ds es:List D):(hX ds es).length=min ds.length es.length:=by simp[hX]
end L3
namespace L5
open PySem PySem.W PySem.Calls PyProof.Rows
section
variable {prog:Program}{w:World}{A:Around}{E:Value->Shared->Prop}{s:Shared}
def Out{α:Type}(lt:Nat->Nat->Bool)(vs:List α)(d:α)(out:List α):Prop:=∃p:Array Nat,Pm vs.length p/\Up lt p vs.length/\out=p.toList.map λ i=>vs.getD i d
theorem Fy{α:Type}{lt:Nat->Nat->Bool}(O:Ord lt){vs:List α}(d:α)(h:vs.length < 2):Out lt vs d vs:=by
 refine⟨List.toArray (List.range vs.length),Array.Perm.refl _,λ i j nH hj=>?_,?_⟩
 ·have:i=j:=by omega
  subst this
  exact O.refl _
 ·match vs,h with
  |[],_=>rfl
  |[v],_=>rfl
theorem xk{a kS:Addr}{e e1:Nat}{ks out:List Value}{st:SortSt}{P:PySem.Fin->Shared->Prop}(hk:s.heap.get? kS=some (seqObj "list" (List.toArray ks) e))(ha:s.heap.get? a=some (seqObj "list" #[] e1))(f_:a≠kS)(XW:ks.length < 1000000)(XS:out.length < 1000000)
  (ho:(arrOf st).map (·.2)=List.toArray out) (hf:failedOf st=none)
  (h:∀h' c,h'.get? a=some (seqObj "list" (List.toArray out) c)->(∀b o,b≠a->b≠kS->s.heap.get? b=some o->h'.get? b=some o)->P (.done (.ret .none)) {s with heap:=h'}):wpAny (model prog w) A (ksk_tail a false e1 (.ref kS) st) P E s:=by
 unfold ksk_tail
 try dsimp only
 rw[ho]
 have s1:=m9 s.heap kS (Obj.mapSeq λ _=>(#[]:Array Value))
 have a1:(s.heap.update kS (Obj.mapSeq λ _=>(#[]:Array Value))).get? a=some (seqObj "list" #[] e1):=(s1.2 a f_).trans ha
 have s2:=m9 (s.heap.update kS (Obj.mapSeq λ _=>(#[]:Array Value))) a (Obj.mapSeq λ _=>List.toArray out)
 refine E9 (listUpdate_at hk rfl (E9 (E8 (E9 (seqEpoch_at a1 rfl (E9 (listUpdate_at a1 rfl ?_ (E3 _) ?_)))))) (by rw[x4,E2];omega) (E3 _))
 ·rw[hf]
  simp only[bne_self_eq_false,p6,H9]
  exact G0 (h _ _ (get?_update_seq a1 λ _=>List.toArray out) λ b o b1 b2 q=>(s2.2 b b1).trans ((s1.2 b b2).trans q))
 ·simp only[p6,H9]
  rw[x4,E2];omega
theorem BW{a kS:Addr}{e e1:Nat}{ks vs:List Value}{κ:SortKind}{lt:Nat->Nat->Bool}{P:PySem.Fin->Shared->Prop}(O:Ord lt)(hl:ks.length=vs.length)(uC:vs.length < 1000000)(hk:s.heap.get? kS=some (seqObj "list" (List.toArray ks) e))(ha:s.heap.get? a=some (seqObj "list" #[] e1))(f_:a≠kS)
  (CA:2<=vs.length->∀C:SortKind->Shared->Prop,C κ s->wpAny (model prog w) A (keyKind' (List.toArray ks)) C E s)
  (hc:2<=vs.length->∀i j C,i < vs.length->j < vs.length->C (lt i j) s->wpAny (model prog w) A (keyLt' κ (ks.getD i Value.none) (ks.getD j Value.none)) C (λ _ _=>False) s)
  (h:∀out h' c,Out lt vs Value.none out->h'.get? a=some (seqObj "list" (List.toArray out) c)->(∀b o,b≠a->b≠kS->s.heap.get? b=some o->h'.get? b=some o)->P (.done (.ret .none)) {s with heap:=h'}):
  wpAny (model prog w) A (ksk_end a false vs.toArray e1 (.ref kS) (List.toArray ks)) P E s:=by
 unfold ksk_end
 try dsimp only
 simp only[p6,H9]
 by_cases h2:vs.length < 2
 ·have z2:vs.toArray.size < 2:=by rw[x4];exact h2
  rw[J4 z2,J4 z2]
  refine E9 (G0 (E9 ?_))
  rw[StateT.run_pure]
  refine G0 ?_
  refine xk hk ha f_ (by omega) uC (st:=SortSt.mk' general' ((List.toArray ks).zip vs.toArray) #[] 7 none) ?_ rfl λ h' c a1 a2=>h vs h' c (Fy O _ h2) a1 a2
  show((List.toArray ks).zip vs.toArray).map (·.2)=_
  apply Array.toList_inj.mp
  simp
  exact map_snd_zip (by omega)
 ·have z2:¬vs.toArray.size < 2:=by rw[x4];exact h2
  rw[J5 z2,J5 z2]
  refine E9 (CA (by omega) _ ?_)
  refine E9 (G7 (BZ O hl (hc (by omega))) ?_ λ _ _ x=>x)
  rintro⟨⟨⟩,aG⟩ s' ⟨rfl,p,hp,Wc,hf,p1,p2⟩
  try dsimp only
  refine xk hk ha f_ (by omega) ?_ (kat_snds hl Wc) hf λ h' c a1 a2=>h _ h' c ⟨p,p1,p2,rfl⟩ a1 a2
  rw[B4,n9,hp]
  exact uC
theorem xm{kS q:Addr}{body:Value->PUnit->Sem (ForInStep PUnit)}{J:List Value->Nat->Shared->Prop}{vs:List Value}
  (hb:∀x ks e (s:Shared),J ks e s->vs[ks.length]?=some x->wpAny (model prog w) A (body x ⟨⟩) (λ r s'=>r=.yield ⟨⟩/\∃k c,J (ks++[k]) c s') E s):∀(r ks:List Value) (e:Nat) (s:Shared),vs.drop ks.length=r->ks.length<=vs.length->J ks e s->
   wpAny (model prog w) A (forIn r PUnit.unit body) (λ _ s'=>∃ks e,ks.length=vs.length/\J ks e s') E s
 |[],ks,e,s,hr,hl,h=>by
  rw[forIn_nil]
  exact G0 ⟨ks,e,B7 hl (by simpa using hr),h⟩
 |x::r,ks,e,s,hr,hl,h=>by
  rw[forIn_cons]
  have fO:ks.length < vs.length:=by
   refine y0 λ z=>?_
   rw[j9 z]at hr
   cases hr
  rw[i4 fO]at hr
  injection hr with e1 e2
  refine E9 (G7 (hb x ks e s h (by rw[i8 fO,e1])) (λ y s' hy=>?_) λ _ _ z=>z)
  obtain⟨rfl,k,c,h2⟩:=hy
  exact xm (kS:=kS) (q:=q) hb r (ks++[k]) c s' (by rw[p5,k9];exact e2) (by rw[p5,k9];omega) h2
theorem xl{a kS q:Addr}{e1:Nat}{vs:List Value}{P:PySem.Fin->Shared->Prop}{J:List Value->Nat->Shared->Prop}(uC:vs.length < 1000000)(hJ:∀ks e s,J ks e s->s.heap.get? kS=some (seqObj "list" (List.toArray ks) e)/\ks.length<=vs.length)
  (O5:∀x ks e (s:Shared),J ks e s->vs[ks.length]?=some x->wpAny (model prog w) A (call (.ref q) [x]) (λ k s'=>s'.heap.get? kS=some (seqObj "list" (List.toArray ks) e)/\∀h' c,h'.get? kS=some (seqObj "list" (List.toArray (ks++[k])) c)->Heap.SameBut kS s'.heap h'->J (ks++[k]) c {s' with heap:=h'}) (λ _ _=>False) s)
  (h0:J [] 0 s) (LD:∀ks e s,J ks e s->ks.length=vs.length->wpAny (model prog w) A (ksk_end a false vs.toArray e1 (.ref kS) (List.toArray ks)) P E s):wpAny (model prog w) A (ksk_rest a (.ref q) false vs.toArray e1 (.ref kS)) P E s:=by
 unfold ksk_rest
 refine E9 (G5 ?_)
 first
  |rw[List.forIn_toArray]
  |(rw[<- Array.forIn_toList];simp only[List.toList_toArray])
  |rw[<- Array.forIn_toList]
 refine E9 (G7 (xm (kS:=kS) (q:=q) (J:=J) (vs:=vs) (λ x ks e s' hj hx=>?_) vs [] 0 s rfl (E3 _) h0) (λ _ s' hd=>?_) λ _ _ x=>x)
 ·refine E9 (C3 (G7 (O5 x ks e s' hj hx) (λ k Nq hk=>?_) λ _ _ hF=>hF.elim))
  obtain⟨k1,k2⟩:=hk
  have hz:=(hJ ks e s' hj).2
  have s1:=m9 Nq.heap kS (Obj.mapSeq (·.push k))
  have ea:(List.toArray ks).push k=List.toArray (ks++[k]):=by simp
  try dsimp only
  refine E9 (listUpdate_at k1 rfl (G0 ⟨rfl,k,_,k2 _ _ (by rw[<- ea];exact get?_update_seq k1 (·.push k)) s1⟩) (by rw[x4,E2];omega) (D9 (Nat.le_of_eq (Array.size_push ..)) (by rw[x4,E2];omega)))
 ·obtain⟨ks,e,hl,hj⟩:=hd
  try dsimp only
  exact E9 (listItems_at (hJ ks e s' hj).1 rfl (LD ks e s' hj hl))
theorem sortedK{l q:Addr}{vs:List Value}{Q:Value->Shared->Prop}(hl:s.heap.IsList l vs.toArray)(uC:vs.length < 1000000)
  (h:∀h' e1,h'.get? (s.heap.objs.size+1)=some (seqObj "list" #[] e1)->h'.get? (s.heap.objs.size+3)=some (seqObj "list" #[] 0)->(∀b o,s.heap.get? b=some o->h'.get? b=some o)->
   wpAny (model prog w) A.in1.in1 (ksk_rest (s.heap.objs.size+1) (.ref q) false vs.toArray e1 (.ref (s.heap.objs.size+3))) (λ f s'=>f=.done (.ret .none)/\Q (.ref (s.heap.objs.size+1)) s') E {s with heap:=h'}):
  wpAny (model prog w) A (call (.builtin "sorted") [.ref l] [(Str.ofString "key",.ref q)]) Q E s:=by
 refine call_function_entry_kw kind_sorted plain_sorted entry_sorted (ksk_s1 _ _) ?_
 unfold Builtin.«sorted»
 refine E9 (m:=checkCount "sorted" 1 1 _) (G0 (E9 (collect_list hl (E9 (wpAny_newList ?_ (by rw[E2];omega))) (by rw[E2];omega))))
 have e1:((s.heap.push (seqObj "list" #[] 0)).update s.heap.objs.size (Obj.mapSeq (·++vs.toArray))).objs.size=s.heap.objs.size+1:=by rw[Heap.size_update,size_push']
 have g1:(((s.heap.push (seqObj "list" #[] 0)).update s.heap.objs.size (Obj.mapSeq (·++vs.toArray))).push (seqObj "list" vs.toArray 0)).get? (s.heap.objs.size+1)=some (seqObj "list" vs.toArray 0):=by rw[<- e1];exact o7 _ rfl
 have k1:∀b o,s.heap.get? b=some o->(((s.heap.push (seqObj "list" #[] 0)).update s.heap.objs.size (Obj.mapSeq (·++vs.toArray))).push (seqObj "list" vs.toArray 0)).get? b=some o:=λ b o q=>by
  have hb:b < s.heap.objs.size:=D3 q
  exact k4 _ (by rw[Heap.get?_update_ne _ _ _ _ (D1 hb)];exact k4 _ q)
 show wpAny _ _ _ _ _ {s with heap:=((s.heap.push (seqObj "list" #[] 0)).update s.heap.objs.size (Obj.mapSeq (·++vs.toArray))).push (seqObj "list" vs.toArray 0)}
 rw[e1]
 refine E9 (C2 (wpAny_call_entry_kw slot_list_sort ⟨_,g1,rfl⟩ entry_list_sort ?body (ksk_l1 _ _)))
 case body=>
  show wpAny (model prog w) A.in1.in1 (Builtin.«list.sort» ⟨[.ref (s.heap.objs.size+1)],[(Str.ofString "key",.ref q)]⟩) _ _ _
  rw[ksk_t1]
  unfold ksk_tree
  generalize hH:((s.heap.push (seqObj "list" #[] 0)).update s.heap.objs.size (Obj.mapSeq (·++vs.toArray))).push (seqObj "list" vs.toArray 0)=H at*
  have eH:H.objs.size=s.heap.objs.size+2:=by rw[<- hH,size_push',e1]
  obtain⟨c1,o1⟩:∃c1,(H.update (s.heap.objs.size+1) (Obj.mapSeq λ _=>(#[]:Array Value))).get? (s.heap.objs.size+1)=some (seqObj "list" #[] c1):=⟨_,get?_update_seq g1 λ _=>#[]⟩
  refine E9 (listItems_at g1 rfl (E9 (listUpdate_at g1 rfl (E9 (seqEpoch_at o1 rfl (E9 (wpAny_newTuple (E9 (wpAny_newList (C2 ?_) (E3 _))) (by show vs.length<=_;rw[E2];omega))))) (by rw[x4,E2];omega) (E3 _))))
  have e2:(H.update (s.heap.objs.size+1) (Obj.mapSeq λ _=>(#[]:Array Value))).objs.size=s.heap.objs.size+2:=by rw[Heap.size_update,eH]
  have e3:((H.update (s.heap.objs.size+1) (Obj.mapSeq λ _=>(#[]:Array Value))).push (seqObj "tuple" vs.toArray 0)).objs.size=s.heap.objs.size+3:=by rw[size_push',e2]
  have g3:(((H.update (s.heap.objs.size+1) (Obj.mapSeq λ _=>(#[]:Array Value))).push (seqObj "tuple" vs.toArray 0)).push (seqObj "list" #[] 0)).get? (s.heap.objs.size+3)=some (seqObj "list" #[] 0):=by rw[<- e3];exact o7 _ rfl
  show wpAny (model prog w) A.in1.in1 (ksk_rest (s.heap.objs.size+1) (.ref q) false vs.toArray c1 (.ref ((H.update (s.heap.objs.size+1) (Obj.mapSeq λ _=>(#[]:Array Value))).push (seqObj "tuple" vs.toArray 0)).objs.size)) _ _ {s with heap:=((H.update (s.heap.objs.size+1) (Obj.mapSeq λ _=>(#[]:Array Value))).push (seqObj "tuple" vs.toArray 0)).push (seqObj "list" #[] 0)}
  rw[e3]
  refine G7 (h _ c1 (k4 _ (k4 _ o1)) g3 λ b o x=>k4 _ (k4 _ (by
   have hb:b < s.heap.objs.size:=D3 x
   rw[Heap.get?_update_ne _ _ _ _ (D1 (Nat.lt_succ_of_lt hb))];exact k1 b o x))) (λ f s' hf=>?_) λ _ _ x=>x
  obtain⟨rfl,hq⟩:=hf
  exact⟨_,rfl,G0 ⟨_,rfl,hq⟩⟩
end
end L5
namespace L2
open PySem PySem.Spec PyProof.Rows L5 PySem.W
open HT (lexLt cB dJ c_ de)
theorem eA{h:Heap}:∀{vs:List Value} {ns:List Int},IntsAre vs ns->ReadsAll h vs (ns.map PyData.int) []
 |_,_,.nil=>ReadsAll.nil
 |_,_,.cons n t r=>ReadsAll.cons (Reads.int n t) (eA r)
abbrev Ky:=Int×List Int
def klt(a b:Ky):Bool:=if a.1=b.1 then lexLt a.2 b.2 else decide (a.1 < b.1)
theorem xh:∀a:List Int,lexLt a a=false
 |[]=>rfl
 |x::a=>by rw[cB,J4 rfl];exact xh a
theorem sN:∀a b:List Int,lexLt a b=true->lexLt b a=false
 |[],[],h=>by cases h
 |[],_::_,_=>rfl
 |_::_,[],h=>by cases h
 |x::a,y::b,h=>by
  rw[cB]at h ⊢
  by_cases e:x=y
  ·rw[J4 e]at h
   rw[J4 e.symm]
   exact sN a b h
  ·rw[J5 e]at h
   rw[J5 (J3 e)]
   have:=of_decide_eq_true h
   exact A6 (by omega)
theorem BP:∀a b c:List Int,lexLt a b=false->lexLt b c=false->lexLt a c=false
 |_,_::_,[],_,_=>by rename_i a _ _ _ _;cases a <;> rfl
 |[],[],c,_,h=>h
 |_::_,[],[],_,_=>rfl
 |_::_,[],_::_,_,h=>by cases h
 |[],_::_,_::_,h,_=>by cases h
 |x::a,y::b,z::c,h,g=>by
  rw[cB]at h g ⊢
  by_cases e:x=y
  ·rw[J4 e]at h
   subst e
   by_cases e2:x=z
   ·rw[J4 e2]at g ⊢
    exact BP a b c h g
   ·rw[J5 e2]at g ⊢
    exact g
  ·rw[J5 e]at h
   have h:=of_decide_eq_false h
   by_cases e2:y=z
   ·subst e2
    rw[J5 e]
    exact A6 h
   ·rw[J5 e2]at g
    have g:=of_decide_eq_false g
    have:x≠z:=by omega
    rw[J5 this]
    exact A6 (by omega)
theorem oE:∀a b:List Int,a.length=b.length->lexLt a b=false->lexLt b a=false->a=b
 |[],[],_,_,_=>rfl
 |x::a,y::b,l,h,g=>by
  rw[cB]at h g
  by_cases e:x=y
  ·subst e
   rw[J4 rfl]at h g
   rw[oE a b (by simpa using l) h g]
  ·rw[J5 e]at h
   rw[J5 (J3 e)]at g
   have h:=of_decide_eq_false h
   have g:=of_decide_eq_false g
   omega
theorem BX(a b:Ky)(h:klt a b=true):klt b a=false:=by
 unfold klt at h ⊢
 by_cases e:a.1=b.1
 ·rw[J4 e]at h
  rw[J4 e.symm]
  exact sN _ _ h
 ·rw[J5 e]at h
  rw[J5 (J3 e)]
  have:=of_decide_eq_true h
  exact A6 (by omega)
theorem Lh(a b c:Ky)(h:klt a b=false)(g:klt b c=false):klt a c=false:=by
 unfold klt at h g ⊢
 by_cases e:a.1=b.1
 ·rw[J4 e]at h
  by_cases e2:b.1=c.1
  ·rw[J4 e2]at g
   rw[J4 (e.trans e2)]
   exact BP _ _ _ h g
  ·rw[J5 e2]at g
   rw[J5 (by rw[e];exact e2),e]
   exact g
 ·rw[J5 e]at h
  have h:=of_decide_eq_false h
  by_cases e2:b.1=c.1
  ·rw[J5 (by rw[<- e2];exact e),<- e2]
   exact A6 h
  ·rw[J5 e2]at g
   have g:=of_decide_eq_false g
   have:a.1≠c.1:=by omega
   rw[J5 this]
   exact A6 (by omega)
theorem xo(key:Nat->Ky):Ord λ i j=>klt (key i) (key j):=⟨λ a b h=>BX _ _ h,λ a b c h g=>Lh _ _ _ h g⟩
def jv(K:PySem.W.Frag)(b:Bool)(H:Hp)(k:V)(c:Ky):Prop:=∃t m,k=.ref t/\fz K H t [.int c.1,.ref m]/\Sq b K H m (c.2.map V.int)
section
variable {X:Cx}{pins:List (Addr×Obj)}{σ:St}{H:Hp}{s:Shared}
theorem pY(I:Inv X pins σ H s){b:Bool}{k:V}{c:Ky}{u:Value}(h:jv X.K b H k c)(r:RelV k u):∃(t m:Addr) (o:Obj) (tk:Tok) (n:Nat) (au:List Value),u=.ref t/\s.heap.get? t=some o/\o.cls=.type "tuple"/\o.data=.seq #[.int c.1 tk,.ref m] n/\vL b s.heap m au.toArray/\IntsAre au c.2:=by
 obtain⟨t,m,rfl,h1,h2⟩:=h
 cases(show u=Value.ref t from r)
 obtain⟨au,r1,⟨o,ho,hc,n,hd⟩,_⟩:=I.tuple h1
 obtain⟨u1,u2,rfl,⟨tk,rfl⟩,q2⟩:=vals2 r1
 cases(show u2=Value.ref m from q2)
 obtain⟨Q0,r2,p2⟩:=eg I h2
 exact⟨t,m,o,tk,n,Q0,rfl,ho,hc,hd,p2,intsAre_of r2⟩
theorem GP{A:Around}{b:Bool}{m m':Addr}{xs ys:List Value}{ns ms:List Int}(h1:vL b s.heap m xs.toArray)(h2:vL b s.heap m' ys.toArray)(i1:IntsAre xs ns)(i2:IntsAre ys ms)(hu:A.units+1 < cLine):SeqAt.EqAt A s (.ref m) (.ref m') (decide (ns=ms)):=by
 have dp:∀l:List Int,PyData.depthAll (l.map PyData.int)=0:=λ l=>ke_depthAll l
 cases b with
 |true=>
  obtain⟨o,ho,hc,n,hd⟩:=h1
  obtain⟨o',qj,ze,n',jf⟩:=h2
  have q:=x5 (.tuple (ns.map .int)) (.tuple (ms.map .int)) A s (.ref m) (.ref m') _ _ (reads_tuple_at ho hc hd (eA i1)) (reads_tuple_at qj ze jf (eA i2)) (by simp[PyData.canLay0,ke_canLayAll0]) (by simp[PyData.canLay0,ke_canLayAll0]) (by simp[PyData.depth,dp];omega)
  rw[show PyData.eqv (.tuple (ns.map .int)) (.tuple (ms.map .int))=decide (ns=ms) by simp only[PyData.eqv];exact ked_eqvAll ns ms]at q
  exact q
 |false=>
  obtain⟨o,ho,hc,n,hd⟩:=h1
  obtain⟨o',qj,ze,n',jf⟩:=h2
  have q:=x5 (.list (ns.map .int)) (.list (ms.map .int)) A s (.ref m) (.ref m') _ _ (reads_list_at ho hc hd (eA i1)) (reads_list_at qj ze jf (eA i2)) (by simp[PyData.canLay0,ke_canLayAll0]) (by simp[PyData.canLay0,ke_canLayAll0]) (by simp[PyData.depth,dp];omega)
  rw[show PyData.eqv (.list (ns.map .int)) (.list (ms.map .int))=decide (ns=ms) by simp only[PyData.eqv];exact ked_eqvAll ns ms]at q
  exact q
theorem Ge{prog:Program}{w:World}{A:Around}{E:Value->Shared->Prop}{b:Bool}{m m':Addr}{xs ys:List Value}{ns ms:List Int}{Q:Value->Shared->Prop}(h1:vL b s.heap m xs.toArray)(h2:vL b s.heap m' ys.toArray)(i1:IntsAre xs ns)(i2:IntsAre ys ms)(hu:A.units < cLine)
  (h:Q (.bool (lexLt ns ms)) s):wpAny (model prog w) A (compareOp .Lt (.ref m) (.ref m')) Q E s:=by
 cases b with
 |true=>exact HT.vF (show IsTup s.heap m xs.toArray from h1) (show IsTup s.heap m' ys.toArray from h2) i1 i2 hu h
 |false=>exact BL h1 h2 i1 i2 hu h
theorem BY{A:Around}(I:Inv X pins σ H s)(hu:A.units+1 < cLine){b:Bool}{k k':V}{c c':Ky}{u u':Value}(h:jv X.K b H k c)(h':jv X.K b H k' c')(r:RelV k u)(r':RelV k' u'){C:Bool->Shared->Prop}(hC:C (klt c c') s):
  wpAny (model X.prog X.w) A (keyLt' (tuples' true) u u') C (λ _ _=>False) s:=by
 obtain⟨t,m,o,tk,n,au,rfl,ho,_,hd,hm,hi⟩:=pY I h r
 obtain⟨t',m',o',Hq,n',its',rfl,qj,_,jf,gf,HX⟩:=pY I h' r'
 refine kat_lt ho hd qj jf (kat_cons (SeqAt.EqAt.int_int c.1 tk c'.1 Hq X.prog X.w _ _ ?_))
 unfold klt at hC
 by_cases e:c.1=c'.1
 ·rw[J4 e]at hC
  rw[show(c.1==c'.1)=true by simp[e]]
  refine kat_yes (kat_cons (GP hm gf hi HX hu X.prog X.w _ _ ?_))
  by_cases e2:c.2=c'.2
  ·rw[B8 e2]
   rw[e2,xh]at hC
   exact kat_yes (kat_nil hC)
  ·rw[A6 e2]
   exact kat_no (kat_one _ _ (Ge hm gf hi HX (by omega) hC))
 ·rw[J5 e]at hC
  rw[show(c.1==c'.1)=false by simp[e]]
  exact kat_no (oneLt_int hC)
theorem mR(I:Inv X pins σ H s){b:Bool}:∀{kvs:List V} {ks:List Value} {key:Nat->Ky},Vals kvs ks->(∀i k,kvs[i]?=some k->jv X.K b H k (key i))->∃fs,KatTups s.heap ks fs/\fs.length=ks.length/\∀v∈fs,∃i t,v=Value.int i t
 |_,_,_,.nil,_=>⟨[],KatTups.nil,rfl,λ v hv=>by cases hv⟩
 |_,_,key,.cons (a:=k) r rr,h=>by
  obtain⟨fs,h1,h2,h3⟩:=mR I rr (key:=λ i=>key (i+1)) λ i k hk=>h (i+1) k (by simpa using hk)
  obtain⟨t,m,o,tk,n,au,rfl,ho,hc,hd,_,_⟩:=pY I (h 0 _ rfl) r
  refine⟨.int (key 0).1 tk::fs,KatTups.cons ho hc hd rfl h1,by simp[h2],λ v hv=>?_⟩
  rcases C7.mp hv with rfl|hv
  ·exact⟨_,_,rfl⟩
  ·exact h3 v hv
theorem rh{ys:List V}{au:List Value}(r:Vals ys au)(p:List Nat):Vals (p.map λ i=>ys.getD i V.bj) (p.map λ i=>au.getD i Value.none):=by
 induction p with
 |nil=>exact .nil
 |cons i p ih=>
  refine .cons ?_ ih
  show RelV (ys.getD i V.bj) (au.getD i Value.none)
  cases e:ys[i]? with
  |none=>
   have e2:=r.none_of e
   rw[e9,e9,e,e2]
   rfl
  |some y=>
   obtain⟨u,hu,ru⟩:=r.get e
   rw[e9,e9,e,hu]
   exact ru
variable {k:Nat}{q:Addr}{fd:FuncData}{ps:List Str}{sp:Sp}
theorem qy(F:bS X.prog X.w X.K X.mg X.base fc k q fd ps sp)(hb:Binds X.K fd ps [])(hr:cD (k+2) X.A){l:Addr}{ys:List V}{Q:VK}{b:Bool}(I:Inv X pins σ H s)(hl:du X.K H l ys)(uC:ys.length < 1000000)(R:List V->Hp->Prop)(key:Nat->Ky)(h0:R [] H)
  (hc:∀kvs H v,R kvs H->ys[kvs.length]?=some v->sp [v] H (λ k H'=>R (kvs++[k]) H') E0)
  (hk:∀kvs H,R kvs H->kvs.length=ys.length->(∀i k,kvs[i]?=some k->jv X.K b H k (key i))/\∀p out,H p=none->Out (λ i j=>klt (key i) (key j)) ys V.bj out->Q (.ref p) (upd H p (.lst out))):
  wpAny (model X.prog X.w) X.A (call (.builtin "sorted") [.ref l] [(Str.ofString "key",.ref q)]) (EP X pins σ Q) X.xe s:=by
 obtain⟨au,rv,pl,hz⟩:=I.list hl
 have hlen:=rv.length
 have hu:=hr.units
 have room:cD k X.A.in1.in1:=(hr.in1 (k:=k+1)).in1
 refine sortedK pl.isList (by omega) λ g e1 gD gK gk=>?_
 have f1:=I.iu (H':=λ _=>none) (b:=s.heap.objs.size+1) (by omega) rfl
 have f3:=I.iu (H':=λ _=>none) (b:=s.heap.objs.size+3) (by omega) rfl
 have f_:s.heap.objs.size+1≠s.heap.objs.size+3:=by omega
 refine xl (J:=λ ks e s'=>∃kvs H',Inv X ((s.heap.objs.size+3,seqObj "list" (List.toArray ks) e)::(s.heap.objs.size+1,seqObj "list" #[] e1)::pins) σ H' s'/\Vals kvs ks/\R kvs H'/\ks.length<=au.length) (by omega) ?_ ?_ ?_ ?_
 ·rintro ks e s' ⟨kvs,H',I',rk,hR,sY⟩
  exact⟨(I'.pin _ (k8 _ (.head _))).1,sY⟩
 ·rintro x ks e s' ⟨kvs,H',I',rk,hR,sY⟩ hx
  have lk:=rk.length
  obtain⟨y,hy,ry⟩:∃y,ys[kvs.length]?=some y/\RelV y x:=by
   have hi:kvs.length < ys.length:=by
    have:=(i5.mp hx).1
    omega
   obtain⟨u,Gs,ru⟩:=rv.get (i8 hi)
   rw[lk,hx]at Gs
   cases Gs
   exact⟨_,i8 hi,ru⟩
  have call:=hc kvs H' y hR hy
  have r1:Vals [y] [x]:=.cons ry .nil
  have Gz:([x]++([]:List Value)).length=ps.length:=by
   have:=F.len _ _ _ _ call
   simpa using this
  have en:qM X.prog X.w X.K X.mg X.base X.A.in1.in1 X.stack s' H':=I'.LS.in1.in1
  have bt:=hb s' [x] I'.nO Gz
  rw[A3]at bt
  refine wpAny_call (codeAny_mono (F.run X.A.in1.in1 X.stack s' H' ⟨[x],[]⟩ [x] [y] _ E0 room en bt r1 call) λ r s2 hq=>?_)
  cases r with
  |error e=>exact hq
  |ok fl=>
   cases fl with
   |ret u=>
    obtain⟨kv,H2,I2,ru,Tu⟩:=I'.after hq
    have pk:=I2.pin _ (k8 _ (o8 ..))
    refine⟨pk.1,λ h' c Tg sb=>⟨kvs++[kv],H2,?_,rk.append (.cons ru .nil),Tu,?_⟩⟩
    ·have I3:Inv X ((s.heap.objs.size+1,seqObj "list" #[] e1)::pins) σ H2 s2:=I2.cG λ p hp=>I2.pin p (k8 _ (.tail _ hp))
     have pd:=I2.pin _ (k8 _ (List.Mem.tail _ (o8 ..)))
     have fk:fS X ((s.heap.objs.size+1,seqObj "list" #[] e1)::pins) H2 (s.heap.objs.size+3):=⟨pk.2.1,f3.2.1,f3.2.2.1,f3.2.2.2.1,f3.2.2.2.2.1,λ p hp=>by
      rcases B5.mp hp with z|z
      ·exact f3.2.2.2.2.2 p (m6 _ z)
      ·rcases C7.mp z with rfl|z
       ·exact f_
       ·exact f3.2.2.2.2.2 p (k8 _ z)⟩
     have I4:Inv X ((s.heap.objs.size+1,seqObj "list" #[] e1)::pins) σ H2 {s2 with heap:=h'}:=hV (t':=s2.toks) (ch:=[s.heap.objs.size+3]) I3 (λ b o hb e=>(sb.2 b (λ z=>hb (by simp[z]))).trans e) λ b oN=>by
      have:b=s.heap.objs.size+3:=by simpa using oN
      subst this
      exact fk
     refine I4.cG λ p hp=>?_
     rcases C7.mp hp with rfl|z
     ·exact⟨Tg,pk.2.1,f3.2.1,f3.2.2.1,λ v z=>by cases z⟩
     ·exact I4.pin p (k8 _ z)
    ·have:=(i5.mp hx).1
     rw[p5,k9]
     omega
   |next=>exact hq.elim
   |brk=>exact hq.elim
   |cont=>exact hq.elim
 ·have I5:Inv X pins σ H {s with heap:=g}:=I.kept (t':=s.toks) gk
  have hn:∀b,s.heap.objs.size<=b->H b=none:=λ b hb=>I.bN.fresh hb
  refine⟨[],H,I5.cG λ p hp=>?_,.nil,h0,E3 _⟩
  rcases C7.mp hp with rfl|z
  ·exact⟨gK,hn _ (by omega),f3.2.1,f3.2.2.1,λ v z=>by cases z⟩
  ·rcases C7.mp z with rfl|z
   ·exact⟨gD,hn _ (by omega),f1.2.1,f1.2.2.1,λ v z=>by cases z⟩
   ·exact I5.pin p (k8 _ z)
 ·rintro ks e s' ⟨kvs,H',I',rk,hR,_⟩ sY
  have lk:=rk.length
  obtain⟨qk,hQ⟩:=hk kvs H' hR (by omega)
  have pk:=I'.pin _ (k8 _ (o8 ..))
  have pd:=I'.pin _ (k8 _ (List.Mem.tail _ (o8 ..)))
  have Q4:X.A.in1.in1.units+1 < cLine:=by have:=room.units;omega
  refine BW (κ:=tuples' true) (xo key) sY (by omega) pk.1 pd.1 f_ (λ h2 C hC=>?_) (λ h2 i j C hi hj hC=>?_) λ out h' c ho hD CB=>⟨rfl,?_⟩
  ·obtain⟨fs,t1,t2,t3⟩:=mR I' rk qk
   refine kat_kind (T:=.type "int") t1 (by omega) (λ v hv=>?_) rfl hC
   obtain⟨i,t,rfl⟩:=t3 v hv
   exact(show Looks _ s'.heap (pure (Value.type "int")) _ from .now)
  ·have gi:∀i,i < au.length->∃k u,kvs[i]?=some k/\ks.getD i Value.none=u/\RelV k u:=λ i hi=>by
    have HX:i < kvs.length:=by omega
    obtain⟨u,e,r⟩:=rk.get (i8 HX)
    exact⟨_,u,i8 HX,by rw[e9,e];rfl,r⟩
   obtain⟨k1,u1,a1,a2,a3⟩:=gi i hi
   obtain⟨k2,u2,b1,b2,b3⟩:=gi j hj
   rw[a2,b2]
   exact BY I' Q4 (qk i k1 a1) (qk j k2 b1) a3 b3 hC
  ·obtain⟨p,p1,p2,p3⟩:=ho
   subst p3
   have I6:Inv X pins σ H' s':=I'.cG λ p hp=>I'.pin p (k8 _ (.tail _ (.tail _ hp)))
   have I7:Inv X pins σ H' {s' with heap:=h'}:=hV (t':=s'.toks) (ch:=[s.heap.objs.size+1,s.heap.objs.size+3]) I6 (λ b o hb e=>CB b o (λ z=>hb (by simp[z])) (λ z=>hb (by simp[z])) e) λ b oN=>by
    simp at oN
    rcases oN with rfl|rfl
    ·exact⟨pd.2.1,f1.2⟩
    ·exact⟨pk.2.1,f3.2⟩
   have RW:Vals (p.toList.map λ i=>ys.getD i V.bj) (p.toList.map λ i=>au.getD i Value.none):=rh rv _
   have OK:(p.toList.map λ i=>ys.getD i V.bj).length<=sizeLine:=by
    rw[B4,n9,p1.size,E2]
    omega
   refine⟨.ref (s.heap.objs.size+1),_,Inv.oq (D:=s.heap.objs.size+1) (o:=.lst (p.toList.map λ i=>ys.getD i V.bj)) I7 pd.2.1 (show _/\∃(au:List Value) (n:Nat),Vals _ au/\_ from⟨OK,_,c,RW,hD⟩) f1.2.1 (D9 I.sz (by omega)) f1.2.2.2.2.1 f1.2.2.2.2.2,rfl,hQ _ _ pd.2.1 ⟨p,by rw[hlen];exact p1,by rw[hlen];exact p2,rfl⟩⟩
end
end L2
namespace L5
open PySem
theorem DN:fillsNumberSlot (.type "tuple") "mul"=pure false:=fillsNumberSlot_seq (id:="tuple.__mul__") (r:=some (.builtin "tuple.__rmul__")) F.slot_tuple_mul.lookup (by decide+kernel) F.slot_tuple_rmul.lookup (by decide+kernel)
theorem IF:seqRepeat? (.type "tuple")=pure (some (.builtin "tuple.__mul__")):=by
 unfold seqRepeat?
 rw[seqSlot_of (T:="tuple") (name:="__mul__") (id:="tuple.__mul__") F.slot_tuple_mul.lookup (by decide+kernel),seqSlot_of (T:="tuple") (name:="__rmul__") (id:="tuple.__rmul__") F.slot_tuple_rmul.lookup (by decide+kernel)]
 rfl
theorem IH(a:Int)(t:Tok)(l:Addr)(au:Array Value)(n:Nat)(dd:Option Addr)(sl:Array (Option Value)):Meets (Builtin.«int.__rmul__» ⟨[.int a t,.ref l],[]⟩) (λ _ R s=>s.heap.get? l=some {cls:=.type "tuple",dict:=dd,data:=.seq au n,slots:=sl}/\R (.ok (.ret Value.notImplemented)) s):=
 .of_wp λ prog w A R s h=>by
  obtain⟨hp,g,d,tk,os⟩:=s
  obtain⟨hl,h⟩:=h
  wp_walk
  exact⟨_,rfl,h⟩
theorem IG(l:Addr)(au:Array Value)(n:Nat)(dd:Option Addr)(sl:Array (Option Value))(u:Tok):Meets (Builtin.«tuple.__mul__» ⟨[.ref l,.int 1 u],[]⟩) (λ _ R s=>s.heap.get? l=some {cls:=.type "tuple",dict:=dd,data:=.seq au n,slots:=sl}/\R (.ok (.ret (.ref l))) s):=
 .of_wp λ prog w A R s h=>by
  obtain⟨hp,g,d,tk,os⟩:=s
  obtain⟨hl,h⟩:=h
  wp_walk
  exact⟨_,rfl,h⟩
theorem DM(l:Addr)(au:Array Value)(n:Nat)(dd:Option Addr)(sl:Array (Option Value))(x:Int)(u:Tok)(hx:x≠1)(h1: -(2^63)<=x)(h2:x < 2^63)(hi:au.isEmpty=false)(hz:au.size*x.toNat<=sizeLine):
  Meets (Builtin.«tuple.__mul__» ⟨[.ref l,.int x u],[]⟩) (λ _ R s=>s.heap.get? l=some {cls:=.type "tuple",dict:=dd,data:=.seq au n,slots:=sl}/\
   R (.ok (.ret (.ref s.heap.objs.size))) {s with heap:=s.heap.push {cls:=.type "tuple",data:=.seq ((List.replicate x.toNat au).foldl (·++·) #[])}}):=
 .of_wp λ prog w A R s h=>by
  obtain⟨hp,g,d,tk,os⟩:=s
  obtain⟨hl,h⟩:=h
  wp_walk
  rw[J5 (by simp;omega)]
  wp_walk
  by_cases Vy:x<=0
  ·rw[J4 (by simp[Vy])]
   wp_walk
   have e:x.toNat=0:=by omega
   rw[e]at h
   exact⟨_,rfl,h⟩
  ·rw[J5 (by simp[hi];omega)]
   have ez:((au.size:Int)*x)=((au.size*x.toNat:Nat):Int):=by
    rw[Int.natCast_mul,Int.toNat_of_nonneg (by omega)]
   have OK:=hz
   rw[E2]at OK
   rw[J5 (by rw[ez];omega)]
   wp_walk
   rw[J5 (by unfold Builtin.Tuple.tupleTooMany;rw[ez,s9,E2];omega)]
   have hsz:(List.foldl (λ x1 x2=>x1++x2) #[] (List.replicate x.toNat au)).size<=sizeLine:=by
    have f0:∀(m:Nat) (acc:Array Value),(List.foldl (λ x1 x2=>x1++x2) acc (List.replicate m au)).size=acc.size+m*au.size:=by
     intro m
     induction m with
     |zero=>intro acc;simp
     |succ m ih=>intro acc;rw[n6,foldl_cons,ih,Array.size_append,Nat.succ_mul];omega
    rw[f0,Nat.mul_comm]
    simpa using hz
   wp_walk
   exact⟨_,rfl,h⟩
end L5
namespace L2
open PySem PySem.Spec PyProof.Rows L5
section
variable {X:Cx}
theorem wA(ns:List Int):∀n,n<=ns.length->preSum (λ i=>ns.getD i 0) n=(ns.take n).sum
 |0,_=>by simp[preSum]
 |n+1,h=>by
  have hn:n < ns.length:=by omega
  rw[preSum,wA ns n (by omega),take_succ_eq_append_getElem hn,sum_append]
  simp[e9,hn]
theorem nV(hc:X.calm=true):dv X (.builtin "sum") (λ xs H Q=>∃(b:Bool) (p:Addr) (ns:List Int),xs=[.ref p]/\Sq b X.K H p (ns.map V.int)/\Q (.int ns.sum) H):=by
 intro pins s σ H xs us Q I r h
 obtain⟨b,p,ns,rfl,hq,q⟩:=h
 obtain⟨u,rfl,r1⟩:=vals1 r
 cases r1
 obtain⟨au,rv,pl⟩:=eg I hq
 have hi:IntsAre au ns:=intsAre_of rv
 have hlen:au.length=ns.length:=by rw[<- rv.length,B4]
 have hA:X.A.in1.handled=none:=I.ok.hd hc
 have hv:∀i v,au.toArray[i]?=some v->∃t,v=Value.int (ns.getD i 0) t:=λ i v e=>by
  have e:au[i]?=some v:=by simpa using e
  have h1:i < ns.length:=by rw[<- hlen];exact(i5.mp e).1
  obtain⟨t,e2⟩:=lQ hi h1
  rw[e]at e2
  cases e2
  exact⟨t,by simp[e9,h1]⟩
 have ht:preSum (λ i=>ns.getD i 0) au.toArray.size=ns.sum:=by
  rw[x4,hlen,wA ns _ (E1 _),y8]
 cases b with
 |false=>
  have pl:s.heap.IsList p au.toArray:=pl
  have f_:p≠s.heap.objs.size:=by
   obtain⟨o,e,_⟩:=pl
   exact D1 (D3 e)
  refine call_sum_walkG (w5 pl ⟨s.heap.objs.size,_,_,_,_,_,λ i=>ns.getD i 0,rfl,Walks.list hA s.heap.objs.size p f_ au.toArray,⟨⟨_,o7 _ rfl,rfl,rfl⟩,pl.at λ o e=>k4 _ e⟩,?_,hv,λ h' tk t' hk=>?_⟩)
  ·intro b hb
   have:s.heap.objs.size < (s.heap.push {cls:=.type "list_iterator",data:=.fields #[.ref p,.int 0 0]}).objs.size:=by rw[C0];omega
   obtain⟨o,e,_⟩:=pl
   have h2:=D3 e
   simp at hb
   rcases hb with rfl|rfl
   ·exact this
   ·exact Nat.lt_trans h2 this
  ·rw[ht]
   exact⟨.int ns.sum,H,I.kept (t':=tk) λ b o e=>hk b o (by simpa using D1 (D3 e)) (k4 _ e),⟨_,rfl⟩,q⟩
 |true=>
  have pl:s.heap.IsTuple p au.toArray:=pl
  have f_:p≠s.heap.objs.size:=by
   obtain⟨o,e,_⟩:=pl
   exact D1 (D3 e)
  refine call_sum_walkG (wpAny_pyIter_tuple pl ⟨s.heap.objs.size,_,_,_,_,_,λ i=>ns.getD i 0,rfl,Walks.tuple hA s.heap.objs.size p f_ au.toArray,⟨⟨_,o7 _ rfl,rfl,rfl⟩,sj.keep pl λ o e=>k4 _ e⟩,?_,hv,λ h' tk t' hk=>?_⟩)
  ·intro b hb
   have:s.heap.objs.size < (s.heap.push {cls:=.type "tuple_iterator",data:=.fields #[.ref p,.int 0 0]}).objs.size:=by rw[C0];omega
   obtain⟨o,e,_⟩:=pl
   have h2:=D3 e
   simp at hb
   rcases hb with rfl|rfl
   ·exact this
   ·exact Nat.lt_trans h2 this
  ·rw[ht]
   exact⟨.int ns.sum,H,I.kept (t':=tk) λ b o e=>hk b o (by simpa using D1 (D3 e)) (k4 _ e),⟨_,rfl⟩,q⟩
theorem FA:fb X (binaryOp .Mult) (λ x y H Q=>∃l k xs,x=.ref l/\y=.int k/\fz X.K H l xs/\xs≠[]/\-(2^63)<=k/\k < 2^63/\xs.length*k.toNat<=sizeLine/\(k=1->Q (.ref l) H)/\(k≠1->∀p,H p=none->Q (.ref p) (upd H p (.tup (List.replicate k.toNat xs).flatten)))):=by
 intro pins s σ H x y v u Q I rx ry h
 obtain⟨l,k,xs,rfl,rfl,hH,f_,h1,h2,hz,q1,q2⟩:=h
 cases rx
 obtain⟨t,rfl⟩:=ry
 obtain⟨au,r,⟨⟨c,dd,da,sl⟩,e,hc,n,hd⟩,_⟩:=I.tuple hH
 have hl:=r.length
 cases(show c=.type "tuple" from hc)
 cases(show da=.seq au.toArray n from hd)
 refine wpAny_binaryOp_repeat_ref (T:="tuple") (U:="int") (by decide) ⟨_,e,rfl⟩ (λ s'=>typeIs_int s' k t) DN F.fills_int_mul F.slot_int_rmul IF F.slot_int_index.lookup
  (G6 F.slot_int_rmul (typeIs_int s k t) F.entry_int_rmul (F.args_int_rmul_2 _ _) (IH k t l au.toArray n dd sl) ⟨e,rfl,⟨_,e,rfl⟩,?_⟩)
 by_cases hk:k=1
 ·subst hk
  exact G6 F.slot_tuple_mul ⟨_,e,rfl⟩ F.entry_tuple_mul (F.args_tuple_mul_2 _ _) (IG l au.toArray n dd sl t) ⟨e,.ref l,H,I,rfl,q1 rfl⟩
 ·refine G6 F.slot_tuple_mul ⟨_,e,rfl⟩ F.entry_tuple_mul (F.args_tuple_mul_2 _ _) (DM l au.toArray n dd sl k t hk h1 h2 ?_ (by rw[x4,<- hl];exact hz)) ⟨e,?_⟩
  ·cases au with
   |nil=>cases r;exact absurd rfl f_
   |cons a b=>rfl
  ·have LB:List.foldl (λ x1 x2=>x1++x2) #[] (List.replicate k.toNat au.toArray)=(List.replicate k.toNat au).flatten.toArray:=by
    have:=foldl_rep au k.toNat []
    rw[A4]at this
    exact this
   rw[LB]
   have fr:=I.fresh
   refine⟨.ref s.heap.objs.size,_,I.laid (t':=s.toks) (o:=.tup (List.replicate k.toNat xs).flatten) (λ b o e=>k4 _ e) (E1 _) ⟨?_,_,r.rep k.toNat,⟨_,o7 _ rfl,rfl,_,rfl⟩⟩,rfl,q2 hk _ fr⟩
   rw[len_rep,Nat.mul_comm]
   exact hz
end
end L2
namespace L3
open PySem PySem.Spec L2 L5 PyProof.Rows
mutual
def toP:D->PyData
 | .bj=>.none
 | .bl b=>.bool b
 | .int i=>.int i
 | .str x=>.str x
 | .ty _=>.none
 | .ref _=>.none
 | .tup ds=>.tuple (toPs ds)
 | .fl ds=>.list (toPs ds)
def toPs:List D->List PyData
 |[]=>[]
 |d::ds=>toP d::toPs ds
end
mutual
def nr:D->Bool
 | .bj=>true
 | .bl _=>true
 | .int _=>true
 | .str _=>true
 | .ty _=>false
 | .ref _=>false
 | .tup ds=>qQ ds
 | .fl ds=>qQ ds
def qQ:List D->Bool
 |[]=>true
 |d::ds=>nr d&&qQ ds
end
section
variable {X:Cx}{pins:List (Addr×Obj)}{σ:L2.St}{H:Hp}{s:Shared}
mutual
theorem QK(I:Inv X pins σ H s):∀(d:D) {x:V} {u:Value},nr d=true->Dat X.K H d x->RelV x u->∃as,Reads s.heap u (toP d) as
 | .bj,x,u,_,h,r=>by cases(dj.mp h);cases r;unfold toP;exact⟨_,Reads.none⟩
 | .bl b,x,u,_,h,r=>by cases(aN.mp h);cases r;unfold toP;exact⟨_,Reads.bool b⟩
 | .int i,x,u,_,h,r=>by cases(ax.mp h);obtain⟨t,rfl⟩:=r;unfold toP;exact⟨_,Reads.int i t⟩
 | .str z,x,u,_,h,r=>by cases(aL.mp h);obtain⟨t,rfl⟩:=r;unfold toP;exact⟨_,Reads.str z t⟩
 | .ty _,x,u,n,h,r=>by unfold nr at n;cases n
 | .ref _,x,u,n,h,r=>by unfold nr at n;cases n
 | .tup ds,x,u,n,h,r=>by
  unfold nr at n
  obtain⟨p,xs,rfl,hq,hd⟩:=aM.mp h
  cases(show u=Value.ref p from r)
  obtain⟨au,rv,⟨o,ho,hc,m,s_⟩,_⟩:=I.tuple hq
  obtain⟨as,ra⟩:=uZ I ds n hd rv
  unfold toP
  exact⟨_,reads_tuple_at ho hc s_ ra⟩
 | .fl ds,x,u,n,h,r=>by
  unfold nr at n
  obtain⟨p,xs,rfl,hq,hd⟩:=iw.mp h
  cases(show u=Value.ref p from r)
  obtain⟨au,rv,pl,_⟩:=I.list hq.sq
  obtain⟨o,ho,hc,m,s_⟩:=pl.isList
  obtain⟨as,ra⟩:=uZ I ds n hd rv
  unfold toP
  exact⟨_,reads_list_at ho hc s_ ra⟩
theorem uZ(I:Inv X pins σ H s):∀(ds:List D) {xs:List V} {us:List Value},qQ ds=true->aD X.K H ds xs->Vals xs us->∃as,ReadsAll s.heap us (toPs ds) as
 |[],xs,us,_,h,r=>by cases(ao.mp h);cases r;unfold toPs;exact⟨_,ReadsAll.nil⟩
 |d::ds,xs,us,n,h,r=>by
  unfold qQ at n
  rw[z9]at n
  obtain⟨x,Rz,rfl,h1,h2⟩:=ai.mp h
  cases r with
  |cons r1 r2=>
   obtain⟨as,a⟩:=QK I d n.1 h1 r1
   obtain⟨bs,b⟩:=uZ I ds n.2 h2 r2
   unfold toPs
   exact⟨_,ReadsAll.cons a b⟩
end
end
def Mr(K:PySem.W.Frag)(H:Hp)(x:V)(a:PyData):Prop:=(∃d,nr d=true/\Dat K H d x/\toP d=a)\/∃p ds xs,x=.ref p/\du K H p xs/\aD K H ds xs/\qQ ds=true/\a=.list (toPs ds)
def rQ(M:Mem)(d:D):Option PyData:=match d with
 | .ref a=>match M a with
  |some (.lst ds)=>if qQ ds=true then some (.list (toPs ds))else none
  |_=>none
 |d=>if nr d=true then some (toP d)else none
theorem iR{K:PySem.W.Frag}{H:Hp}{M:Mem}{d:D}{x:V}{a:PyData}(e:rQ M d=some a)(h:Dat K H d x)(hm:RelM K H M):Mr K H x a:=by
 cases d with
 |ref p=>
  cases(aB.mp h)
  unfold rQ at e
  cases q:M p with
  |none=>simp[q]at e
  |some o=>
   cases o with
   |dr b kvs=>simp[q]at e
   |lst ds=>
    simp only[q]at e
    by_cases n:qQ ds=true
    ·rw[J4 n]at e
     cases e
     obtain⟨xs,hx,hd⟩:=hm p _ q
     exact .inr ⟨p,ds,xs,rfl,du.of hx,hd,n,rfl⟩
    ·rw[J5 n]at e
     cases e
 |bj=>exact .inl ⟨_,rfl,h,by simpa[rQ,nr]using e⟩
 |bl _=>exact .inl ⟨_,rfl,h,by simpa[rQ,nr]using e⟩
 |int _=>exact .inl ⟨_,rfl,h,by simpa[rQ,nr]using e⟩
 |str _=>exact .inl ⟨_,rfl,h,by simpa[rQ,nr]using e⟩
 |ty _=>simp[rQ,nr]at e
 |tup ds=>
  by_cases n:qQ ds=true
  ·exact .inl ⟨.tup ds,by unfold nr;exact n,h,by simpa[rQ,nr,n]using e⟩
  ·simp[rQ,nr,n]at e
 |fl ds=>
  by_cases n:qQ ds=true
  ·exact .inl ⟨.fl ds,by unfold nr;exact n,h,by simpa[rQ,nr,n]using e⟩
  ·simp[rQ,nr,n]at e
section
variable {X:Cx}
theorem dZ{pins:List (Addr×Obj)}{σ:L2.St}{H:Hp}{s:Shared}(I:Inv X pins σ H s){x:V}{u:Value}{a:PyData}(h:Mr X.K H x a)(r:RelV x u):∃as,Reads s.heap u a as:=by
 rcases h with⟨d,n,hd,rfl⟩|⟨p,ds,xs,rfl,hq,hd,n,rfl⟩
 ·exact QK I d n hd r
 ·cases(show u=Value.ref p from r)
  obtain⟨au,rv,pl,_⟩:=I.list hq
  obtain⟨o,ho,hc,m,s_⟩:=pl.isList
  obtain⟨as,ra⟩:=uZ I ds n hd rv
  exact⟨_,reads_list_at ho hc s_ ra⟩
def TY(neg:Bool):fA:=λ x y M Q=>∃a b,rQ M x=some a/\rQ M y=some b/\SeqAt.shaped a=true/\SeqAt.shaped b=true/\Q (.bl (if neg then !PyData.eqv a b else PyData.eqv a b)) M
theorem KI(hu:X.A.units+64 < cLine):fb X (compareOp .Eq) (λ x y H Q=>∃a b,Mr X.K H x a/\Mr X.K H y b/\SeqAt.shaped a=true/\SeqAt.shaped b=true/\Q (.bl (PyData.eqv a b)) H):=by
 intro pins s σ H x y v u Q I rx ry h
 obtain⟨a,b,ha,hb,sa,sb,q⟩:=h
 obtain⟨as,ra⟩:=dZ I ha rx
 obtain⟨bs,rb⟩:=dZ I hb ry
 exact eq_dataH ra rb sa sb hu ⟨.bl (PyData.eqv a b),H,I,rfl,q⟩
theorem Kz(hu:X.A.units+64 < cLine):fb X (compareOp .NotEq) (λ x y H Q=>∃a b,Mr X.K H x a/\Mr X.K H y b/\SeqAt.shaped a=true/\SeqAt.shaped b=true/\Q (.bl (!PyData.eqv a b)) H):=by
 intro pins s σ H x y v u Q I rx ry h
 obtain⟨a,b,ha,hb,sa,sb,q⟩:=h
 obtain⟨as,ra⟩:=dZ I ha rx
 obtain⟨bs,rb⟩:=dZ I hb ry
 exact ne_dataH ra rb sa sb hu ⟨.bl (!PyData.eqv a b),H,I,rfl,q⟩
theorem fB.or {f:Value->Value->Sem Value}{r r':fA}(h:fB X f r)(h':fB X f r'):fB X f (λ x y M Q=>r x y M Q\/r' x y M Q):=by
 obtain⟨a,h1,h2⟩:=h
 obtain⟨b,g1,g2⟩:=h'
 refine⟨_,h1.or g1,λ x y d e H M Q2 Q hd he hm q k=>?_⟩
 rcases q with q|q
 ·exact .inl (h2 x y d e H M Q2 Q hd he hm q k)
 ·exact .inr (g2 x y d e H M Q2 Q hd he hm q k)
def tP(neg:Bool):fA:=λ x y M Q=>Ma neg x y M Q\/TY neg x y M Q
theorem eO(hu:X.A.units+64 < cLine):fB X (compareOp .Eq) (tP false):=Sw.or ⟨_,KI hu,λ x y d e H M Q2 Q hd he hm q k=>by
 obtain⟨a,b,ha,hb,sa,sb,q⟩:=q
 exact⟨a,b,iR ha hd hm,iR hb he hm,sa,sb,k _ H _ M (aN.mpr rfl) hm (av.refl H) q⟩⟩
theorem w_(hu:X.A.units+64 < cLine):fB X (compareOp .NotEq) (tP true):=Sr.or ⟨_,Kz hu,λ x y d e H M Q2 Q hd he hm q k=>by
 obtain⟨a,b,ha,hb,sa,sb,q⟩:=q
 exact⟨a,b,iR ha hd hm,iR hb he hm,sa,sb,k _ H _ M (aN.mpr rfl) hm (av.refl H) q⟩⟩
def CY:D->List D->Mem->bD->Prop:=λ x vs M Q=>∃p ds y,x=.ref p/\vs=[y]/\M p=some (.lst ds)/\qQ ds=true/\nr y=true/\PyData.canLayAll0 (toPs ds)=true/\(toP y).canLay0=true/\(toP y).depth < 60/\Q (.int (ds.countP λ d=>PyData.eqv (toP d) (toP y):Nat)) M
theorem tU{A:Around}{s:Shared}{v:Value}{y:PyData}{bs:List Addr}(ry:Reads s.heap v y bs)(cy:y.canLay0=true)(hu:A.units+y.depth < cLine):∀{ds:List D} {us:List Value} {as:List Addr},ReadsAll s.heap us (toPs ds) as->PyData.canLayAll0 (toPs ds)=true->
  ∃e:Value->Bool,(∀u∈us,SeqAt.EqAt A s u v (e u))/\us.countP e=ds.countP λ d=>PyData.eqv (toP d) y:=by
 intro ds us as ra cl
 refine⟨λ u=>PyData.eqv (SeqAt.readOf s.heap u) y,λ u Gs=>?_,?_⟩
 ·obtain⟨d,Xh,rd,cd,_⟩:=SeqAt.readsAll_mem _ _ _ cl ra u Gs
  have e:=SeqAt.readOf_eq cd rd
  dsimp only
  rw[e]
  exact x5 d y A s u v _ _ rd ry cd cy (by omega)
 ·have e:=SeqAt.readsAll_map _ _ _ cl ra
  have f:∀(us:List Value) (ds:List D),us.map (SeqAt.readOf s.heap)=toPs ds->us.countP (λ u=>PyData.eqv (SeqAt.readOf s.heap u) y)=ds.countP λ d=>PyData.eqv (toP d) y:=by
   intro us
   induction us with
   |nil=>
    intro ds q
    cases ds with
    |nil=>rfl
    |cons d r=>unfold toPs at q;cases q
   |cons u us ih=>
    intro ds q
    cases ds with
    |nil=>unfold toPs at q;cases q
    |cons d r=>
     unfold toPs at q
     rw[C6]at q
     injection q with q1 q2
     rw[countP_cons,countP_cons,ih r q2,q1]
  exact f us ds e
theorem Ga(hu:X.A.units+64 < cLine):zI X "list.count" CY:=⟨λ x vs H Q=>∃p ds xs d y,x=.ref p/\vs=[y]/\du X.K H p xs/\aD X.K H ds xs/\Dat X.K H d y/\qQ ds=true/\nr d=true/\PyData.canLayAll0 (toPs ds)=true/\(toP d).canLay0=true/\(toP d).depth < 60/\Q (.int (ds.countP λ e=>PyData.eqv (toP e) (toP d):Nat)) H,by
  intro pins s σ H x xs v us Q I rx rv h
  obtain⟨p,ds,zs,d,y,rfl,rfl,hq,hd,hy,n1,n2,c1,c2,dp,q⟩:=h
  cases(show v=Value.ref p from rx)
  obtain⟨u,rfl,ru⟩:=rv.one
  obtain⟨au,rz,pl,_⟩:=I.list hq
  obtain⟨as,ra⟩:=uZ I ds n1 hd rz
  obtain⟨bs,rb⟩:=QK I d n2 hy ru
  obtain⟨e,e1,e2⟩:=tU (A:=X.A.in1) rb c2 (by show X.A.units+1+_ < _;omega) ra c1
  obtain⟨⟨c,dd,da,sl⟩,ho,hc,n,s_⟩:=pl.isList
  cases(show c=.type "list" from hc)
  cases(show da=.seq au.toArray n from s_)
  refine G6 PySem.F.slot_list_count ⟨_,ho,rfl⟩ PySem.F.entry_list_count (PySem.F.args_list_count_2 _ _) (SeqAt.list_countAt p au.toArray n dd sl u e) ⟨ho,λ y hy=>e1 y (by simpa using hy),?_⟩
  rw[show au.toArray.toList=au from rfl,e2]
  exact⟨.int _,H,I.tok _,⟨_,rfl⟩,q⟩,λ x xs d ds H M Q2 Q hx hd hm q k=>by
  obtain⟨p,es,y,rfl,rfl,hM,n1,n2,c1,c2,dp,q⟩:=q
  cases(aB.mp hx)
  obtain⟨v,r,rfl,hv,hr⟩:=ai.mp hd
  cases(ao.mp hr)
  obtain⟨zs,hz,jf⟩:=hm p _ hM
  exact⟨p,es,zs,y,v,rfl,rfl,du.of hz,jf,hv,n1,n2,c1,c2,dp,k _ H _ M (ax.mpr rfl) hm (av.refl H) q⟩⟩
def xQ:D->List D->Mem->bD->Prop:=λ x vs M Q=>∃p ds y,x=.ref p/\vs=[y]/\M p=some (.lst ds)/\ds.length < sizeLine/\Q .bj (ak M p (.lst (ds++[y])))
theorem cM:zI X "list.append" xQ:=⟨wR,yR,λ x xs d ds H M Q2 Q hx hd hm q k=>by
 obtain⟨p,es,y,rfl,rfl,hM,hz,q⟩:=q
 cases(aB.mp hx)
 obtain⟨v,r,rfl,hv,hr⟩:=ai.mp hd
 cases(ao.mp hr)
 obtain⟨zs,h1,h2⟩:=hm p _ hM
 have t:=av.lst (o:=.lst (zs++[v])) h1
 refine⟨p,zs,v,rfl,rfl,h1,by rw[h2.length];exact hz,k _ _ .bj _ (dj.mpr rfl) (hm.put (u:=.lst (es++[y])) t ⟨_,br,?_⟩) t q⟩
 exact(aD.mono t es h2).append (aD.one (Dat.mono t y hv))⟩
theorem cR{K:PySem.W.Frag}{H:Hp}:∀{ns:List Int} {xs:List V},aD K H (ns.map D.int) xs->xs=ns.map V.int
 |[],xs,h=>by rw[map_nil,ao]at h;exact h
 |b::bs,xs,h=>by
  rw[C6,ai]at h
  obtain⟨x,r,rfl,a,q⟩:=h
  rw[ax]at a
  rw[a,cR q]
  rfl
def L0:List D->Mem->bD->Prop:=λ xs M Q=>∃(x:D) (ds:List D) (ns:List Int),xs=[x]/\cQ M x=some ds/\ds=ns.map D.int/\Q (.int ns.sum) M
theorem xV(hc:X.calm=true):cU X (.builtin "sum") L0:=⟨_,nV hc,λ xs ds H M Q2 Q hd hm q k=>by
 obtain⟨x,es,ns,rfl,e,rfl,q⟩:=q
 obtain⟨v,r,rfl,hv,hr⟩:=ai.mp hd
 cases(ao.mp hr)
 obtain⟨p,ys,rfl,h,hy⟩:=gn e hv hm
 rw[cR hy]at h
 rcases h with h|h
 ·exact⟨false,p,ns,rfl,h,k _ H _ M (ax.mpr rfl) hm (av.refl H) q⟩
 ·exact⟨true,p,ns,rfl,h,k _ H _ M (ax.mpr rfl) hm (av.refl H) q⟩⟩
def Pt:List D->Mem->bD->Prop:=λ xs M Q=>∃i j,xs=[.int i,.int j]/\Q (.int (if j < i then j else i)) M
theorem Dh(hc:X.calm=true):cU X (.builtin "min") Pt:=⟨_,zr hc,λ xs ds H M Q2 Q hd hm q k=>by
 obtain⟨i,j,rfl,q⟩:=q
 obtain⟨v,r,rfl,hv,hr⟩:=ai.mp hd
 obtain⟨v2,r2,rfl,VB,S8⟩:=ai.mp hr
 cases(ao.mp S8)
 cases(ax.mp hv)
 cases(ax.mp VB)
 exact⟨i,j,rfl,k _ H _ M (ax.mpr rfl) hm (av.refl H) q⟩⟩
def Pr:fA:=λ x y M Q=>∃ds k,x=.tup ds/\y=.int k/\ds≠[]/\-(2^63)<=k/\k < 2^63/\ds.length*k.toNat<=sizeLine/\Q (.tup (List.replicate k.toNat ds).flatten) M
theorem ni{K:PySem.W.Frag}{H:Hp}{ds:List D}{xs:List V}(h:aD K H ds xs):∀k:Nat,aD K H (List.replicate k ds).flatten (List.replicate k xs).flatten
 |0=>by simp[ao]
 |k+1=>by rw[n6,n6,u6,u6];exact h.append (ni h k)
def xO:fA:=λ x y M Q=>GZ x y M Q\/Pr x y M Q
theorem KY:fB X (binaryOp .Mult) xO:=Oo.or ⟨_,FA,λ x y d e H M Q2 Q hd he hm q k=>by
 obtain⟨ds,n,rfl,rfl,f_,h1,h2,hz,q⟩:=q
 obtain⟨p,xs,rfl,hq,hx⟩:=aM.mp hd
 cases(ax.mp he)
 refine⟨p,n,xs,rfl,rfl,hq,λ z=>?_,h1,h2,by rw[hx.length];exact hz,λ e1=>?_,λ _ l hl=>?_⟩
 ·have:=hx.length
  rw[z]at this
  exact f_ (j6.mp this.symm)
 ·subst e1
  rw[show(1:Int).toNat=1 from rfl,show(List.replicate 1 ds).flatten=ds by simp]at q
  exact k _ H _ M (aM.mpr ⟨p,xs,rfl,hq,hx⟩) hm (av.refl H) q
 ·exact k _ _ (.tup _) M (fI hl (ni hx _)) (hm.laid hl) (av.laid hl) q⟩
end
end L3
namespace L2
open PySem PySem.Spec PyProof.Rows L5
section
variable {X:Cx}{e:Expr}{te:TE}{p pos fp kp:Pos}{f:Str}{k:Nat}{ps:List Str}{sp:Sp}
def u_(K:PySem.W.Frag)(sp:Sp)(x:V)(H:Hp)(Q:VK):Prop:=∃(l:Addr) (ys:List V) (b:Bool) (R:List V->Hp->Prop) (key:Nat->Ky),x=.ref l/\du K H l ys/\ys.length < 1000000/\R [] H/\
 (∀kvs H v,R kvs H->ys[kvs.length]?=some v->sp [v] H (λ k H'=>R (kvs++[k]) H') E0)/\
 ∀kvs H,R kvs H->kvs.length=ys.length->(∀i k,kvs[i]?=some k->jv K b H k (key i))/\∀p out,H p=none->Out (λ i j=>klt (key i) (key j)) ys V.bj out->Q (.ref p) (upd H p (.lst out))
theorem vh(d:bG X.prog X.w X.K X.mg X.base k f ps sp)(hr:cD (k+2) X.A)(hg:Gl X "sorted")(hm:X.mg "sorted"=none)(CF:Gl X f)(he:PE X e te)(sZ:(f==("__debug__":Str))=false:=by decide)
  (hs:starEach [e] X.env=[(false,eval e X.env)]:=by rfl) (jN:backTo pos (starEach [e] X.env)=(false,eval e X.env)::backTo pos (starEach [] X.env):=by rfl) (gI:(backTo pos (starEach [e] X.env)).any (·.1)=false:=by rfl):PE X (.Call (.Name "sorted" p) [e] [⟨some "key",.Name f fp,kp⟩] pos) (λ σ H Q=>te σ H λ x H1=>u_ X.K sp x H1 Q):=by
 intro pins s σ H Q I h
 obtain⟨q,fd,G,Td,kp,bd⟩:=d.ex
 refine r6 (eZ I hg hm PyProof.Rows.boot_sorted ?_ (by decide) (by decide))
 refine PyProof.Rows.callWith_kw (cP ((fN he ip (by rw[hs];rfl)) pos pins s σ H (λ vs H1=>match vs with|[x]=>u_ X.K sp x H1 Q|_=>False) I h) λ us s1 ⟨vs,H1,I1,r1,q1⟩=>?_) jN gI
 cases vs with
 |nil=>exact q1.elim
 |cons x vs=>
  cases vs with
  |cons _ _=>exact q1.elim
  |nil=>
  have q1:u_ X.K sp x H1 Q:=q1
  refine cP ((wW (Fu (v:=.ref q) CF Td rfl sZ) Bj) pos pins s1 σ H1 (λ vs H2=>vs=[.ref q]/\H2=H1) I1 ⟨rfl,rfl⟩) λ ws s2 ⟨zs,H2,I2,rz,e2,e3⟩=>?_
  subst e2 e3
  obtain⟨u,rfl,ru⟩:=vals1 r1
  obtain⟨v,rfl,rv⟩:=vals1 rz
  obtain⟨l,ys,b,R,key,rfl,hl,uC,h0,hc,hk⟩:=q1
  cases(show u=Value.ref l from ru)
  cases(show v=Value.ref q from rv)
  exact qy G bd hr I2 hl uC R key h0 hc hk
end
end L2
namespace L3
open PySem PySem.Spec L2 L5
def wj(b:Bool)(M:Mem)(k:D)(c:Ky):Prop:=match b with
 |true=>k=.tup [.int c.1,.tup (c.2.map D.int)]
 |false=>∃m,k=.tup [.int c.1,.ref m]/\M m=some (.lst (c.2.map D.int))
theorem wj.v {K:PySem.W.Frag}{H:Hp}{M:Mem}{b:Bool}{k:D}{c:Ky}{v:V}(h:wj b M k c)(r:Dat K H k v)(hm:RelM K H M):jv K b H v c:=by
 cases b with
 |true=>
  cases(show k=_ from h)
  obtain⟨p,xs,rfl,hq,hd⟩:=aM.mp r
  obtain⟨x1,r1,rfl,h1,hd⟩:=ai.mp hd
  obtain⟨x2,r2,rfl,h2,hd⟩:=ai.mp hd
  cases(ao.mp hd)
  cases(ax.mp h1)
  obtain⟨p2,ys,rfl,DB,hd2⟩:=aM.mp h2
  rw[cR hd2]at DB
  exact⟨p,p2,rfl,hq,DB⟩
 |false=>
  obtain⟨m,rfl,hM⟩:=h
  obtain⟨p,xs,rfl,hq,hd⟩:=aM.mp r
  obtain⟨x1,r1,rfl,h1,hd⟩:=ai.mp hd
  obtain⟨x2,r2,rfl,h2,hd⟩:=ai.mp hd
  cases(ao.mp hd)
  cases(ax.mp h1)
  cases(aB.mp h2)
  obtain⟨ys,hy,hd2⟩:=hm m _ hM
  rw[cR hd2]at hy
  exact⟨p,m,rfl,hq,du.of hy⟩
theorem jQ{K:PySem.W.Frag}{H:Hp}{ds:List D}{xs:List V}(h:aD K H ds xs):∀p:List Nat,aD K H (p.map λ i=>ds.getD i D.bj) (p.map λ i=>xs.getD i V.bj)
 |[]=>by simp[ao]
 |i::p=>by
  rw[C6,C6,ai]
  refine⟨_,_,rfl,?_,jQ h p⟩
  cases e:ds[i]? with
  |none=>
   have e2:xs[i]?=none:=by
    have:=h.length
    have:=i6.mp e
    exact l8 (by omega)
   rw[e9,e9,e,e2]
   exact dj.mpr rfl
  |some d=>
   obtain⟨x,e2,hx⟩:=h.get e
   rw[e9,e9,e,e2]
   exact hx
def vZ(sp:eK)(d:D)(M:Mem)(Q:bD):Prop:=∃(l:Addr) (es:List D) (b:Bool) (R:List D->Mem->Prop) (key:Nat->Ky),d=.ref l/\M l=some (.lst es)/\es.length < 1000000/\R [] M/\
 (∀cK M e,R cK M->es[cK.length]?=some e->sp [e] M (λ k M'=>R (cK++[k]) M'))/\
 ∀cK M,R cK M->cK.length=es.length->(∀i k,cK[i]?=some k->wj b M k (key i))/\∀p out,M p=none->Out (λ i j=>klt (key i) (key j)) es D.bj out->Q (.ref p) (ak M p (.lst out))
def uU(sp:eK)(te:bV):bV:=λ δ M Q=>te δ M λ d M1=>vZ sp d M1 Q
section
variable {X:Cx}{e:Expr}{te:bV}{p pos fp kp:Pos}{f:Str}{k:Nat}{ps:List Str}{sp:eK}
theorem yD(d:bM X.prog X.w X.K X.mg X.base k f ps sp)(hr:cD (k+2) X.A)(hg:Gl X "sorted")(hm:X.mg "sorted"=none)(CF:Gl X f)(he:QE X e te)(sZ:(f==("__debug__":Str))=false:=by decide)
  (hs:starEach [e] X.env=[(false,eval e X.env)]:=by rfl) (jN:backTo pos (starEach [e] X.env)=(false,eval e X.env)::backTo pos (starEach [] X.env):=by rfl) (gI:(backTo pos (starEach [e] X.env)).any (·.1)=false:=by rfl):QE X (.Call (.Name "sorted" p) [e] [⟨some "key",.Name f fp,kp⟩] pos) (uU sp te):=by
 refine bO (vh d hr hg hm CF he sZ hs jN gI) ?_
 rintro σ H Q ⟨δ,M,Q2,hs,hm,q,k⟩
 refine⟨δ,M,_,hs,hm,q,λ x H1 d M1 hd bR t1 q1=>?_⟩
 obtain⟨l,es,b,R,key,rfl,hM,uC,h0,hc,hk⟩:=q1
 cases(aB.mp hd)
 obtain⟨ys,hy,MM⟩:=bR l _ hM
 have hlen:=MM.length
 refine⟨l,ys,b,λ kvs H'=>∃cK M',aD X.K H' cK kvs/\RelM X.K H' M'/\av H1 H'/\R cK M',key,rfl,du.of hy,by omega,⟨[],M1,by rw[ao],bR,av.refl _,h0⟩,?_,?_⟩
 ·rintro kvs H2 v ⟨cK,M2,h1,h2,t2,hR⟩ hv
  have zb:=h1.length
  obtain⟨e,e1,e2⟩:=(aD.mono t2 es MM).mX hv
  refine⟨[e],M2,_,aD.one e2,h2,hc cK M2 e hR (by rw[<- zb];exact e1),λ w H3 d3 M3 GH Cy t3 q3=>?_⟩
  exact⟨cK++[d3],M3,(aD.mono t3 cK h1).append (aD.one GH),Cy,t2.trans t3,q3⟩
 ·rintro kvs H2 ⟨cK,M2,h1,h2,t2,hR⟩ hl
  have zb:=h1.length
  obtain⟨a1,a2⟩:=hk cK M2 hR (by omega)
  refine⟨λ i w hw=>?_,λ p out hp ho=>?_⟩
  ·obtain⟨d3,e3,GH⟩:=h1.mX hw
   exact(a1 i d3 e3).v GH h2
  ·obtain⟨π,p1,p2,rfl⟩:=ho
   rw[hlen]at p1 p2
   refine k _ _ (.ref p) _ (aB.mpr rfl) (cZ hp (jQ (aD.mono t2 es MM) π.toList) h2) (t1.trans (t2.trans (av.laid hp))) (a2 p _ (h2.free hp) ⟨π,p1,p2,rfl⟩)
end
theorem Eh{sp:eK}{te:bV}{δ:dq}{M:Mem}{Q:bD}(h:te δ M λ d M1=>vZ sp d M1 Q):uU sp te δ M Q:=h
end L3
namespace L4
open PySem PySem.Spec L2 L3 L5
section
variable {X:Cx}{e:Expr}{te:bV}{p pos fp kp:Pos}{f:Str}{k:Nat}{ps:List Str}{sp:eK}
theorem jB(d:bM X.prog X.w X.K X.mg X.base k f ps sp)(hr:cD (k+2) X.A)(hg:Gl X "sorted")(hm:X.mg "sorted"=none)(CF:Gl X f)(he:WE X e te)(sZ:(f==("__debug__":Str))=false:=by decide)
  (hs:starEach [e] X.env=[(false,eval e X.env)]:=by rfl) (jN:backTo pos (starEach [e] X.env)=(false,eval e X.env)::backTo pos (starEach [] X.env):=by rfl) (gI:(backTo pos (starEach [e] X.env)).any (·.1)=false:=by rfl):WE X (.Call (.Name "sorted" p) [e] [⟨some "key",.Name f fp,kp⟩] pos) (uU sp te):=⟨yD d hr hg hm CF he.h sZ hs jN gI⟩
end
end L4
namespace L3
open PySem PySem.Spec L2 L5
section
variable {M:Mem}{Q:bD}
theorem ED{i j:Int}(q:Q (.bl (decide (i=j))) M):tP false (.int i) (.int j) M Q:=.inl (JC q)
theorem EE{i j:Bool}(q:Q (.bl (decide (i=j))) M):tP false (.bl i) (.bl j) M Q:=.inl (JD q)
theorem EC{i j:Str}(q:Q (.bl (decide (i=j))) M):tP false (.str i) (.str j) M Q:=.inl (JB q)
theorem Eo{i j:Bool}(q:Q (.bl (!decide (i=j))) M):tP true (.bl i) (.bl j) M Q:=.inl (Jr q)
theorem AG{i j:Int}(h:qN i j)(q:Q (.int (i*j)) M):xO (.int i) (.int j) M Q:=.inl (Er h q)
theorem AF{i:Str}{j:Int}(h:MulOk i j)(q:Q (.str (Txt.mul i j)) M):xO (.str i) (.int j) M Q:=.inl (Ep h q)
theorem Jt{i j:Int}(q:Q (.int (if j < i then j else i)) M):Pt [.int i,.int j] M Q:=⟨i,j,rfl,q⟩
theorem wI{ns:List Int}(q:Q (.int ns.sum) M):L0 [.tup (ns.map D.int)] M Q:=⟨_,_,ns,rfl,rfl,rfl,q⟩
theorem eB{p:Addr}{ds:List D}{y:D}(h:M p=some (.lst ds))(hz:ds.length < sizeLine)(q:Q .bj (ak M p (.lst (ds++[y])))):xQ (.ref p) [y] M Q:=⟨p,ds,y,rfl,rfl,h,hz,q⟩
abbrev row(ns:List Int):D:=.tup (ns.map D.int)
theorem toPs_ints:∀ns:List Int,toPs (ns.map D.int)=ns.map PyData.int
 |[]=>rfl
 |n::ns=>by rw[C6];unfold toPs;rw[toPs_ints ns];unfold toP;rfl
theorem toP_row(ns:List Int):toP (row ns)=.tuple (ns.map PyData.int):=by unfold row toP;rw[toPs_ints]
theorem iW:∀ns:List Int,qQ (ns.map D.int)=true
 |[]=>rfl
 |n::ns=>by rw[C6];unfold qQ;rw[iW ns];rfl
theorem K2(ns:List Int):nr (row ns)=true:=by unfold row nr;exact iW ns
theorem GO(ns ms:List Int):PyData.eqv (toP (row ns)) (toP (row ms))=decide (ns=ms):=by
 rw[toP_row,toP_row]
 simp only[PyData.eqv]
 exact PySem.W.ked_eqvAll ns ms
theorem Gh(ns:List Int):(toP (row ns)).canLay0=true:=by rw[toP_row];simp[PyData.canLay0,PySem.W.ke_canLayAll0]
theorem GU(ns:List Int):(toP (row ns)).depth=1:=by rw[toP_row];simp[PyData.depth,PySem.W.ke_depthAll]
theorem mL:∀rs:List (List Int),qQ (rs.map row)=true
 |[]=>rfl
 |r::rs=>by rw[C6];unfold qQ;rw[K2,mL rs];rfl
theorem kj:∀rs:List (List Int),PyData.canLayAll0 (toPs (rs.map row))=true
 |[]=>rfl
 |r::rs=>by rw[C6];unfold toPs;rw[PyData.canLayAll0,Gh,kj rs];rfl
theorem kx:∀rs:List (List Int),PyData.depthAll (toPs (rs.map row))<=1
 |[]=>by simp[toPs,PyData.depthAll]
 |r::rs=>by
  rw[C6];unfold toPs;rw[PyData.depthAll,GU]
  have:=kx rs
  omega
theorem jZ(rs:List (List Int)):SeqAt.shaped (.list (toPs (rs.map row)))=true:=by
 unfold SeqAt.shaped
 rw[show(PyData.list (toPs (rs.map row))).canLay0=true by simpa[PyData.canLay0]using kj rs,Bool.true_and]
 refine B8 ?_
 have:=kx rs
 simp only[PyData.depth]
 omega
theorem tw:∀rs qs:List (List Int),PyData.eqvAll (toPs (rs.map row)) (toPs (qs.map row))=decide (rs=qs)
 |[],[]=>rfl
 |[],q::qs=>by rw[C6];simp[toPs,PyData.eqvAll]
 |r::rs,[]=>by rw[C6];simp[toPs,PyData.eqvAll]
 |r::rs,q::qs=>by
  rw[C6,C6]
  unfold toPs
  rw[PyData.eqvAll,GO,tw rs qs]
  by_cases h:r=q <;> by_cases h':rs=qs <;> simp[h,h']
theorem Ek(neg:Bool){a b:Addr}{rs qs:List (List Int)}(ha:M a=some (.lst (rs.map row)))(hb:M b=some (.lst (qs.map row)))(q:Q (.bl (if neg then !decide (rs=qs)else decide (rs=qs))) M):tP neg (.ref a) (.ref b) M Q:=by
 refine .inr ⟨_,_,?_,?_,jZ rs,jZ qs,?_⟩
 ·unfold rQ;simp only[ha];rw[J4 (mL rs)]
 ·unfold rQ;simp only[hb];rw[J4 (mL qs)]
 ·rw[show PyData.eqv (.list (toPs (rs.map row))) (.list (toPs (qs.map row)))=decide (rs=qs) by simp only[PyData.eqv];exact tw rs qs]
  exact q
theorem Ed{i j:Nat}{a b:D}{δ:dq}{N:dq->Mem->Prop}(h:N ((δ.set i (some a)).set j (some b)) M):vN 2 (fm (hName i) (fm (hName j) vO)) (.tup [a,b]) δ M N:=⟨rfl,h⟩
theorem AJ{A B:Prop}(h:B):if(!true)=true then A else B:=by rw[Bool.not_true,J5 o9];exact h
theorem AK{A B:Prop}(h:A):if(!false)=true then A else B:=by rw[Bool.not_false,J4 rfl];exact h
theorem iP{c:eJ}{tb:jU}{E:nE}{δ:dq}(h:∃W:Nat->dq->Mem->Prop,(∃m,W m δ M)/\∀m δ M,W m δ M->c δ M λ b M1=>
  if b=true then ∃N:dq->Mem->Prop,(∀δ' M',N δ' M'->∃m',m' < m/\W m' δ' M')/\tb {E with nx:=N,ct:=N,bk:=E.nx} δ M1 else E.nx δ M1):uT c tb E δ M:=h
theorem tZ{g:fX}{tt:eJ}{te:bV}{δc:dq}{M1:Mem}{Qe:List D->Mem->Prop}{a:Addr}{ds:List D}(Pv:Nat->List D->Mem->Prop)(h0:Pv 0 [] M1)(hl:∀i acc M,i<=ds.length->Pv i acc M->M a=some (.lst ds))(hz:∀i acc M,i<=ds.length->Pv i acc M->acc.length<=sizeLine)
  (hs:∀i d acc M,ds[i]?=some d->Pv i acc M->g d δc M λ δ2 M2=>tt δ2 M2 λ b M3=>if b=true then te δ2 M3 λ y M4=>Pv (i+1) (acc++[y]) M4 else Pv (i+1) acc M3)
  (hd:∀acc M,Pv ds.length acc M->Qe acc M):
  ∃(B:Nat) (W:Nat->List D->Mem->Prop),W 0 [] M1/\∀i acc M,W i acc M->i<=B/\acc.length<=sizeLine/\match items (.at a) M with
   |none=>False
   |some ds=>match ds[i]? with
    |none=>i=ds.length/\Qe acc M
    |some d=>g d δc M λ δ2 M2=>tt δ2 M2 λ b M3=>if b=true then te δ2 M3 λ y M4=>W (i+1) (acc++[y]) M4 else W (i+1) acc M3:=by
 refine⟨ds.length,λ i acc M=>if i<=ds.length then Pv i acc M else False,by dsimp only;rw[J4 (E3 _)];exact h0,?_⟩
 intro i acc M w
 by_cases hi:i<=ds.length
 ·rw[J4 hi]at w
  refine⟨hi,hz i acc M hi w,?_⟩
  have e0:items (.at a) M=some ds:=by
   show(match M a with|some (.lst ds)=>some ds|_=>none)=some ds
   rw[hl i acc M hi w]
  rw[e0]
  show(match ds[i]? with
    |none=>i=ds.length/\Qe acc M
    |some d=>g d δc M λ δ2 M2=>tt δ2 M2 λ b M3=>if b=true then te δ2 M3 λ y M4=>(if i+1<=ds.length then Pv (i+1) (acc++[y]) M4 else False)else(if i+1<=ds.length then Pv (i+1) acc M3 else False))
  cases e:ds[i]? with
  |none=>
   have:i=ds.length:=B7 hi (i6.mp e)
   subst this
   exact⟨rfl,hd acc M w⟩
  |some d=>
   have fO:i+1<=ds.length:=(i5.mp e).1
   simp only[J4 fO]
   exact hs i d acc M e w
 ·rw[J5 hi]at w
  exact w.elim
theorem yB{a:Addr}{ns:List Int}{i:Int}(ha:M a=some (.lst (ns.map D.int)))(q:Q (.int (ns.count i:Nat)) M):CY (.ref a) [.int i] M Q:=by
 refine⟨a,_,_,rfl,rfl,ha,iW ns,rfl,by rw[toPs_ints];exact PySem.W.ke_canLayAll0 ns,by simp[toP,PyData.canLay0],by simp[toP,PyData.depth],?_⟩
 have e:(ns.map D.int).countP (λ d=>PyData.eqv (toP d) (toP (.int i)))=ns.count i:=by
  rw[countP_map,count_eq_countP]
  refine countP_congr λ x _=>?_
  show PyData.eqv (toP (.int x)) (toP (.int i))=true↔_
  simp[toP,PyData.eqv]
 rw[e]
 exact q
end
end L3
namespace L5
open PySem
theorem pV:typeLookup (.type "list") "keys"=pure none:=by rw[typeLookup_type,builtinLookup_eq_fast];kernel_rfl
theorem FV{prog:Program}{w:World}{A:Around}{E:Value->Shared->Prop}{s:Shared}{a:Addr}{xs:Array Value}{k:Nat}{sl:Array (Option Value)}{Q:Option Value->Shared->Prop}(hx:s.heap.get? a=some {cls:=.type "list",dict:=none,data:=.seq xs k,slots:=sl})(hA:A.handled=none)
  (h:∀h' tk,(∀b o,s.heap.get? b=some o->h'.get? b=some o)->Q none {s with heap:=h',toks:=tk}):wpAny (model prog w) A (getAttr? (.ref a) "keys") Q E s:=by
 obtain⟨hp,g,d,tk,os⟩:=s
 have ty:∀Hq,(⟨hp,g,d,Hq,os⟩:Shared).TypeIs (.ref a) "list":=λ _=>⟨_,hx,rfl⟩
 have f1:=sub_AttributeError
 have f3:=F.slot_list_getattribute.lookup
 have f4:=F.slot_list_getattribute.bind (.ref a)
 have f5:=am_list_getattr_none
 unfold getAttr? getAttrBy? getAttrBy
 repeat(any_goals (first|assumption|exact ty _|((with_reducible show wpAny _ _ (call (Value.builtin "list.__getattribute__") _ _) _ _ _);refine G6 F.slot_list_getattribute (ty _) am_entry_list_getattribute (F.args_list_getattribute_2 _ _) (meets_getattribute_miss_list a xs k sl _ _ pV (by decide+kernel) (by decide+kernel)) ⟨hx,hA,λ h' Hq e HS=>?_⟩)|wp_step))
 obtain⟨t',u',he⟩:=HS.there
 show wpAny _ _ (getattributeRaised _ _ _ _ _ _ _) _ _ _
 unfold getattributeRaised
 repeat(any_goals (first|assumption|wp_step))
 exact h _ _ HS.keeps
end L5
namespace L5
open PySem
theorem tE:entryFor table "dict.update.loop"=some Builtin.«dict.update.loop»:=entryFor_of_tree (by kernel_rfl)
theorem lI:plainId "dict.update.loop"=true:=by decide+kernel
section
variable {prog:Program}{w:World}{A:Around}{R:Result->Shared->Prop}
abbrev TK(prog:Program)(w:World):HeapKind prog w (List L2.Key):=tupleKind (L2.cm prog w)
abbrev Ent:=List L2.Key×Addr×Value
theorem uN{h:Heap}{k:List L2.Key}{a:Addr}(x:(TK prog w).is h k a):∃o,h.get? a=some o/\o.cls=.type "tuple":=let⟨o,au,n,h1,h2,h3,h4⟩:=x;⟨o,h1,h2⟩
theorem pe{h h':Heap}{k:List L2.Key}{a:Addr}(x:(TK prog w).is h k a)(q:∀o,h.get? a=some o->h'.get? a=some o):(TK prog w).is h' k a:=let⟨o,au,n,h1,h2,h3,h4⟩:=x;⟨o,au,n,q o h1,h2,h3,h4⟩
structure jV(prog:Program)(w:World)(h:Heap)(u:Value)(p:Ent):Prop where
 ex:∃t,u=.ref t/\h.IsTuple t #[.ref p.2.1,p.2.2]
 key:(TK prog w).is h p.1 p.2.1
def nz(h h':Heap):Prop:=∀b o,o.cls=.type "tuple"->h.get? b=some o->h'.get? b=some o
theorem jV.kM {h h':Heap}{u:Value}{p:Ent}(x:jV prog w h u p)(q:nz h h'):jV prog w h' u p:=by
 obtain⟨⟨t,rfl,o,ho,hc,n,hd⟩,key⟩:=x
 obtain⟨oa,h1,h2⟩:=uN key
 exact⟨⟨t,rfl,o,q t o hc ho,hc,n,hd⟩,pe key λ o' e=>by rw[h1]at e;cases e;exact q _ _ h2 h1⟩
def putAll(xs:List Ent)(ps:List Ent):List Ent:=ps.foldl (λ xs p=>storedH xs p.1 p.2.1 p.2.2) xs
theorem jY(xs:List Ent)(p:Ent):(storedH xs p.1 p.2.1 p.2.2).length<=xs.length+1:=by
 unfold storedH
 split
 ·simp
 ·simp
theorem vk(hu:A.in1.units < cLine)(hA:A.handled=none)(d it l:Addr)(Tj:d≠it)(V2:l≠it)(V3:l≠d)(au:List Value)(ps:List Ent)(hlen:au.length=ps.length)(OW:ps.length<=1000):
  ∀(k i:Nat) (s:Shared) (xs:List Ent),ps.length - i=k->i<=ps.length->xs.length<=i->s.heap.IsListIter it l i->s.heap.IsList l au.toArray->s.heap.DictOfH (TK prog w) d xs->
   (∀(j:Nat) (u:Value) (p:Ent),au[j]?=some u->ps[j]?=some p->jV prog w s.heap u p)->
   (∀h' tk,(∀b o,b≠d->b≠it->s.heap.get? b=some o->h'.get? b=some o)->h'.DictOfH (TK prog w) d (putAll xs (ps.drop i))->R (.ok (.ret .none)) {s with heap:=h',toks:=tk})->
   codeAny (model prog w) A (.builtin "dict.update.loop" ⟨[.ref d,.ref it,rawInt i,.none],[]⟩) R s:=by
 intro k
 induction k with
 |zero=>
  intro i s xs hk hi SO hit hl hd hp hR
  have e:i=ps.length:=by omega
  subst e
  refine B2 tE ?_
  rw[m8 lI _]
  refine E9 (m:=pyNext (.ref it)) (wpAny_pyNext_list_end (show A.in1.handled=none from hA) hit hl (by simp;omega) λ h' eb=>?_)
  refine E9 (m:=Builtin.Dict.addKeywords d []) (G0 (G0 ?_))
  refine hR h' s.toks (λ b o _ n2 q=>eb b o n2 q) ?_
  rw[drop_length]
  obtain⟨o,es,ep,ho,r1,r2,r3,r4,r5⟩:=hd
  refine⟨o,es,ep,eb d o Tj ho,r1,r2,r3,λ x hx=>?_,r5⟩
  obtain⟨oa,h1,h2⟩:=uN (r4 x hx)
  refine pe (r4 x hx) λ o' e=>eb _ _ (λ z=>?_) e
  rw[z]at h1
  obtain⟨oi,g1,g2,_⟩:=hit
  rw[g1]at h1
  cases h1
  rw[g2]at h2
  exact absurd h2 (by decide)
 |succ k ih=>
  intro i s xs hk hi SO hit hl hd hp hR
  have fO:i < ps.length:=by omega
  have e1:au[i]?=some au[i]:=i8 (by omega)
  have e2:ps[i]?=some ps[i]:=i8 fO
  refine B2 tE ?_
  rw[m8 lI _]
  refine E9 (m:=pyNext (.ref it)) (wpAny_pyNext_list_item hit hl (x:=au[i]) (by simpa using e1) λ g1 Vs s1=>?_)
  have RD:nz s.heap g1:=λ b o hc e=>s1.extBut _ _ (λ z=>by
   rw[z]at e
   obtain⟨oi,q1,q2,_⟩:=hit
   rw[q1]at e
   cases e
   rw[hc]at q2
   exact absurd q2 (by decide)) e
  obtain⟨⟨t,et,⟨ct,dt,da,st⟩,ho,hc,n,s_⟩,key⟩:=(hp i _ _ e1 e2).kM RD
  cases(show ct=.type "tuple" from hc)
  cases(show da=_ from s_)
  have Q9:g1.IsList l au.toArray:=hl.at λ o e=>s1.extBut _ _ V2 e
  have UM:g1.DictOfH (TK prog w) d xs:=by
   obtain⟨o,es,ep,ho,r1,r2,r3,r4,r5⟩:=hd
   refine⟨o,es,ep,s1.extBut _ _ Tj ho,r1,r2,r3,λ x hx=>?_,r5⟩
   obtain⟨oa,h1,h2⟩:=uN (r4 x hx)
   exact pe (r4 x hx) λ o' e=>by rw[h1]at e;cases e;exact RD _ _ h2 h1
  rw[et]
  refine E9 (C2 (E9 (C1 ?_)))
  unfold Builtin.Dict.pairItems
  refine E9 (wpAny_typeOf (T:="tuple") ⟨_,ho,rfl⟩ ?_)
  rw[J4 (by decide)]
  refine E9 (B9 ho rfl (G0 ?_))
  show wpAny _ A.in1 (holding [Value.ref ps[i].2.1,ps[i].2.2] (dictSet d (.ref ps[i].2.1) ps[i].2.2)) _ _ _
  refine C2 (wpAny_dictSet_heap (s:={s with heap:=g1}) (knd:=TK prog w) hu key UM (λ g2 d2 s2=>?_) (D9 (show xs.length<=1000 by omega) (by decide)))
  refine G0 ⟨C8 lI _,?_⟩
  have od:∃o,g1.get? d=some o/\o.cls=.type "dict":=by
   obtain⟨o,es,ep,ho,r1,_⟩:=UM
   exact⟨o,ho,r1.1⟩
  have U_:nz g1 g2:=λ b o hc e=>s2.extBut _ _ (λ z=>by
   rw[z]at e
   obtain⟨oi,q1,q2⟩:=od
   rw[q1]at e
   cases e
   rw[hc]at q2
   exact absurd q2 (by decide)) e
  have Wa:((i:Int)+1)=((i+1:Nat):Int):=by push_cast;rfl
  show codeAny (model prog w) A (.builtin "dict.update.loop" ⟨[.ref d,.ref it,rawInt ((i:Int)+1),.none],[]⟩) R _
  rw[Wa]
  refine ih (i+1) _ (storedH xs ps[i].1 ps[i].2.1 ps[i].2.2) (by omega) fO ?_ (Vs.at λ o e=>s2.extBut _ _ (J3 Tj) e) (Q9.at λ o e=>s2.extBut _ _ V3 e) d2 (λ j u p h1 h2=>((hp j u p h1 h2).kM RD).kM U_) λ h' tk nG jf=>?_
  ·have:=jY xs ps[i]
   omega
  ·refine hR h' tk (λ b o n1 n2 e=>nG b o n1 n2 (s2.extBut _ _ n1 (s1.extBut _ _ n2 e))) ?_
   rw[i4 fO]
   exact jf
end
end L5
namespace L5
open PySem PySem.W PySem.Calls PyProof.Rows
section
variable {prog:Program}{w:World}{A:Around}{E:Value->Shared->Prop}{s:Shared}
theorem FZ{l:Addr}{au:List Value}{ps:List Ent}{Q:Value->Shared->Prop}(hu:A.units+2 < cLine)(hA:A.handled=none)(hl:s.heap.IsList l au.toArray)(hpl:∃o,s.heap.get? l=some o/\o.dict=none)(hlen:au.length=ps.length)(OW:ps.length<=1000)
  (hp:∀(j:Nat) (u:Value) (p:Ent),au[j]?=some u->ps[j]?=some p->jV prog w s.heap u p)
  (h:∀h' tk,(∀b o,s.heap.get? b=some o->h'.get? b=some o)->h'.DictOfH (TK prog w) s.heap.objs.size (putAll [] ps)->s.heap.objs.size < h'.objs.size->Q (.ref s.heap.objs.size) {s with heap:=h',toks:=tk}):
  wpAny (model prog w) A (call (.type "dict") [.ref l]) Q E s:=by
 refine callType_codes (Q₁:=λ obj s₁=>obj=.ref s.heap.objs.size/\s₁={s with heap:=s.heap.push {cls:=.type "dict",data:=.dict #[]}}) F.kt_called_dict (F.kt_typeCall_dict_1 _) F.entry_dict_init (kt_code_dict_new _ ⟨rfl,rfl⟩) ?_
 rintro obj s1 ⟨rfl,rfl⟩
 have new:(s.heap.push {cls:=.type "dict",data:=.dict #[]}).DictOfH (TK prog w) s.heap.objs.size []:=Heap.DictOfH.new s.heap
 refine⟨new.typeIs,F.args_dict_init_2 _ _,?_⟩
 unfold Builtin.«dict.__init__»
 refine E9 ?_
 unfold Builtin.Dict.selfAndRest
 refine E9 (wpAny_notOrdered_dict new.typeIs ?_)
 refine G0 (a:=(s.heap.objs.size,[Value.ref l])) ?_
 obtain⟨ob,UE,V_⟩:=hpl
 obtain⟨⟨c,dd,da,sl⟩,ho,hc,n,s_⟩:=id hl
 rw[ho]at UE
 cases UE
 cases(show c=.type "list" from hc)
 cases(show da=.seq au.toArray n from s_)
 cases(show dd=none from V_)
 have Lz:(s.heap.push {cls:=.type "dict",data:=.dict #[]}).get? l=some {cls:=.type "list",dict:=none,data:=.seq au.toArray n,slots:=sl}:=k4 _ ho
 show wpAny _ _ (Builtin.Dict.updateFrom "dict.__init__" s.heap.objs.size (.ref l) [] .none) _ _ _
 unfold Builtin.Dict.updateFrom
 refine E9 (wpAny_typeOf (T:="list") ⟨_,Lz,rfl⟩ ?_)
 rw[J4 (by decide)]
 refine E9 (FV (s:={s with heap:=s.heap.push {cls:=.type "dict",data:=.dict #[]}}) Lz (show A.in1.handled=none from hA) λ g tk gk=>?_)
 rw[J4 (by rfl)]
 have k0:∀b o,s.heap.get? b=some o->g.get? b=some o:=λ b o e=>gk b o (k4 _ e)
 have UH:g.IsList l au.toArray:=hl.at λ o e=>k0 l o e
 have dg:g.DictOfH (TK prog w) s.heap.objs.size []:=by
  obtain⟨o,es,ep,h1,r⟩:=new
  exact⟨o,es,ep,gk _ _ h1,r.1,r.2.1,r.2.2.1,λ x hx=>absurd hx (by simp),r.2.2.2.2⟩
 have TV:s.heap.objs.size < g.objs.size:=by obtain⟨o,es,ep,h1,_⟩:=dg;exact D3 h1
 refine E9 (G5 (E9 (w5 (s:={s with heap:=g,toks:=tk}) UH ?_)))
 refine G0 ⟨C8 lI _,?_⟩
 have up:∀b o,g.get? b=some o->(g.push {cls:=.type "list_iterator",data:=.fields #[.ref l,.int 0 0]}).get? b=some o:=λ b o e=>k4 _ e
 have f_:l≠s.heap.objs.size:=D1 (D3 ho)
 have fO:l < g.objs.size:=Nat.lt_trans (D3 ho) TV
 refine vk (prog:=prog) (w:=w) (A:=A.in1) (by show A.units+1+1 < cLine;omega) (show A.in1.handled=none from hA) s.heap.objs.size g.objs.size l (D1 TV) (D1 fO) f_ au ps hlen OW _ 0 {s with heap:=g.push {cls:=.type "list_iterator",data:=.fields #[.ref l,.int 0 0]},toks:=tk} [] rfl (E3 _) (E1 _) ⟨_,o7 _ rfl,rfl,rfl⟩ (UH.at λ o e=>up l o e) ?_ ?_ ?_
 ·obtain⟨o,es,ep,h1,r⟩:=dg
  exact⟨o,es,ep,up _ _ h1,r.1,r.2.1,r.2.2.1,λ x hx=>absurd hx (by simp),r.2.2.2.2⟩
 ·intro j u p e1 e2
  exact(hp j u p e1 e2).kM λ b o _ e=>up b o (k0 b o e)
 ·intro h' Hq nG jf
  have Te:s.heap.objs.size < h'.objs.size:=by obtain⟨o,es,ep,h1,_⟩:=jf;exact D3 h1
  refine⟨rfl,h h' Hq (λ b o e=>nG b o (D1 (D3 e)) (D1 (Nat.lt_trans (D3 e) TV)) (up b o (k0 b o e))) jf Te⟩
end
end L5
namespace L5
open PySem PySem.W PySem.Calls PyProof.Rows
def Raw(g:Heap)(d:Addr)(es:Array DictEntry)(ep:Nat):Prop:=∃b,g.get? d=some b/\b.ExactDict/\b.data=.dict es ep
theorem Raw.to {g g':Heap}{d:Addr}{es:Array DictEntry}{ep:Nat}(x:Raw g d es ep)(q:∀b,g.get? d=some b->g'.get? d=some b):Raw g' d es ep:=let⟨b,h1,h2⟩:=x;⟨b,q b h1,h2⟩
theorem Raw.ty {s:Shared}{d:Addr}{es:Array DictEntry}{ep:Nat}(x:Raw s.heap d es ep):s.TypeIs (.ref d) "dict":=let⟨b,h1,h2,_⟩:=x;⟨b,h1,h2.1⟩
theorem Raw.lt {g:Heap}{d:Addr}{es:Array DictEntry}{ep:Nat}(x:Raw g d es ep):d < g.objs.size:=let⟨b,h1,_⟩:=x;D3 h1
section
variable {prog:Program}{w:World}{A:Around}{E:Value->Shared->Prop}{s:Shared}
theorem AV{d:Addr}{es:Array DictEntry}{ep:Nat}{Q:Value->Shared->Prop}(nd:(d==sysModules)=false)(x:Raw s.heap d es ep)
  (fin:Q (.ref s.heap.objs.size) {s with heap:=s.heap.push {cls:=.type "dict_keyiterator",data:=.fields #[.ref d,.int 0 0,.int es.size 0,.int ep 0]}}):wpAny (model prog w) A (pyIter (.ref d)) Q E s:=by
 obtain⟨b,hb,xb,db⟩:=id x
 refine wpAny_pyIter_slot x.ty F.slot_dict_iter (y9 F.slot_dict_iter x.ty F.entry_dict_iter ?_ (F.args_dict_iter_1 _))
 unfold Builtin.«dict.__iter__»
 refine E9 ?_
 unfold Builtin.Dict.dictSlotNone
 refine E9 (wpAny_notOrdered_dict x.ty ?_)
 refine G0 (a:=Value.ref d) ?_
 show wpAny (model prog w) _ (Builtin.Dict.showsAll d >>= _) _ _ s
 unfold Builtin.Dict.showsAll
 rw[J5 (by simp[nd])]
 refine E9 (G0 (E9 (wpAny_dictEntries hb db (E9 (wpAny_dictEpoch hb db ?_)))))
 refine E9 (u5 (G0 ⟨_,rfl,"dict_keyiterator",_,⟨_,o7 _ rfl,rfl⟩,a9.lookup,?_⟩))
 simpa[rawInt]using fin
theorem rP{it d:Addr}{i n ep:Nat}{es:Array DictEntry}{Q:Option Value->Shared->Prop}(ki:s.heap.IsKeyIter it d i n ep)(x:Raw s.heap d es ep)(en:n=es.size)
  (hi:∀e:DictEntry,es[i]?=some e->∀g,g.IsKeyIter it d (i+1) n ep->Heap.SameBut it s.heap g->Q (some e.key) {s with heap:=g})
  (hn:A.handled=none) (he:es[i]?=none->∀g,Heap.ExtBut it s.heap g->Q none {s with heap:=g}):wpAny (model prog w) A (pyNext (.ref it)) Q E s:=by
 subst en
 obtain⟨oi,gi,ci,di⟩:=id ki
 obtain⟨b,hb,xb,db⟩:=id x
 unfold pyNext
 refine E9 (C3 (j5 (name:=Str.ofString "__next__") ki.typeIs a9
  (y9 a9 ki.typeIs F.entry_dict_keyiterator_next ?_ (F.args_dict_keyiterator_next_1 _))))
 refine E9 (G0 (E9 (E9 ?_)))
 first|refine E9 (a8 ki.typeIs (G0 ?_))|refine E9 (wpAny_typeNameOf_keyiter ki.typeIs (G0 ?_))
 refine E9 (wpAny_fieldsOf gi di ?_)
 have own:Builtin.Dict_items.ownsTuple "dict_keyiterator"=false:=rfl
 simp only[own,H9,p6]
 show wpAny (model prog w) _ (if(Value.ref d==Value.none)=true then _ else _) _ _ s
 rw[J5 (by exact o9)]
 refine E9 (G0 (E9 (wpAny_dictEntries hb db ?_)))
 rw[J5 (by simp)]
 refine E9 (G0 (E9 (wpAny_dictEpoch hb db ?_)))
 rw[J5 (by simp)]
 refine G0 ?_
 have nn:¬((i:Int) < 0):=by omega
 by_cases lt:i < es.size
 ·simp only[nn,H9,u4,i0 lt]
  refine E9 ?_
  first|refine E9 (a8 ki.typeIs (G0 ?_))|refine E9 (wpAny_typeNameOf_keyiter ki.typeIs (G0 ?_))
  refine E9 (wpAny_isOneOf_keyiter ki.typeIs ?_)
  show wpAny (model prog w) _ (setField (.ref it) 1 (rawInt ((i:Int)+1)) >>= _) _ _ s
  refine E9 (wpAny_setField gi di (by simp) ?_)
  have k2:(s.heap.update it (Obj.mapFields (·.setIfInBounds 1 (rawInt ((i:Int)+1))))).IsKeyIter it d (i+1) es.size ep:=
   ⟨_,k7 _ gi (Obj.isFreed_of_fields (Obj.data_mapFields di _)),(Obj.cls_mapFields ..).trans ci,by rw[Obj.data_mapFields di];simp[rawInt]⟩
  refine E9 (C2 (E9 (wpAny_isOneOf_keyiter (s:={s with heap:=s.heap.update it (Obj.mapFields (·.setIfInBounds 1 (rawInt ((i:Int)+1))))}) k2.typeIs ?_)))
  show wpAny (model prog w) _ (pure es[i].key) _ _ _
  exact G0 (G0 ⟨_,rfl,G0 (hi _ (i0 lt) _ k2 (m9 ..))⟩)
 ·have ge:es.size<=i:=x8 lt
  simp only[nn,H9,u4,k3 ge]
  refine E9 ?_
  first|refine E9 (a8 ki.typeIs (G0 ?_))|refine E9 (wpAny_typeNameOf_keyiter ki.typeIs (G0 ?_))
  show wpAny (model prog w) _ (setField (.ref it) 0 .none >>= _) _ _ s
  refine E9 (wpAny_setField gi di (by simp) ?_)
  show wpAny (model prog w) _ (newExc (.type "StopIteration") [] >>= _) _ _ _
  refine E9 ?_
  simp only[newTuple,newExc]
  refine E9 (u5 ?_ (by size_fits))
  refine E9 (m:=firstArgMember _ _) (wpAny_of_eq (a:=Value.none) (by first|rfl|(simp only[firstArgMember];rfl)) (u5 ?_ (by size_fits)))
  simp only[raiseNew]
  refine E9 (wpAny_handled ?_)
  rw[show A.in1.handled=none from hn]
  refine E9 (G0 (wpAny_throw ?_))
  refine E9 (wpAny_isInstance (b:=true) (T:="StopIteration") ⟨_,o7 _ rfl,rfl⟩ isSubtype_stop ?_)
  exact G0 (he (k3 ge) _ (((m9 ..).extBut.push _).push _))
theorem AU(hn:A.handled=none)(I d:Addr)(ne:d≠I)(es:Array DictEntry)(ep:Nat):
  Walks prog w A I [I,d] [I] es.size (λ i v=>∃e,es[i]?=some e/\v=e.key) (λ i g=>g.IsKeyIter I d i es.size ep/\Raw g d es ep) where
 sub:=λ b m=>by simp at m;simp[m]
 frame:=λ _ _ _ st k=>⟨st.1.at λ o e=>k I (by simp) o e,st.2.to λ o e=>k d (by simp) o e⟩
 item:=λ i s Q E lt st fin=>rP st.1 st.2 rfl (λ e ee g k2 sb=>fin e.key g s.toks ⟨e,ee,rfl⟩ ⟨k2,st.2.to λ o q=>sb.extBut d o ne q⟩ λ b o m q=>sb.extBut b o (λ z=>m (by simp[z])) q) hn λ e=>absurd e (by rw[i0 lt];exact λ z=>nomatch z)
 done:=λ s Q E st fin=>rP st.1 st.2 rfl (λ e ee=>absurd ee (by rw[k3 (E1 _)];exact λ z=>nomatch z)) hn λ _ g sb=>fin g s.toks λ b o m q=>sb b o (λ z=>m (by simp[z])) q
 self:=λ _ _ _ _ st fin=>wpAny_pyIter_keyiter st.1 fin
theorem wO{d:Addr}{es:Array DictEntry}{ep:Nat}(nd:(d==sysModules)=false):KdlSrc prog w "dict" d d es.size (λ i v=>∃e,es[i]?=some e/\v=e.key) (λ g=>Raw g d es ep) where
 type:=λ _ x=>x.ty
 there:=λ _ x=>⟨x.lt,x.lt⟩
 keep:=λ _ _ x k=>x.to λ o e=>k d (.inl rfl) o e
 notList:=by decide
 notTuple:=by decide
 hint:=λ _ _ _ _ x q=>kdl_hint_dict x.ty q
 iter:=λ _ _ hn x=>⟨_,_,(λ _ _ q=>AV nd x q),AU hn _ d (D1 x.lt) es ep,⟨⟨_,o7 _ rfl,rfl,rfl⟩,x.to λ o e=>k4 _ e⟩⟩
theorem oz{es:Array DictEntry}{acc:Array Value}(it:ItemsOf (λ i v=>∃e,es[i]?=some e/\v=e.key) acc es.size):acc.toList=es.toList.map (·.key):=by
 apply ext_getElem?
 intro i
 by_cases lt:i < acc.size
 ·have le:i < es.size:=by rw[<- it.1];exact lt
  obtain⟨e,e1,e2⟩:=it.2 i acc[i] (i0 lt)
  rw[l6,i0 lt,r9,l6,e1,e2]
  rfl
 ·have le:¬i < es.size:=by rw[<- it.1];exact lt
  rw[l6,k3 (x8 lt),r9,l6,k3 (x8 le)]
  rfl
theorem tV{d:Addr}{es:Array DictEntry}{ep:Nat}{R:List Value->Shared->Prop}(nd:(d==sysModules)=false)(hn:A.handled=none)(x:Raw s.heap d es ep)(hz:es.size<=sizeLine)
  (h:∀g tk,(∀b o,s.heap.get? b=some o->g.get? b=some o)->R (es.toList.map (·.key)) {s with heap:=g,toks:=tk}):wpAny (model prog w) A (collect (.ref d)) R E s:=by
 refine kdu_collect (wO nd) hn x hz λ g tk acc k it=>?_
 have e:=oz it
 rw[e]
 exact h g tk k
end
end L5
namespace L5
open PySem PySem.W PySem.Calls PyProof.Rows
section
variable {prog:Program}{w:World}{A:Around}{E:Value->Shared->Prop}{s:Shared}
theorem DV{d q:Addr}{es:Array DictEntry}{ep:Nat}{Q:Value->Shared->Prop}(nd:(d==sysModules)=false)(hn:A.handled=none)(x:Raw s.heap d es ep)(uC:es.size < 64)
  (h:∀(Dd kS:Addr) (g0 g:Heap) (tk e1:Nat),(∀b o,s.heap.get? b=some o->g0.get? b=some o)->Dd≠kS->g0.objs.size<=Dd->g0.objs.size<=kS->g.get? Dd=some (seqObj "list" #[] e1)->g.get? kS=some (seqObj "list" #[] 0)->(∀b o,s.heap.get? b=some o->g.get? b=some o)->
   wpAny (model prog w) A.in1.in1 (ksk_rest Dd (.ref q) false (es.toList.map (·.key)).toArray e1 (.ref kS)) (λ f s'=>f=.done (.ret .none)/\Q (.ref Dd) s') E {s with heap:=g,toks:=tk}):
  wpAny (model prog w) A (call (.builtin "sorted") [.ref d] [(Str.ofString "key",.ref q)]) Q E s:=by
 refine call_function_entry_kw kind_sorted plain_sorted entry_sorted (ksk_s1 _ _) ?_
 unfold Builtin.«sorted»
 have hlen:(es.toList.map (·.key)).length=es.size:=by simp
 refine E9 (m:=checkCount "sorted" 1 1 _) (G0 (E9 (tV nd (show A.in1.handled=none from hn) x (by rw[E2];omega) λ g tk gk=>E9 (wpAny_newList ?_ (by rw[hlen,E2];omega)))))
 generalize Ut:es.toList.map (·.key)=vs at*
 have Tb:g.objs.size≠g.objs.size+2:=by omega
 have g1:(g.push (seqObj "list" vs.toArray 0)).get? g.objs.size=some (seqObj "list" vs.toArray 0):=o7 _ rfl
 refine E9 (C2 (wpAny_call_entry_kw slot_list_sort ⟨_,g1,rfl⟩ entry_list_sort ?body (ksk_l1 _ _)))
 case body=>
  show wpAny (model prog w) A.in1.in1 (Builtin.«list.sort» ⟨[.ref g.objs.size],[(Str.ofString "key",.ref q)]⟩) _ _ _
  rw[ksk_t1]
  unfold ksk_tree
  generalize hH:g.push (seqObj "list" vs.toArray 0)=H at*
  have eH:H.objs.size=g.objs.size+1:=by rw[<- hH,size_push']
  obtain⟨c1,o1⟩:∃c1,(H.update g.objs.size (Obj.mapSeq λ _=>(#[]:Array Value))).get? g.objs.size=some (seqObj "list" #[] c1):=⟨_,get?_update_seq g1 λ _=>#[]⟩
  refine E9 (listItems_at g1 rfl (E9 (listUpdate_at g1 rfl (E9 (seqEpoch_at o1 rfl (E9 (wpAny_newTuple (E9 (wpAny_newList (C2 ?_) (E3 _))) (by show vs.length<=_;rw[E2];omega))))) (by rw[x4,E2];omega) (E3 _))))
  have e2:(H.update g.objs.size (Obj.mapSeq λ _=>(#[]:Array Value))).objs.size=g.objs.size+1:=by rw[Heap.size_update,eH]
  have e3:((H.update g.objs.size (Obj.mapSeq λ _=>(#[]:Array Value))).push (seqObj "tuple" vs.toArray 0)).objs.size=g.objs.size+2:=by rw[size_push',e2]
  have g3:(((H.update g.objs.size (Obj.mapSeq λ _=>(#[]:Array Value))).push (seqObj "tuple" vs.toArray 0)).push (seqObj "list" #[] 0)).get? (g.objs.size+2)=some (seqObj "list" #[] 0):=by rw[<- e3];exact o7 _ rfl
  show wpAny (model prog w) A.in1.in1 (ksk_rest g.objs.size (.ref q) false vs.toArray c1 (.ref ((H.update g.objs.size (Obj.mapSeq λ _=>(#[]:Array Value))).push (seqObj "tuple" vs.toArray 0)).objs.size)) _ _ {s with heap:=((H.update g.objs.size (Obj.mapSeq λ _=>(#[]:Array Value))).push (seqObj "tuple" vs.toArray 0)).push (seqObj "list" #[] 0),toks:=tk}
  rw[e3]
  refine G7 (h g.objs.size (g.objs.size+2) g _ tk c1 gk Tb (E1 _) (Nat.le_add_right _ _) (k4 _ (k4 _ o1)) g3 λ b o y=>k4 _ (k4 _ (by
   have hb:b < g.objs.size:=D3 (gk b o y)
   rw[Heap.get?_update_ne _ _ _ _ (D1 hb),<- hH];exact k4 _ (gk b o y)))) (λ f s' hf=>?_) λ _ _ z=>z
  obtain⟨rfl,hq⟩:=hf
  exact⟨_,rfl,G0 ⟨_,rfl,hq⟩⟩
end
end L5
namespace L2
open PySem PySem.Spec PyProof.Rows L5 PySem.W
section
variable {X:Cx}{pins:List (Addr×Obj)}{σ:St}{H:Hp}{s:Shared}
variable {k:Nat}{q:Addr}{fd:FuncData}{ps:List Str}{sp:Sp}
def Goes(X:Cx)(q l:Addr)(au:List Value)(s:Shared):Prop:=∀(Q:Value->Shared->Prop),
 (∀(Dd kS:Addr) (g0 g:Heap) (tk e1:Nat),(∀b o,s.heap.get? b=some o->g0.get? b=some o)->Dd≠kS->g0.objs.size<=Dd->g0.objs.size<=kS->g.get? Dd=some (seqObj "list" #[] e1)->g.get? kS=some (seqObj "list" #[] 0)->(∀b o,s.heap.get? b=some o->g.get? b=some o)->
  wpAny (model X.prog X.w) X.A.in1.in1 (ksk_rest Dd (.ref q) false au.toArray e1 (.ref kS)) (λ f s'=>f=.done (.ret .none)/\Q (.ref Dd) s') X.xe {s with heap:=g,toks:=tk})->
 wpAny (model X.prog X.w) X.A (call (.builtin "sorted") [.ref l] [(Str.ofString "key",.ref q)]) Q X.xe s
theorem wb(F:bS X.prog X.w X.K X.mg X.base fc k q fd ps sp)(hb:Binds X.K fd ps [])(hr:cD (k+2) X.A){l:Addr}{ys:List V}{Q:VK}{b:Bool}(I:Inv X pins σ H s){au:List Value}(rv:Vals ys au)(go:Goes X q l au s)(uC:ys.length < 64)(R:List V->Hp->Prop)(key:Nat->Ky)(h0:R [] H)
  (hc:∀kvs H v,R kvs H->ys[kvs.length]?=some v->sp [v] H (λ k H'=>R (kvs++[k]) H') E0)
  (hk:∀kvs H,R kvs H->kvs.length=ys.length->(∀i k,kvs[i]?=some k->jv X.K b H k (key i))/\∀p out,H p=none->Out (λ i j=>klt (key i) (key j)) ys V.bj out->Q (.ref p) (upd H p (.lst out))):
  wpAny (model X.prog X.w) X.A (call (.builtin "sorted") [.ref l] [(Str.ofString "key",.ref q)]) (EP X pins σ Q) X.xe s:=by
 have hlen:=rv.length
 have hu:=hr.units
 have room:cD k X.A.in1.in1:=(hr.in1 (k:=k+1)).in1
 refine go _ λ Dd kS g0 g tk e1 Ww f_ lD lK gD gK gk=>?_
 have I0:Inv X pins σ H {s with heap:=g0,toks:=tk}:=I.kept (t':=tk) Ww
 have f1:=I0.iu (H':=λ _=>none) (b:=Dd) lD rfl
 have f3:=I0.iu (H':=λ _=>none) (b:=kS) lK rfl
 refine xl (J:=λ ks e s'=>∃kvs H',Inv X ((kS,seqObj "list" (List.toArray ks) e)::(Dd,seqObj "list" #[] e1)::pins) σ H' s'/\Vals kvs ks/\R kvs H'/\ks.length<=au.length) (by omega) ?_ ?_ ?_ ?_
 ·rintro ks e s' ⟨kvs,H',I',rk,hR,sY⟩
  exact⟨(I'.pin _ (k8 _ (.head _))).1,sY⟩
 ·rintro x ks e s' ⟨kvs,H',I',rk,hR,sY⟩ hx
  have lk:=rk.length
  obtain⟨y,hy,ry⟩:∃y,ys[kvs.length]?=some y/\RelV y x:=by
   have hi:kvs.length < ys.length:=by
    have:=(i5.mp hx).1
    omega
   obtain⟨u,Gs,ru⟩:=rv.get (i8 hi)
   rw[lk,hx]at Gs
   cases Gs
   exact⟨_,i8 hi,ru⟩
  have call:=hc kvs H' y hR hy
  have r1:Vals [y] [x]:=.cons ry .nil
  have Gz:([x]++([]:List Value)).length=ps.length:=by
   have:=F.len _ _ _ _ call
   simpa using this
  have en:qM X.prog X.w X.K X.mg X.base X.A.in1.in1 X.stack s' H':=I'.LS.in1.in1
  have bt:=hb s' [x] I'.nO Gz
  rw[A3]at bt
  refine wpAny_call (codeAny_mono (F.run X.A.in1.in1 X.stack s' H' ⟨[x],[]⟩ [x] [y] _ E0 room en bt r1 call) λ r s2 hq=>?_)
  cases r with
  |error e=>exact hq
  |ok fl=>
   cases fl with
   |ret u=>
    obtain⟨kv,H2,I2,ru,Tu⟩:=I'.after hq
    have pk:=I2.pin _ (k8 _ (o8 ..))
    refine⟨pk.1,λ h' c Tg sb=>⟨kvs++[kv],H2,?_,rk.append (.cons ru .nil),Tu,?_⟩⟩
    ·have I3:Inv X ((Dd,seqObj "list" #[] e1)::pins) σ H2 s2:=I2.cG λ p hp=>I2.pin p (k8 _ (.tail _ hp))
     have pd:=I2.pin _ (k8 _ (List.Mem.tail _ (o8 ..)))
     have fk:fS X ((Dd,seqObj "list" #[] e1)::pins) H2 (kS):=⟨pk.2.1,f3.2.1,f3.2.2.1,f3.2.2.2.1,f3.2.2.2.2.1,λ p hp=>by
      rcases B5.mp hp with z|z
      ·exact f3.2.2.2.2.2 p (m6 _ z)
      ·rcases C7.mp z with rfl|z
       ·exact f_
       ·exact f3.2.2.2.2.2 p (k8 _ z)⟩
     have I4:Inv X ((Dd,seqObj "list" #[] e1)::pins) σ H2 {s2 with heap:=h'}:=hV (t':=s2.toks) (ch:=[kS]) I3 (λ b o hb e=>(sb.2 b (λ z=>hb (by simp[z]))).trans e) λ b oN=>by
      have:b=kS:=by simpa using oN
      subst this
      exact fk
     refine I4.cG λ p hp=>?_
     rcases C7.mp hp with rfl|z
     ·exact⟨Tg,pk.2.1,f3.2.1,f3.2.2.1,λ v z=>by cases z⟩
     ·exact I4.pin p (k8 _ z)
    ·have:=(i5.mp hx).1
     rw[p5,k9]
     omega
   |next=>exact hq.elim
   |brk=>exact hq.elim
   |cont=>exact hq.elim
 ·have I5:Inv X pins σ H {s with heap:=g,toks:=tk}:=I.kept (t':=tk) gk
  have hn:∀b,g0.objs.size<=b->H b=none:=λ b hb=>I0.bN.fresh hb
  refine⟨[],H,I5.cG λ p hp=>?_,.nil,h0,E3 _⟩
  rcases C7.mp hp with rfl|z
  ·exact⟨gK,hn _ lK,f3.2.1,f3.2.2.1,λ v z=>by cases z⟩
  ·rcases C7.mp z with rfl|z
   ·exact⟨gD,hn _ lD,f1.2.1,f1.2.2.1,λ v z=>by cases z⟩
   ·exact I5.pin p (k8 _ z)
 ·rintro ks e s' ⟨kvs,H',I',rk,hR,_⟩ sY
  have lk:=rk.length
  obtain⟨qk,hQ⟩:=hk kvs H' hR (by omega)
  have pk:=I'.pin _ (k8 _ (o8 ..))
  have pd:=I'.pin _ (k8 _ (List.Mem.tail _ (o8 ..)))
  have Q4:X.A.in1.in1.units+1 < cLine:=by have:=room.units;omega
  refine BW (κ:=tuples' true) (xo key) sY (by omega) pk.1 pd.1 f_ (λ h2 C hC=>?_) (λ h2 i j C hi hj hC=>?_) λ out h' c ho hD CB=>⟨rfl,?_⟩
  ·obtain⟨fs,t1,t2,t3⟩:=mR I' rk qk
   refine kat_kind (T:=.type "int") t1 (by omega) (λ v hv=>?_) rfl hC
   obtain⟨i,t,rfl⟩:=t3 v hv
   exact(show Looks _ s'.heap (pure (Value.type "int")) _ from .now)
  ·have gi:∀i,i < au.length->∃k u,kvs[i]?=some k/\ks.getD i Value.none=u/\RelV k u:=λ i hi=>by
    have HX:i < kvs.length:=by omega
    obtain⟨u,e,r⟩:=rk.get (i8 HX)
    exact⟨_,u,i8 HX,by rw[e9,e];rfl,r⟩
   obtain⟨k1,u1,a1,a2,a3⟩:=gi i hi
   obtain⟨k2,u2,b1,b2,b3⟩:=gi j hj
   rw[a2,b2]
   exact BY I' Q4 (qk i k1 a1) (qk j k2 b1) a3 b3 hC
  ·obtain⟨p,p1,p2,p3⟩:=ho
   subst p3
   have I6:Inv X pins σ H' s':=I'.cG λ p hp=>I'.pin p (k8 _ (.tail _ (.tail _ hp)))
   have I7:Inv X pins σ H' {s' with heap:=h'}:=hV (t':=s'.toks) (ch:=[Dd,kS]) I6 (λ b o hb e=>CB b o (λ z=>hb (by simp[z])) (λ z=>hb (by simp[z])) e) λ b oN=>by
    simp at oN
    rcases oN with rfl|rfl
    ·exact⟨pd.2.1,f1.2⟩
    ·exact⟨pk.2.1,f3.2⟩
   have RW:Vals (p.toList.map λ i=>ys.getD i V.bj) (p.toList.map λ i=>au.getD i Value.none):=rh rv _
   have OK:(p.toList.map λ i=>ys.getD i V.bj).length<=sizeLine:=by
    rw[B4,n9,p1.size,E2]
    omega
   refine⟨.ref (Dd),_,Inv.oq (D:=Dd) (o:=.lst (p.toList.map λ i=>ys.getD i V.bj)) I7 pd.2.1 (show _/\∃(au:List Value) (n:Nat),Vals _ au/\_ from⟨OK,_,c,RW,hD⟩) f1.2.1 (D9 I0.sz lD) f1.2.2.2.2.1 f1.2.2.2.2.2,rfl,hQ _ _ pd.2.1 ⟨p,by rw[hlen];exact p1,by rw[hlen];exact p2,rfl⟩⟩
end
end L2
namespace L5
open PySem
section
variable {α β γ:Type}[DecidableEq α][DecidableEq γ]
def jc(acc:List (α×β))(p:α×β):List (α×β):=if p.1∈acc.map (·.1)then acc else acc++[p]
def eE(ps:List (α×β)):List (α×β):=ps.foldl jc []
def jd(acc:List γ)(r:γ):List γ:=if r∈acc then acc else acc++[r]
def once(rs:List γ):List γ:=rs.foldl jd []
theorem yS{acc:List (α×β)}{p q:α×β}(h:q∈jc acc p):q∈acc\/q=p:=by
 unfold jc at h
 split at h
 ·exact .inl h
 ·simpa using h
theorem sG:∀(ps acc:List (α×β)) (q:α×β),q∈ps.foldl jc acc->q∈acc\/q∈ps
 |[],_,_,h=>.inl h
 |p::ps,acc,q,h=>by
  rcases sG ps _ q h with h|h
  ·rcases yS h with h|h
   ·exact .inl h
   ·exact .inr (by simp[h])
  ·exact .inr (by simp[h])
theorem vC{ps:List (α×β)}{q:α×β}(h:q∈eE ps):q∈ps:=by
 rcases sG ps [] q h with h|h
 ·cases h
 ·exact h
theorem oP(F:γ->α)(inj:∀a b,F a=F b->a=b):∀(ps acc:List (α×β)) (rs ac:List γ),acc.map (·.1)=ac.map F->ps.map (·.1)=rs.map F->(ps.foldl jc acc).map (·.1)=(rs.foldl jd ac).map F
 |[],_,[],_,h,_=>h
 |[],_,_::_,_,_,e=>by simp at e
 |_::_,_,[],_,_,e=>by simp at e
 |p::ps,acc,r::rs,ac,h,e=>by
  simp only[C6,List.cons.injEq]at e
  refine oP F inj ps _ rs _ ?_ e.2
  have iff:p.1∈acc.map (·.1)↔r∈ac:=by
   rw[h,e.1,D4]
   constructor
   ·rintro⟨a,ha,hb⟩
    rw[<- inj _ _ hb]
    exact ha
   ·exact λ ha=>⟨r,ha,rfl⟩
  unfold jc jd
  by_cases m:r∈ac
  ·rw[J4 m,J4 (iff.mpr m)]
   exact h
  ·rw[J5 m,J5 (λ z=>m (iff.mp z))]
   simp[h,e.1]
theorem tm(F:γ->α)(inj:∀a b,F a=F b->a=b){ps:List (α×β)}{rs:List γ}(e:ps.map (·.1)=rs.map F):(eE ps).map (·.1)=(once rs).map F:=oP F inj ps [] rs [] rfl e
theorem oD:∀(rs acc:List γ) (q:γ),q∈rs.foldl jd acc->q∈acc\/q∈rs
 |[],_,_,h=>.inl h
 |p::ps,acc,q,h=>by
  rcases oD ps _ q h with h|h
  ·unfold jd at h
   split at h
   ·exact .inl h
   ·rcases B5.mp h with h|h
    ·exact .inl h
    ·exact .inr (by simp at h;simp[h])
  ·exact .inr (by simp[h])
theorem sF{rs:List γ}{q:γ}(h:q∈once rs):q∈rs:=by
 rcases oD rs [] q h with h|h
 ·cases h
 ·exact h
theorem oF:∀(rs acc:List γ),(rs.foldl jd acc).length<=acc.length+rs.length
 |[],_=>by simp
 |p::ps,acc=>by
  have h:=oF ps (jd acc p)
  have h2:(jd acc p).length<=acc.length+1:=by
   unfold jd
   split <;> simp
  simp only[foldl_cons,x9]
  omega
theorem BS(rs:List γ):(once rs).length<=rs.length:=by
 have:=oF rs []
 simpa[once]using this
end
def ka(x:Ent):List L2.Key×Addr:=(x.1,x.2.1)
theorem Lm(k:List L2.Key)(v:Value)(x:Ent):ka (putAt k v x)=ka x:=by
 unfold putAt ka
 split <;> rfl
theorem Dp(xs:List Ent)(k:List L2.Key):(atKey xs k).isSome=true↔k∈(xs.map ka).map (·.1):=by
 unfold atKey
 rw[w9,find?_isSome]
 constructor
 ·rintro⟨x,hx,e⟩
  refine D4.mpr ⟨ka x,D4.mpr ⟨x,hx,rfl⟩,of_decide_eq_true e⟩
 ·intro h
  obtain⟨p,hp,e⟩:=D4.mp h
  obtain⟨x,hx,rfl⟩:=D4.mp hp
  exact⟨x,hx,B8 e⟩
theorem yY(xs:List Ent)(p:Ent):(storedH xs p.1 p.2.1 p.2.2).map ka=jc (xs.map ka) (ka p):=by
 unfold storedH jc
 by_cases h:(atKey xs p.1).isSome=true
 ·rw[J4 h,J4 (show(ka p).1∈_ from(Dp xs p.1).mp h),D8]
  exact map_congr_left λ x _=>Lm _ _ x
 ·rw[J5 h,J5 (show ¬(ka p).1∈(xs.map ka).map (·.1)from λ z=>h ((Dp xs p.1).mpr z)),B6]
  rfl
theorem B_:∀(ps xs:List Ent),(putAll xs ps).map ka=(ps.map ka).foldl jc (xs.map ka)
 |[],_=>rfl
 |p::ps,xs=>by
  show(putAll (storedH xs p.1 p.2.1 p.2.2) ps).map ka=_
  rw[B_ ps,yY]
  rfl
theorem xi:∀(ps xs:List Ent),(putAll xs ps).length<=xs.length+ps.length
 |[],_=>by simp[putAll]
 |p::ps,xs=>by
  have h:=xi ps (storedH xs p.1 p.2.1 p.2.2)
  have h2:=jY xs p
  have e:putAll xs (p::ps)=putAll (storedH xs p.1 p.2.1 p.2.2) ps:=rfl
  rw[e,x9]
  omega
end L5
namespace L2
open PySem PySem.Spec PyProof.Rows L5 PySem.W
def iz(K:PySem.W.Frag)(H:Hp):List V->List (List Key×Addr)->Prop
 |[],[]=>True
 |y::ys,p::ps=>(∃(t:Addr) (v:V) (r:List Int),y=.ref t/\fz K H t [.ref p.2,v]/\p.1=r.map Sum.inl/\fz K H p.2 (r.map V.int))/\iz K H ys ps
 |_,_=>False
theorem iz.row {K:PySem.W.Frag}{H:Hp}:∀{ys:List V} {ps:List (List Key×Addr)},iz K H ys ps->∀p∈ps,∃r:List Int,p.1=r.map Sum.inl/\fz K H p.2 (r.map V.int)
 |[],[],_,_,m=>by cases m
 |[],_::_,h,_,_=>h.elim
 |_::_,[],h,_,_=>h.elim
 |y::ys,q::ps,⟨⟨t,v,r,_,_,h1,h2⟩,h⟩,p,m=>by
  rcases C7.mp m with rfl|m
  ·exact⟨r,h1,h2⟩
  ·exact iz.row h p m
section
variable {X:Cx}{pins:List (Addr×Obj)}{σ:St}{H:Hp}{s:Shared}
theorem mU{prog:Program}{w:World}:∀{au:List Value} {r:List Int},Vals (r.map V.int) au->ItemsAre (cm prog w) (r.map Sum.inl) au
 |au,[],h=>by cases h;exact .nil
 |au,i::r,h=>by
  cases h with
  |cons h1 h2=>
   obtain⟨t,rfl⟩:=h1
   exact .cons (kg prog w i t) (mU h2)
theorem mJ(I:Inv X pins σ H s):∀{ys:List V} {kp:List (List Key×Addr)} {au:List Value},iz X.K H ys kp->Vals ys au->∃ps:List Ent,ps.map ka=kp/\au.length=ps.length/\∀(j:Nat) (u:Value) (p:Ent),au[j]?=some u->ps[j]?=some p->jV X.prog X.w s.heap u p
 |[],[],_,_,.nil=>⟨[],rfl,rfl,λ j u p h=>by simp at h⟩
 |[],_::_,_,h,_=>h.elim
 |_::_,[],_,h,_=>h.elim
 |y::ys,q::kp,_,h0,.cons (b:=u0) e0 er=>by
  obtain⟨⟨t,v,r,rfl,h1,h2,h3⟩,h⟩:=h0
  obtain⟨ps,p1,p2,p3⟩:=mJ I h er
  cases(show u0=Value.ref t from e0)
  obtain⟨i2,r2,⟨o,ho,hc,n,hd⟩,_⟩:=I.tuple h1
  obtain⟨u1,u2,rfl,q1,q2⟩:=vals2 r2
  cases(show u1=Value.ref q.2 from q1)
  obtain⟨i3,r3,⟨o3,VT,V',n3,GH⟩,_⟩:=I.tuple h3
  refine⟨(q.1,q.2,u2)::ps,by simp[ka,p1],by simp[p2],λ j u p e1 e2=>?_⟩
  cases j with
  |zero=>
   simp at e1 e2
   subst e1 e2
   refine⟨⟨t,rfl,o,ho,hc,n,hd⟩,o3,i3.toArray,n3,VT,V',GH,?_⟩
   rw[h2]
   exact mU r3
  |succ j=>exact p3 j u p (by simpa using e1) (by simpa using e2)
end
section
variable {X:Cx}{e:Expr}{te:TE}{p p2 pos dR fp kp:Pos}{f:Str}{k:Nat}{ps:List Str}{sp:Sp}
def pJ(K:PySem.W.Frag)(sp:Sp)(x:V)(H:Hp)(Q:VK):Prop:=∃(l:Addr) (ys zs:List V) (kp:List (List Key×Addr)) (b:Bool) (R:List V->Hp->Prop) (key:Nat->Ky),x=.ref l/\du K H l ys/\ys.length < 64/\iz K H ys kp/\zs=(eE kp).map (λ p=>V.ref p.2)/\R [] H/\
 (∀kvs H v,R kvs H->zs[kvs.length]?=some v->sp [v] H (λ k H'=>R (kvs++[k]) H') E0)/\
 ∀kvs H,R kvs H->kvs.length=zs.length->(∀i k,kvs[i]?=some k->jv K b H k (key i))/\∀p out,H p=none->Out (λ i j=>klt (key i) (key j)) zs V.bj out->Q (.ref p) (upd H p (.lst out))
theorem oh:∀as:List Addr,Vals (as.map V.ref) (as.map Value.ref)
 |[]=>.nil
 |a::as=>.cons rfl (oh as)
theorem rT(d:bG X.prog X.w X.K X.mg X.base k f ps sp)(hr:cD (k+2) X.A)(hg:Gl X "sorted")(hm:X.mg "sorted"=none)(O1:Gl X "dict")(OV:X.mg "dict"=none)(CF:Gl X f)(he:PE X e te)(sZ:(f==("__debug__":Str))=false:=by decide)
  (hs:starEach [.Call (.Name "dict" p2) [e] [] dR] X.env=[(false,eval (.Call (.Name "dict" p2) [e] [] dR) X.env)]:=by rfl) (jN:backTo pos (starEach [.Call (.Name "dict" p2) [e] [] dR] X.env)=(false,eval (.Call (.Name "dict" p2) [e] [] dR) X.env)::backTo pos (starEach [] X.env):=by rfl) (gI:(backTo pos (starEach [.Call (.Name "dict" p2) [e] [] dR] X.env)).any (·.1)=false:=by rfl)
  (ht:starEach [e] X.env=[(false,eval e X.env)]:=by rfl) (OQ:starEach [e] X.env=(false,eval e X.env)::starEach [] X.env:=by rfl) (OP:(backTo dR (starEach [] X.env)).any (·.1)=false:=by rfl):
  PE X (.Call (.Name "sorted" p) [.Call (.Name "dict" p2) [e] [] dR] [⟨some "key",.Name f fp,kp⟩] pos) (λ σ H Q=>te σ H λ x H1=>pJ X.K sp x H1 Q):=by
 intro pins s σ H Q I h
 obtain⟨q,fd,G,Td,kq,bd⟩:=d.ex
 refine r6 (eZ I hg hm PyProof.Rows.boot_sorted ?_ (by decide) (by decide))
 refine PyProof.Rows.callWith_kw ?_ jN gI
 rw[hs]
 show wpAny _ _ (spliced ((false,eval (.Call (.Name "dict" p2) [e] [] dR) X.env)::[])) _ _ s
 refine Calls.spliced_cons (r6 (eZ I O1 OV PyProof.Rows.boot_dict ?_ (by decide) (by decide)))
 refine c9 (cP ((fN he ip (by rw[ht];rfl)) dR pins s σ H (λ vs H1=>match vs with|[x]=>pJ X.K sp x H1 Q|_=>False) I h) λ us s1 ⟨vs,H1,I1,r1,q1⟩=>?_) OQ OP
 cases vs with
 |nil=>exact q1.elim
 |cons x vs=>
  cases vs with
  |cons _ _=>exact q1.elim
  |nil=>
  have q1:pJ X.K sp x H1 Q:=q1
  obtain⟨u,rfl,ru⟩:=vals1 r1
  obtain⟨l,ys,zs,DA,b,R,key,rfl,hl,uC,hp,rfl,h0,hc,hk⟩:=q1
  cases(show u=Value.ref l from ru)
  obtain⟨au,rv,pl,hz⟩:=I1.list hl
  have hlen:=rv.length
  obtain⟨es,e1,e2,e3⟩:=mJ I1 hp rv
  have hu:=hr.un
  have ol:∃o,s1.heap.get? l=some o/\o.dict=none:=by
   obtain⟨o,n,a1,a2,a3,a4⟩:=pl
   exact⟨o,a1,a3⟩
  have two:(s1.heap.objs.size==sysModules)=false:=by
   obtain⟨o,n,a1,a2,a3,a4⟩:=pl
   obtain⟨m,⟨o',b1,b2,b3,b4,_⟩,_⟩:=I1.loc
   have ne:l≠X.env.locals:=λ z=>by
    rw[z,b3]at a1
    cases a1
    rw[a4]at b4
    cases b4
   have l1:l < s1.heap.objs.size:=D3 a1
   have l2:X.env.locals < s1.heap.objs.size:=D3 b3
   refine beq_eq_false_iff_ne.mpr λ z=>?_
   have z:s1.heap.objs.size=1:=z
   have:∀a b:Nat,a≠b->a < 1->b < 1->False:=λ a b _ _ _=>by omega
   exact this l X.env.locals ne (z▸l1) (z▸l2)
  refine FZ (by omega) hr.hd pl.isList ol e2 (by omega) e3 λ g tk gk gd gz=>?_
  have I2:Inv X pins σ H1 {s1 with heap:=g,toks:=tk}:=I1.kept (t':=tk) gk
  refine Calls.spliced_nil ?_
  show wpAny _ _ (evalAll ((do let v <- eval (.Name f fp) X.env;standAt pos;pure v)::[])) _ _ _
  refine wpAny_evalAll_cons (E9 (pX I2 CF Td (E9 (wpAny_standAt (G0 (wpAny_evalAll_nil ?_)))) sZ))
  obtain⟨o,Pj,ep,o1,o2,o3,o4,o5,o6⟩:=gd
  have ek:(putAll [] es).map ka=eE DA:=by
   rw[B_,e1]
   rfl
  have ev:Pj.toList.map (·.key)=((eE DA).map (·.2)).map Value.ref:=by
   rw[o4,<- ek,D8,D8,D8]
   rfl
  have hsz:Pj.size < 64:=by
   have a:=xi es []
   have b:Pj.toList.length=(putAll [] es).length:=by rw[o4,B4]
   rw[n9]at b
   simp at a
   omega
  have ez:(eE DA).map (λ p=>V.ref p.2)=((eE DA).map (·.2)).map V.ref:=by
   rw[D8]
   rfl
  have lz:((eE DA).map (λ p=>V.ref p.2)).length < 64:=by
   have b:(eE DA).length=Pj.size:=by
    have:=J1 List.length ev
    simpa using this.symm
   rw[B4,b]
   exact hsz
  have go:Goes X q s1.heap.objs.size (((eE DA).map (·.2)).map Value.ref) {s1 with heap:=g,toks:=tk}:=by
   intro Q' hQ
   refine DV (s:={s1 with heap:=g,toks:=tk}) two hr.hd (⟨o,o1,o2,o3⟩:Raw g _ Pj ep) hsz λ Dd kS g0 g' Hq Pf a1 a2 a3 a4 a5 a6 a7=>?_
   rw[ev]
   exact hQ Dd kS g0 g' Hq Pf a1 a2 a3 a4 a5 a6 a7
  exact wb G bd hr I2 (by rw[ez];exact oh _) go lz R key h0 hc hk
end
end L2
namespace L3
open PySem PySem.Spec L2 L5
def yy(r:List Int):D:=.tup (r.map D.int)
def pairD(r:List Int):D:=.tup [yy r,.bl true]
theorem qd:∀a b:List Int,(a.map Sum.inl:List Key)=b.map Sum.inl->a=b
 |[],[],_=>rfl
 |[],_::_,h=>by cases h
 |_::_,[],h=>by cases h
 |x::a,y::b,h=>by
  simp only[C6,List.cons.injEq,Sum.inl.injEq]at h
  rw[h.1,qd a b h.2]
section
variable {K:PySem.W.Frag}{H:Hp}
theorem rW:∀{rows:List (List Int)} {ys:List V},aD K H (rows.map pairD) ys->∃kp,iz K H ys kp/\kp.map (·.1)=rows.map λ r=>(r.map Sum.inl:List Key)
 |[],ys,h=>by
  cases(ao.mp h)
  exact⟨[],trivial,rfl⟩
 |r::rows,ys,h=>by
  obtain⟨y,ys,rfl,h1,h2⟩:=ai.mp h
  obtain⟨kp,a1,a2⟩:=rW h2
  obtain⟨t,xs,rfl,hq,hd⟩:=aM.mp h1
  obtain⟨x1,r1,rfl,b1,hd⟩:=ai.mp hd
  obtain⟨x2,r2,rfl,b2,hd⟩:=ai.mp hd
  cases(ao.mp hd)
  obtain⟨m,zs,rfl,DB,hd2⟩:=aM.mp b1
  rw[cR hd2]at DB
  exact⟨((r.map Sum.inl:List Key),m)::kp,⟨⟨t,x2,r,rfl,hq,rfl,DB⟩,a1⟩,by simp[a2]⟩
theorem ky:∀{fs:List (List Key×Addr)} {rs:List (List Int)},(∀p∈fs,∃r:List Int,p.1=r.map Sum.inl/\fz K H p.2 (r.map V.int))->fs.map (·.1)=rs.map (λ r=>(r.map Sum.inl:List Key))->aD K H (rs.map yy) (fs.map λ p=>V.ref p.2)
 |[],[],_,_=>by simp[ao]
 |[],_::_,_,h=>by cases h
 |_::_,[],_,h=>by cases h
 |p::fs,r::rs,h,e=>by
  simp only[C6,List.cons.injEq]at e
  obtain⟨r',e1,e2⟩:=h p (by simp)
  have er:r'=r:=qd _ _ (e1.symm.trans e.1)
  subst er
  rw[C6,C6,ai]
  refine⟨_,_,rfl,aM.mpr ⟨p.2,_,rfl,e2,jR r'⟩,ky (λ q m=>h q (by simp[m])) e.2⟩
end
def qt(sp:eK)(d:D)(M:Mem)(Q:bD):Prop:=∃(l:Addr) (rows:List (List Int)) (b:Bool) (R:List D->Mem->Prop) (key:Nat->Ky),d=.ref l/\M l=some (.lst (rows.map pairD))/\rows.length < 64/\R [] M/\
 (∀cK M e,R cK M->((once rows).map yy)[cK.length]?=some e->sp [e] M (λ k M'=>R (cK++[k]) M'))/\
 ∀cK M,R cK M->cK.length=(once rows).length->(∀i k,cK[i]?=some k->wj b M k (key i))/\∀p out,M p=none->Out (λ i j=>klt (key i) (key j)) ((once rows).map yy) D.bj out->Q (.ref p) (ak M p (.lst out))
def pE(sp:eK)(te:bV):bV:=λ δ M Q=>te δ M λ d M1=>qt sp d M1 Q
section
variable {X:Cx}{e:Expr}{te:bV}{p p2 pos dR fp kp:Pos}{f:Str}{k:Nat}{ps:List Str}{sp:eK}
theorem vd(d:bM X.prog X.w X.K X.mg X.base k f ps sp)(hr:cD (k+2) X.A)(hg:Gl X "sorted")(hm:X.mg "sorted"=none)(O1:Gl X "dict")(OV:X.mg "dict"=none)(CF:Gl X f)(he:QE X e te)(sZ:(f==("__debug__":Str))=false:=by decide)
  (hs:starEach [.Call (.Name "dict" p2) [e] [] dR] X.env=[(false,eval (.Call (.Name "dict" p2) [e] [] dR) X.env)]:=by rfl) (jN:backTo pos (starEach [.Call (.Name "dict" p2) [e] [] dR] X.env)=(false,eval (.Call (.Name "dict" p2) [e] [] dR) X.env)::backTo pos (starEach [] X.env):=by rfl) (gI:(backTo pos (starEach [.Call (.Name "dict" p2) [e] [] dR] X.env)).any (·.1)=false:=by rfl)
  (ht:starEach [e] X.env=[(false,eval e X.env)]:=by rfl) (OQ:starEach [e] X.env=(false,eval e X.env)::starEach [] X.env:=by rfl) (OP:(backTo dR (starEach [] X.env)).any (·.1)=false:=by rfl):
  QE X (.Call (.Name "sorted" p) [.Call (.Name "dict" p2) [e] [] dR] [⟨some "key",.Name f fp,kp⟩] pos) (pE sp te):=by
 refine bO (rT d hr hg hm O1 OV CF he sZ hs jN gI ht OQ OP) ?_
 rintro σ H Q ⟨δ,M,Q2,hs,hm,q,k⟩
 refine⟨δ,M,_,hs,hm,q,λ x H1 d M1 hd bR t1 q1=>?_⟩
 obtain⟨l,rows,b,R,key,rfl,hM,uC,h0,hc,hk⟩:=q1
 cases(aB.mp hd)
 obtain⟨ys,hy,MM⟩:=bR l _ hM
 have hlen:=MM.length
 rw[B4]at hlen
 obtain⟨DA,p1,p2⟩:=rW MM
 have hd2:aD X.K H1 ((once rows).map yy) ((eE DA).map λ p=>V.ref p.2):=ky (λ p m=>p1.row p (vC m)) (tm _ qd p2)
 have UG:=hd2.length
 rw[B4 (f:=yy)]at UG
 refine⟨l,ys,_,DA,b,λ kvs H'=>∃cK M',aD X.K H' cK kvs/\RelM X.K H' M'/\av H1 H'/\R cK M',key,rfl,du.of hy,by omega,p1,rfl,⟨[],M1,by rw[ao],bR,av.refl _,h0⟩,?_,?_⟩
 ·rintro kvs H2 v ⟨cK,M2,h1,h2,t2,hR⟩ hv
  have zb:=h1.length
  obtain⟨e,e1,e2⟩:=(aD.mono t2 _ hd2).mX hv
  refine⟨[e],M2,_,aD.one e2,h2,hc cK M2 e hR (by rw[<- zb];exact e1),λ w H3 d3 M3 GH Cy t3 q3=>?_⟩
  exact⟨cK++[d3],M3,(aD.mono t3 cK h1).append (aD.one GH),Cy,t2.trans t3,q3⟩
 ·rintro kvs H2 ⟨cK,M2,h1,h2,t2,hR⟩ hl
  have zb:=h1.length
  obtain⟨a1,a2⟩:=hk cK M2 hR (by omega)
  refine⟨λ i w hw=>?_,λ p out hp ho=>?_⟩
  ·obtain⟨d3,e3,GH⟩:=h1.mX hw
   exact(a1 i d3 e3).v GH h2
  ·obtain⟨π,p1,p2,rfl⟩:=ho
   rw[UG]at p1 p2
   refine k _ _ (.ref p) _ (aB.mpr rfl) (cZ hp (jQ (aD.mono t2 _ hd2) π.toList) h2) (t1.trans (t2.trans (av.laid hp))) (a2 p _ (h2.free hp) ⟨π,by rw[B4];exact p1,by rw[B4];exact p2,rfl⟩)
end
theorem Az{sp:eK}{te:bV}{δ:dq}{M:Mem}{Q:bD}(h:te δ M λ d M1=>qt sp d M1 Q):pE sp te δ M Q:=h
end L3
namespace L4
open PySem PySem.Spec L2 L3 L5
section
variable {X:Cx}{e:Expr}{te:bV}{p p2 pos dR fp kp:Pos}{f:Str}{k:Nat}{ps:List Str}{sp:eK}
theorem uK(d:bM X.prog X.w X.K X.mg X.base k f ps sp)(hr:cD (k+2) X.A)(hg:Gl X "sorted")(hm:X.mg "sorted"=none)(O1:Gl X "dict")(OV:X.mg "dict"=none)(CF:Gl X f)(he:WE X e te)(sZ:(f==("__debug__":Str))=false:=by decide)
  (hs:starEach [.Call (.Name "dict" p2) [e] [] dR] X.env=[(false,eval (.Call (.Name "dict" p2) [e] [] dR) X.env)]:=by rfl) (jN:backTo pos (starEach [.Call (.Name "dict" p2) [e] [] dR] X.env)=(false,eval (.Call (.Name "dict" p2) [e] [] dR) X.env)::backTo pos (starEach [] X.env):=by rfl) (gI:(backTo pos (starEach [.Call (.Name "dict" p2) [e] [] dR] X.env)).any (·.1)=false:=by rfl)
  (ht:starEach [e] X.env=[(false,eval e X.env)]:=by rfl) (OQ:starEach [e] X.env=(false,eval e X.env)::starEach [] X.env:=by rfl) (OP:(backTo dR (starEach [] X.env)).any (·.1)=false:=by rfl):
  WE X (.Call (.Name "sorted" p) [.Call (.Name "dict" p2) [e] [] dR] [⟨some "key",.Name f fp,kp⟩] pos) (pE sp te):=⟨vd d hr hg hm O1 OV CF he.h sZ hs jN gI ht OQ OP⟩
end
end L4
namespace L5
open PySem
open AutoSeq1 (wpAny_loadPart')
abbrev Ri(T:String)(h:Heap)(l:Addr):Heap:=h.push {cls:=.type T,data:=.fields #[.ref l,.int 0 0]}
abbrev TR(T:String)(h:Heap)(l:Addr):Heap:=(Ri T h l).push {cls:=.type "enumerate",data:=.fields #[.none,.bool false,.ref h.objs.size,rawInt 0,.none,.none]}
set_option tactic.hygienic true in
theorem vR{T:String}{S:Heap->Addr->Array Value->Prop}(k:NK T S)(l:Addr)(vs:Array Value):
  Meets (Builtin.«enumerate.__new__» ⟨[.type "enumerate",.ref l],[]⟩) (λ _ R s=>S s.heap l vs/\R (.ok (.ret (.ref (Ri T s.heap l).objs.size))) {s with heap:=TR T s.heap l}):=
 .of_wp λ prog w A R s h=>by
  obtain⟨hp,g,d,tk,os⟩:=s
  obtain⟨a1,h⟩:=h
  have se:=sub_enumerate
  have aT:S (Shared.heap ⟨hp,g,d,tk,os⟩) l vs:=a1
  wp_walk using k.start aT
  refine wpAny_stack_any λ st=>G0 ?_
  split
  ·rename_i c _ _ _ _ _
   cases(c==Value.type "enumerate")
   all_goals
    wp_walk using k.start aT
    exact⟨_,rfl,h⟩
  ·wp_walk using k.start aT
   exact⟨_,rfl,h⟩
theorem FY{prog:Program}{w:World}{A:Around}{E:Value->Shared->Prop}{s:Shared}{T:String}{S:Heap->Addr->Array Value->Prop}(kk:NK T S){l:Addr}{vs:Array Value}{Q:Value->Shared->Prop}(a1:S s.heap l vs)
  (k:∀h',IsEnum h' (s.heap.objs.size+1) s.heap.objs.size 0 .none->dG T h' s.heap.objs.size l 0->(∀f o,s.heap.get? f=some o->h'.get? f=some o)->Q (.ref (s.heap.objs.size+1)) {s with heap:=h'}):
  wpAny (model prog w) A (call (.type "enumerate") [.ref l]) Q E s:=by
 refine callType_new F.called_enumerate (by decide) (F.typeCall_enumerate_1 _) (F.newCall_enumerate_1 _) (λ ob=>F.args_object_init_2 ob _) F.entry_enumerate_new (vR kk l vs) ⟨a1,?_⟩
 have e1:(Ri T s.heap l).objs.size=s.heap.objs.size+1:=C0 ..
 have g2:(TR T s.heap l).get? (Ri T s.heap l).objs.size=some _:=o7 _ rfl
 have g1:(TR T s.heap l).get? s.heap.objs.size=some _:=k4 _ (o7 s.heap rfl)
 rw[e1]at g2
 show _/\_
 rw[e1]
 exact⟨⟨_,g2,rfl⟩,k _ g2 ⟨_,g1,rfl,rfl⟩ λ f o x=>k4 _ (k4 _ x)⟩
theorem BA{T:String}{S:Heap->Addr->Array Value->Prop}(k:NK T S){prog:Program}{w:World}{A:Around}(hA:A.handled=none)(j l:Addr)(ne:l≠j)(vs:Array Value):
  Draws prog w A j [j,l] vs.size (λ i v=>vs[i]?=some v) (λ i h=>dG T h j l i/\S h l vs) where
 live:=λ _ _ st=>let⟨⟨o,ho,_⟩,_⟩:=st;⟨o,ho⟩
 frame:=λ _ _ _ st q=>let⟨⟨o,ho,r⟩,su⟩:=st;⟨⟨o,q j (by simp) o ho,r⟩,k.keep su λ o e=>q l (by simp) o e⟩
 item:=λ i s Q E hi st kk=>k.item st.1 st.2 (i0 hi) λ h' a b=>kk _ h' s.toks (i0 hi) ⟨a,k.keep st.2 λ o e=>b.extBut _ _ ne e⟩ b
 done:=λ s Q E st kk=>k.stop hA st.1 st.2 (k3 (E1 _)) kk
end L5
namespace L2
open PySem PySem.Spec PyProof.Rows L5
def Ry(K:PySem.W.Frag)(b:Bool)(l:Addr):It:=
 ⟨λ i H=>∃xs x,Sq b K H l xs/\xs[i]?=some x,
  λ i H v H'=>∃(p:Addr) (x:V),H p=none/\v=.ref p/\H'=upd H p (.tup [.int i,x])/\∀xs,Sq b K H l xs->xs[i]?=some x,
  λ i H=>∃xs,Sq b K H l xs/\xs.length<=i⟩
def Va(b:Bool)(e j l:Addr)(i:Nat)(h:Heap):Prop:=(∃old,IsEnum h e j i old)/\dG (P' b) h j l i
theorem yo{P:Program}{w:World}{K:PySem.W.Frag}{es:List Expr}{k0}{pos:Pos}{e j:Addr}(b:Bool)(B:e≠j)(l:Addr):Turn P w K (.Tuple es k0 pos) (Ry K b l) [e,j] e (Va b e j l) where
 mem:=by simp
 obj:=λ i h st c hc=>by
  obtain⟨⟨old,he⟩,⟨oa,ha,_,da⟩⟩:=st
  rcases C7.mp hc with rfl|hc
  ·exact⟨_,he,λ v z=>by cases z⟩
  rcases C7.mp hc with rfl|hc
  ·exact⟨_,ha,λ v z=>by rw[da]at z;cases z⟩
  ·cases hc
 keep:=λ i h h' st q=>by
  obtain⟨⟨old,he⟩,⟨oa,ha,r⟩⟩:=st
  exact⟨⟨old,q e (by simp) _ he⟩,⟨oa,q j (by simp) _ ha,r⟩⟩
 item:=by
  intro X hP hw hK hc i pins s σ H E I hf st hg
  subst hP hw hK
  obtain⟨xs,x,hl,hx⟩:=hg
  obtain⟨⟨old,he⟩,hj⟩:=st
  obtain⟨Lu,r1,p1⟩:=eg I hl
  obtain⟨u1,e1,q1⟩:=r1.get hx
  have lj:l≠j:=gj I (hf j (by simp)) hl
  have le:l≠e:=gj I (hf e (by simp)) hl
  have hi:i < Lu.toArray.size:=by
   have:=(i5.mp e1).1
   simpa using this
  refine wpAny_pyNext_enum_itemD (BA (iX b) (A:=X.A.in1) (I.ok.hd hc) j l lj Lu.toArray) he ⟨hj,p1⟩ hi B (by simp;exact⟨B,J3 le⟩) λ y g tk g1 g2 g3 g4 g5 g6=>?_
  have ey:y=u1:=by
   rw[getElem?_toArray,e1]at g1
   cases g1
   rfl
  subst ey
  have hn:H s.heap.objs.size=none:=I.bN.fresh (E1 _)
  have I1:Inv X pins σ H {s with heap:=g,toks:=tk+1}:=hV (t':=tk+1) I (ch:=[e,j]) (λ c o hc e=>g6 c o (λ z=>hc (by simp[z])) (λ z=>hc (by simp[z])) e) hf
  refine⟨_,rfl,wpAny_letOwnedTupleGo_enum (s:={s with heap:=g,toks:=tk+1}) g2 λ g' e' sb=>?_⟩
  have I2:Inv X pins σ H {s with heap:=g',toks:=tk+1}:=hV (s:={s with heap:=g,toks:=tk+1}) (t':=tk+1) (ch:=[e]) I1 (λ c o hc q=>sb.extBut _ _ (λ z=>hc (by simp[z])) q) (λ c hc=>hf c (by simp at hc ⊢;exact .inl hc))
  have fo:=I.iu (H':=H) (E1 s.heap.objs.size) hn
  have Uo:e < s.heap.objs.size:=D3 he
  have Vq:j < s.heap.objs.size:=let⟨_,q,_⟩:=hj;D3 q
  have t5:=sb.extBut _ _ (Nat.ne_of_gt Uo) g4
  have I3:Inv X pins σ (upd H s.heap.objs.size (.tup [.int i,x])) {s with heap:=g',toks:=tk+1}:=Inv.oq I2 hn ⟨show 2<=sizeLine by decide,[.int i tk,y],.cons ⟨tk,rfl⟩ (.cons q1 .nil),⟨_,t5,rfl,_,rfl⟩⟩ fo.2.1 (D9 I.sz (E1 _)) fo.2.2.2.2.1 fo.2.2.2.2.2
  refine⟨.ref s.heap.objs.size,_,I3,rfl,⟨s.heap.objs.size,x,hn,rfl,rfl,λ Rz h'=>by rw[uP I h' hl];exact hx⟩,⟨⟨_,by simpa using e'⟩,?_⟩,λ c hc=>?_⟩
  ·obtain⟨o,ho,r⟩:=g3.1
   exact⟨o,sb.extBut _ _ (J3 B) ho,r⟩
  ·have fO:c < s.heap.objs.size:=by
    simp at hc
    rcases hc with rfl|rfl
    ·exact Uo
    ·exact Vq
   rw[aP (D1 fO)]
   exact(hf c hc).1
 done:=by
  intro X hP hw hK hc i pins s σ H E I hf st hg
  subst hP hw hK
  obtain⟨xs,hl,hx⟩:=hg
  obtain⟨⟨old,he⟩,hj⟩:=st
  obtain⟨Lu,r1,p1⟩:=eg I hl
  have l1:=r1.length
  have lj:l≠j:=gj I (hf j (by simp)) hl
  have hT:s.TypeIs (.ref e) "enumerate":=⟨_,he,rfl⟩
  unfold pyNext
  refine E9 (C3 (j5 (name:=Str.ofString "__next__") hT F.slot_enumerate_next (y9 F.slot_enumerate_next hT F.entry_enumerate_next ?_ (F.args_enumerate_next_1 _))))
  refine E9 (m:=field (.ref e) 2) (E4 he rfl (x:=.ref j) rfl ?_)
  refine E9 ((iX b).stop (A:=X.A.in1) (I.ok.hd hc) hj p1 (k3 (by simp;omega)) λ g c g1 g2=>?_)
  obtain⟨o,ho,ze⟩:=g2
  refine E9 (wpAny_isInstance (T:="StopIteration") (b:=true) ⟨o,ho,ze⟩ isSubtype_stop (G0 ⟨rfl,?_⟩))
  exact hV (t':=s.toks) (ch:=[j]) I (λ b o hb q=>g1 b o (λ z=>hb (by simp[z])) q) λ b hb=>hf b (by simp at hb ⊢;exact .inr hb)
 self:=λ _ _ _ _ _ st h=>wpAny_pyIter_enum st.1.choose_spec h
section
variable {X:Cx}{es:List Expr}{k0:_}{mj:Pos}{a:Expr}{ta:TA}{p pos:Pos}
def OJ(K:PySem.W.Frag)(ta:TA):TI:=λ σ H R=>ta σ H λ vs H1=>∃(b:Bool) (l:Addr),vs=[.ref l]/\(∃xs,Sq b K H1 l xs)/\R (Ry K b l) H1
theorem Ft(hg:Gl X "enumerate")(hm:X.mg "enumerate"=none)(ha:PA X [a] ta)(hs:starEach [a] X.env=[(false,eval a X.env)]:=by rfl)(gI:starEach [] X.env=[]:=by rfl):
  PI X (.Tuple es k0 mj) (.Call (.Name "enumerate" p) [a] [] pos) (OJ X.K ta):=by
 intro pins s σ H R I h
 refine Call_ (eZ I hg hm boot_enumerate (c9 (cP (ha pos pins s σ H _ I h) λ us s1 ⟨vs,H1,I1,r1,q1⟩=>?_) (by rw[hs,gI]) (by rw[gI];rfl)))
 obtain⟨b,l,e,⟨xs,hl⟩,q⟩:=q1
 subst e
 obtain⟨u1,rfl,r⟩:=vals1 r1
 cases(show u1=Value.ref l from r)
 obtain⟨Lu,r1,p1⟩:=eg I1 hl
 refine FY (iX b) p1 λ g g1 g2 g7=>wpAny_pyIter_enum (s:={s1 with heap:=g}) g1 ?_
 have I2:Inv X pins σ H1 {s1 with heap:=g}:=I1.kept (t':=s1.toks) g7
 have fr:∀c,s1.heap.objs.size<=c->fS X pins H1 c:=λ c hc=>I1.iu hc (I1.bN.fresh hc)
 have ne:s1.heap.objs.size+1≠s1.heap.objs.size:=by omega
 refine⟨_,[s1.heap.objs.size+1,s1.heap.objs.size],_,_,H1,rfl,I2,yo b ne l,⟨⟨_,g1⟩,g2⟩,λ c hc=>fr c ?_,q⟩
 simp at hc
 rcases hc with rfl|rfl <;> omega
end
end L2
namespace L3
open PySem PySem.Spec L2 L5
def eR(ds:List D):List D:=(List.range ds.length).map λ(i:Nat)=>D.tup [.int (i:Int),ds.getD i D.bj]
theorem dD(ds:List D):(eR ds).length=ds.length:=by simp[eR]
def kindB:D->Bool
 | .tup _=>true
 |_=>false
theorem fJ{K:PySem.W.Frag}{H:Hp}{M:Mem}{d:D}{ds:List D}{x:V}(e:cQ M d=some ds)(h:Dat K H d x)(hm:RelM K H M):∃p xs,x=.ref p/\Sq (kindB d) K H p xs/\aD K H ds xs:=by
 cases d with
 |tup es=>
  cases(show some es=some ds from e)
  obtain⟨p,xs,rfl,h1,h2⟩:=aM.mp h
  exact⟨p,xs,rfl,h1,h2⟩
 |fl es=>
  cases(show some es=some ds from e)
  obtain⟨p,xs,rfl,h1,h2⟩:=iw.mp h
  exact⟨p,xs,rfl,h1.sq,h2⟩
 |ref a=>
  cases(aB.mp h)
  obtain⟨xs,h1,h2⟩:=dC (show aW M a=some ds from e) hm
  exact⟨a,xs,rfl,du.of h1,h2⟩
 |_=>cases e
def tx(x:D)(M:Mem):Option (List D):=(cQ M x).map eR
theorem y_{K:PySem.W.Frag}{H1:Hp}{a:Addr}{x:D}(hx:Dat K H1 x (.ref a)):nY K H1 (Ry K (kindB x) a) (.fn (tx x)):=λ H M fs t hm e=>by
 have e:(cQ M x).map eR=some fs:=e
 cases e1:cQ M x with
 |none=>rw[e1]at e;cases e
 |some ds=>
  rw[e1]at e
  cases e
  obtain⟨p,xs,e3,q1,x1⟩:=fJ e1 (Dat.mono t x hx) hm
  cases e3
  have l1:=x1.length
  rw[dD]
  refine⟨λ i hi=>⟨xs,xs[i]'(by omega),q1,by simp⟩,λ i hi=>⟨xs,q1,by omega⟩,λ i v H' hi y=>?_⟩
  obtain⟨p,v,hp,rfl,rfl,hx⟩:=y
  obtain⟨d,d1,d2⟩:=x1.mX (hx xs q1)
  refine⟨av.laid hp,hm.laid hp,.tup [.int i,d],?_,fI hp (ai.mpr ⟨.int i,[v],rfl,ax.mpr rfl,aD.one d2⟩)⟩
  obtain⟨z1,w1⟩:=i5.mp d1
  simp[eR,z1,w1]
def Cc(ta:iy):lh:=λ δ M R=>ta δ M λ ds M1=>match ds with
 |[.tup xs]=>R (.fix (eR xs)) M1
 |[x]=>(∃zs,cQ M1 x=some zs)/\R (.fn (tx x)) M1
 |_=>False
section
variable {X:Cx}{es:List Expr}{k0:_}{mj:Pos}{a:Expr}{ta:iy}{p pos:Pos}
theorem EY(hg:Gl X "enumerate")(hm:X.mg "enumerate"=none)(ha:QA X [a] ta)(hs:starEach [a] X.env=[(false,eval a X.env)]:=by rfl)(gI:starEach [] X.env=[]:=by rfl):
  QI X (.Tuple es k0 mj) (.Call (.Name "enumerate" p) [a] [] pos) (Cc ta):=wX (Ft hg hm ha hs gI) λ σ H R ⟨δ,M,R2,hs,hm,q,k⟩=>by
 refine⟨δ,M,_,hs,hm,q,λ xs H1 ds M1 hd bR t1 q1=>?_⟩
 have go:∀x,ds=[x]->(∃zs,cQ M1 x=some zs)->(∀J,nY X.K H1 J (.fn (tx x))->R J H1)->∃(b:Bool) (l:Addr),xs=[.ref l]/\(∃xs,Sq b X.K H1 l xs)/\R (Ry X.K b l) H1:=by
  rintro x rfl ⟨zs,hz⟩ hR
  obtain⟨vx,r,rfl,hx,hr⟩:=ai.mp hd
  cases(ao.mp hr)
  obtain⟨p,vs,rfl,q1,_⟩:=fJ hz hx bR
  exact⟨_,p,rfl,⟨vs,q1⟩,hR _ (y_ hx)⟩
 match ds,q1 with
 |[x],q1=>
  by_cases ht:∃xs,x=.tup xs
  ·obtain⟨xs,rfl⟩:=ht
   exact go _ rfl ⟨_,rfl⟩ λ J hJ=>k J H1 (.fix (eR xs)) M1 (λ H M ds t hm e=>hJ H M ds t hm e) bR t1 q1
  ·have q2:(∃zs,cQ M1 x=some zs)/\R2 (.fn (tx x)) M1:=by
    cases x <;> first|exact q1|exact absurd ⟨_,rfl⟩ ht
   exact go x rfl q2.1 λ J hJ=>k J H1 _ M1 hJ bR t1 q2.2
 |[],q1=>exact q1.elim
 |x::y::r,q1=>cases x <;> exact q1.elim
end
end L3
namespace L4
open PySem PySem.Spec L2 L3 L5
section
variable {X:Cx}{es:List Expr}{k0:_}{mj:Pos}{a:Expr}{ta:iy}{p pos:Pos}
theorem iH(hg:Gl X "enumerate")(hm:X.mg "enumerate"=none)(ha:WA X [a] ta)(hs:starEach [a] X.env=[(false,eval a X.env)]:=by rfl)(gI:starEach [] X.env=[]:=by rfl):
  WI X (.Tuple es k0 mj) (.Call (.Name "enumerate" p) [a] [] pos) (Cc ta):=⟨EY hg hm ha.h hs gI⟩
end
end L4
namespace L2
open PySem PySem.Spec PyProof.Rows
section
variable {X:Cx}
theorem FF:fb X (binaryOp .Add) (λ x y H Q=>∃a b ys,x=.ref a/\y=.ref b/\fz X.K H a []/\fz X.K H b ys/\Q (.ref b) H):=by
 intro pins s σ H x y v u Q I rx ry h
 obtain⟨a,b,ys,rfl,rfl,ha,hb,q⟩:=h
 cases rx
 cases ry
 obtain⟨i1,r1,p1,_⟩:=I.tuple ha
 obtain⟨i2,r2,p2,_⟩:=I.tuple hb
 cases r1
 obtain⟨⟨c1,d1,a1,l1⟩,o1,k1,n1,e1⟩:=id p1
 obtain⟨⟨c2,d2,a2,l2⟩,o2,k2,n2,e2⟩:=id p2
 cases(show c1=.type "tuple" from k1)
 cases(show a1=_ from e1)
 cases(show c2=.type "tuple" from k2)
 cases(show a2=_ from e2)
 exact concat_meets ⟨_,o1,rfl⟩ ⟨_,o2,rfl⟩ noFill_tuple_add seq_tuple_add PySem.F.slot_tuple_add PySem.F.entry_tuple_add (PySem.F.args_tuple_add_2 _ _) (tuple_addW0 a b #[] i2.toArray n1 n2 d1 d2 l1 l2 rfl) ⟨o1,o2,⟨.ref b,H,I,rfl,q⟩⟩
end
end L2
namespace L3
open PySem PySem.Spec L2
section
variable {X:Cx}
def tQ:fA:=λ x y M Q=>G_ x y M Q\/∃ys,x=.tup []/\y=.tup ys/\Q (.tup ys) M
theorem aQ:fB X (binaryOp .Add) tQ:=by
 obtain⟨r,h1,h2⟩:=(Oq:fB X (binaryOp .Add) G_)
 refine⟨_,h1.or FF,λ x y d e H M Q2 Q hd he hm q k=>?_⟩
 rcases q with q|⟨ys,rfl,rfl,q⟩
 ·exact .inl (h2 x y d e H M Q2 Q hd he hm q k)
 ·obtain⟨p,vs,rfl,hp,hx⟩:=aM.mp hd
  obtain⟨p2,ws,rfl,gT,hy⟩:=aM.mp he
  cases(ao.mp hx)
  exact .inr ⟨p,p2,ws,rfl,rfl,hp,gT,k _ H _ M (aM.mpr ⟨p2,ws,rfl,gT,hy⟩) hm (av.refl H) q⟩
def xP:D->List D->Mem->bD->Prop:=λ x vs M Q=>∃p q ds es,x=.ref p/\vs=[.ref q]/\M p=some (.lst ds)/\M q=some (.lst es)/\ds.length+es.length<=sizeLine/\Q .bj (ak M p (.lst (ds++es)))
theorem mP:zI X "list.extend" xP:=⟨wQ,yQ,λ x xs d ds H M Q2 Q hx hd hm q k=>by
 obtain⟨p,p2,es,fs,rfl,rfl,hM,TB,hz,q⟩:=q
 cases(aB.mp hx)
 obtain⟨v,r,rfl,hv,hr⟩:=ai.mp hd
 cases(ao.mp hr)
 cases(aB.mp hv)
 obtain⟨zs,h1,h2⟩:=hm p _ hM
 obtain⟨ys,g1,g2⟩:=hm p2 _ TB
 have t:=av.lst (o:=.lst (zs++ys)) h1
 refine⟨p,p2,zs,ys,rfl,rfl,h1,g1,by rw[h2.length,g2.length];exact hz,k _ _ .bj _ (dj.mpr rfl) (hm.put (u:=.lst (es++fs)) t ⟨_,br,?_⟩) t q⟩
 exact(aD.mono t es h2).append (aD.mono t fs g2)⟩
end
section
variable {M:Mem}{Q:bD}
theorem uY{p q:Addr}{ds es:List D}(h:M p=some (.lst ds))(g:M q=some (.lst es))(hz:ds.length+es.length<=sizeLine)(k:Q .bj (ak M p (.lst (ds++es)))):xP (.ref p) [.ref q] M Q:=⟨p,q,ds,es,rfl,rfl,h,g,hz,k⟩
theorem AS{i j:Int}(q:Q (.int (i+j)) M):tQ (.int i) (.int j) M Q:=.inl q
theorem rO{i j:Str}(h:i.length+j.length<=sizeLine)(q:Q (.str (i++j)) M):tQ (.str i) (.str j) M Q:=.inl ⟨h,q⟩
theorem AR{a b:Addr}{xs ys:List D}(ha:M a=some (.lst xs))(hb:M b=some (.lst ys))(h:xs.length+ys.length<=sizeLine)(q:∀p,M p=none->Q (.ref p) (ak M p (.lst (xs++ys)))):tQ (.ref a) (.ref b) M Q:=.inl (EM ha hb h q)
theorem iQ{xs ys:List D}(h:xs.length+ys.length<=sizeLine)(q:Q (.tup (xs++ys)) M):tQ (.tup xs) (.tup ys) M Q:=by
 cases xs with
 |nil=>exact .inr ⟨ys,rfl,rfl,q⟩
 |cons x xs=>exact .inl ⟨by simp,h,q⟩
end
end L3
namespace L3
open PySem L2
section
variable {g:fX}{tt:eJ}{te:bV}{δ δc:dq}{M1:Mem}{Qe:List D->Mem->Prop}
theorem RQ{n:Nat}(h:n<=10000):n<=sizeLine:=D9 h (by decide)
theorem qv{α β:Type}{xs:List α}{enc:α->D}(vS:β->D)(I:List β->Mem->Prop)(hn:xs.length<=10000)(h0:I [] M1)
  (hs:∀(i:Nat) (x:α) (ys:List β) (M:Mem) (N:D->Mem->Prop),xs[i]?=some x->ys.length=i->I ys M->(∀b M',I (ys++[b]) M'->N (vS b) M')->g (enc x) δc M λ δ2 M2=>te δ2 M2 N)
  (hd:∀ys M,ys.length=xs.length->I ys M->Qe (ys.map vS) M):
  ∃(B:Nat) (W:Nat->List D->Mem->Prop),W 0 [] M1/\∀i acc M,W i acc M->i<=B/\acc.length<=sizeLine/\match items (.fix (xs.map enc)) M with
   |none=>False
   |some ds=>match ds[i]? with
    |none=>i=ds.length/\Qe acc M
    |some d=>g d δc M λ δ2 M2=>pC δ2 M2 λ b M3=>if b=true then te δ2 M3 λ y M4=>W (i+1) (acc++[y]) M4 else W (i+1) acc M3:=by
 refine eI (λ i acc M=>∃ys:List β,acc=ys.map vS/\ys.length=i/\I ys M) ⟨[],rfl,rfl,h0⟩ (λ i acc M hi h=>?_) (λ i d acc M hd h=>?_) (λ acc M h=>?_)
 ·obtain⟨ys,rfl,h1,_⟩:=h
  rw[B4]at hi ⊢
  exact RQ (by omega)
 ·obtain⟨ys,rfl,h1,h2⟩:=h
  rw[r9]at hd
  cases e:xs[i]? with
  |none=>rw[e]at hd;cases hd
  |some x=>
   rw[e]at hd
   cases hd
   refine hs i x ys M _ e h1 h2 λ b M' hb=>⟨ys++[b],by rw[B6];rfl,by simp[h1],hb⟩
 ·obtain⟨ys,rfl,h1,h2⟩:=h
  rw[B4]at h1
  exact hd ys M h1 h2
theorem De{α β:Type}{a:Addr}{xs:List α}(enc:α->D)(vS:β->D)(I:List β->Mem->Prop)(hn:xs.length<=10000)(h0:I [] M1)(hl:∀ys M,I ys M->M a=some (.lst (xs.map enc)))
  (hs:∀(i:Nat) (x:α) (ys:List β) (M:Mem) (N:D->Mem->Prop),xs[i]?=some x->ys.length=i->I ys M->(∀b M',I (ys++[b]) M'->N (vS b) M')->g (enc x) δc M λ δ2 M2=>te δ2 M2 N)
  (hd:∀ys M,ys.length=xs.length->I ys M->Qe (ys.map vS) M):
  ∃(B:Nat) (W:Nat->List D->Mem->Prop),W 0 [] M1/\∀i acc M,W i acc M->i<=B/\acc.length<=sizeLine/\match items (.at a) M with
   |none=>False
   |some ds=>match ds[i]? with
    |none=>i=ds.length/\Qe acc M
    |some d=>g d δc M λ δ2 M2=>pC δ2 M2 λ b M3=>if b=true then te δ2 M3 λ y M4=>W (i+1) (acc++[y]) M4 else W (i+1) acc M3:=by
 refine tZ (ds:=xs.map enc) (λ i acc M=>∃ys:List β,acc=ys.map vS/\ys.length=i/\I ys M) ⟨[],rfl,rfl,h0⟩ (λ i acc M hi h=>?_) (λ i acc M hi h=>?_) (λ i d acc M hd h=>?_) (λ acc M h=>?_)
 ·obtain⟨ys,rfl,h1,h2⟩:=h
  exact hl ys M h2
 ·obtain⟨ys,rfl,h1,_⟩:=h
  rw[B4]at hi ⊢
  exact RQ (by omega)
 ·obtain⟨ys,rfl,h1,h2⟩:=h
  rw[r9]at hd
  cases e:xs[i]? with
  |none=>rw[e]at hd;cases hd
  |some x=>
   rw[e]at hd
   cases hd
   refine hs i x ys M _ e h1 h2 λ b M' hb=>⟨ys++[b],by rw[B6];rfl,by simp[h1],hb⟩
 ·obtain⟨ys,rfl,h1,h2⟩:=h
  rw[B4]at h1
  exact hd ys M h1 h2
theorem take_one{α:Type}{l:List α}{i:Nat}{a:α}(h:l[i]?=some a):l.take (i+1)=l.take i++[a]:=by
 rw[take_add_one,h]
 rfl
theorem eT{α:Type}{xs:List α}{enc:α->D}(out:α->D)(hn:xs.length<=10000)
  (hs:∀(i:Nat) (x:α) (N:D->Mem->Prop),xs[i]?=some x->N (out x) M1->g (enc x) δc M1 λ δ2 M2=>te δ2 M2 N)
  (hd:Qe (xs.map out) M1):
  ∃(B:Nat) (W:Nat->List D->Mem->Prop),W 0 [] M1/\∀i acc M,W i acc M->i<=B/\acc.length<=sizeLine/\match items (.fix (xs.map enc)) M with
   |none=>False
   |some ds=>match ds[i]? with
    |none=>i=ds.length/\Qe acc M
    |some d=>g d δc M λ δ2 M2=>pC δ2 M2 λ b M3=>if b=true then te δ2 M3 λ y M4=>W (i+1) (acc++[y]) M4 else W (i+1) acc M3:=by
 refine qv (β:=α) out (λ ys M=>M=M1/\ys=xs.take ys.length) hn ⟨rfl,rfl⟩ (λ i x ys M N hx hy h k=>?_) (λ ys M hy h=>?_)
 ·obtain⟨rfl,h⟩:=h
  refine hs i x N hx (k x M ⟨rfl,?_⟩)
  rw[p5,k9,take_one (a:=x) (by rw[hy];exact hx),<- h]
 ·obtain⟨rfl,h⟩:=h
  rw[hy,y8]at h
  rw[h]
  exact hd
abbrev Sm(p:Int×Int):D:=.tup [.int p.1,.int p.2]
theorem zip_map(as bs:List Int):hX (as.map D.int) (bs.map D.int)=(as.zip bs).map Sm:=by
 unfold hX Sm
 rw[List.zip_map,D8]
 rfl
theorem Md{as bs:List Int}(out:Int×Int->D)(hn:as.length<=10000)
  (hs:∀(i:Nat) (x:Int×Int) (N:D->Mem->Prop),(as.zip bs)[i]?=some x->N (out x) M1->g (Sm x) δc M1 λ δ2 M2=>te δ2 M2 N)
  (hd:Qe ((as.zip bs).map out) M1):
  ∃(B:Nat) (W:Nat->List D->Mem->Prop),W 0 [] M1/\∀i acc M,W i acc M->i<=B/\acc.length<=sizeLine/\match items (.fix (hX (as.map D.int) (bs.map D.int))) M with
   |none=>False
   |some ds=>match ds[i]? with
    |none=>i=ds.length/\Qe acc M
    |some d=>g d δc M λ δ2 M2=>pC δ2 M2 λ b M3=>if b=true then te δ2 M3 λ y M4=>W (i+1) (acc++[y]) M4 else W (i+1) acc M3:=by
 rw[zip_map]
 exact eT out (by rw[length_zip];omega) hs hd
theorem gX{α:Type}{a:Addr}{xs:List α}(enc out:α->D)(hn:xs.length<=10000)(hl:M1 a=some (.lst (xs.map enc)))
  (hs:∀(i:Nat) (x:α) (N:D->Mem->Prop),xs[i]?=some x->N (out x) M1->g (enc x) δc M1 λ δ2 M2=>te δ2 M2 N)
  (hd:Qe (xs.map out) M1):
  ∃(B:Nat) (W:Nat->List D->Mem->Prop),W 0 [] M1/\∀i acc M,W i acc M->i<=B/\acc.length<=sizeLine/\match items (.at a) M with
   |none=>False
   |some ds=>match ds[i]? with
    |none=>i=ds.length/\Qe acc M
    |some d=>g d δc M λ δ2 M2=>pC δ2 M2 λ b M3=>if b=true then te δ2 M3 λ y M4=>W (i+1) (acc++[y]) M4 else W (i+1) acc M3:=by
 refine De (β:=α) enc out (λ ys M=>M=M1/\ys=xs.take ys.length) hn ⟨rfl,rfl⟩ (λ ys M h=>by rw[h.1];exact hl) (λ i x ys M N hx hy h k=>?_) (λ ys M hy h=>?_)
 ·obtain⟨rfl,h⟩:=h
  refine hs i x N hx (k x M ⟨rfl,?_⟩)
  rw[p5,k9,take_one (a:=x) (by rw[hy];exact hx),<- h]
 ·obtain⟨rfl,h⟩:=h
  rw[hy,y8]at h
  rw[h]
  exact hd
end
abbrev HB(i:Nat):D:=.int ((0:Int)+(i:Nat))
theorem Aw(i:Nat):HB i=.int (i:Int):=by show D.int (0+(i:Int))=_;rw[C9]
theorem CM{α:Type}(xs:List α)(enc:α->D):eR (xs.map enc)=xs.zipIdx.map λ p=>D.tup [.int (p.2:Int),enc p.1]:=by
 refine ext_getElem? λ i=>?_
 unfold eR
 rw[r9,r9,getElem?_zipIdx,B4]
 by_cases h:i < xs.length
 ·rw[n0 h,i8 h]
  simp[h]
 ·rw[l8 (by simpa using h),l8 (by simpa using h)]
  rfl
def Mm(R:Src->Mem->Prop)(d:D)(M1:Mem):Prop:=match d with
 | .str z=>R (.fix (jD z)) M1
 | .tup ds=>R (.fix ds) M1
 | .fl ds=>R (.fix ds) M1
 | .ref a=>(match M1 a with
  |some (.lst _)=>R (.at a) M1
  |_=>False)
 |_=>False
theorem EI{ta:bV}{δ:dq}{M:Mem}{R:Src->Mem->Prop}(h:ta δ M (Mm R)):Ln ta δ M R:=h
theorem EJ{ds:List D}{M:Mem}{R:Src->Mem->Prop}(h:R (.fix ds) M):Mm R (.tup ds) M:=h
theorem EK{a:Addr}{ds:List D}{M:Mem}{R:Src->Mem->Prop}(hM:M a=some (.lst ds))(h:R (.at a) M):Mm R (.ref a) M:=by
 show(match M a with|some (.lst _)=>R (.at a) M|_=>False)
 rw[hM]
 exact h
end L3
namespace KK
open PySem L3 L4 L5
open L2 hiding bo pB
def Ie(c:Addr)(p b sd ct:Int):List D:=[.ref c,.int p,.int b,.int sd,.int ct]
structure Flow(M:Mem)(f c:Addr):Prop where
 ex:∃(ns:List Int) (p b sd ct:Int),M f=some (.lst (Ie c p b sd ct))/\M c=some (.lst (ns.map D.int))/\c≠f/\0<=p/\0<=b/\0<=sd/\sd < 2147483647
def eY:eK:=λ ds M Q=>∃(f c:Addr) (n:Int),ds=[.ref f,.int n]/\Flow M f c/\0 < n/\n < 1073741824/\∀(d:Int) (o:MO),0<=d->d < n->Flow (ak M f o) f c->Q (.int d) (ak M f o)
structure Fl(f c:Addr)(M M':Mem):Prop where
 aI:Flow M' f c
 mv:∀b o,b≠f->M b=some o->M' b=some o
theorem Fl.trans {f c:Addr}{M M1 M2:Mem}(a:Fl f c M M1)(b:Fl f c M1 M2):Fl f c M M2:=⟨b.aI,λ c o h e=>b.mv c o h (a.mv c o h e)⟩
theorem Fl.pick {f c:Addr}{M:Mem}{o:MO}(h:Flow (ak M f o) f c):Fl f c M (ak M f o):=⟨h,λ b o' hb e=>by rw[ah hb];exact e⟩
theorem Flow.there {M:Mem}{f c:Addr}(h:Flow M f c):∃o,M f=some o:=by obtain⟨ns,p,b,sd,ct,h,_⟩:=h;exact⟨_,h⟩
theorem Flow.II {M:Mem}{f c:Addr}(h:Flow M f c):∃o,M c=some o:=by obtain⟨ns,p,b,sd,ct,_,h,_⟩:=h;exact⟨_,h⟩
theorem Flow.put {M:Mem}{f c q:Addr}{o:MO}(h:Flow M f c)(n:M q=none):Flow (ak M q o) f c:=by
 obtain⟨ns,p,b,sd,ct,h1,h2,h3⟩:=h
 exact⟨ns,p,b,sd,ct,by rw[ah (λ z=>by rw[z,n]at h1;cases h1)];exact h1,by rw[ah (λ z=>by rw[z,n]at h2;cases h2)];exact h2,h3⟩
theorem Fl.put {M:Mem}{f c q:Addr}{o:MO}(h:Flow M f c)(n:M q=none):Fl f c M (ak M q o):=⟨h.put n,λ b o' hb e=>by rw[ah (λ z=>by rw[z,n]at e;cases e)];exact e⟩
theorem Flow.ne {M:Mem}{f c q:Addr}(h:Flow M f c)(n:M q=none):q≠f/\q≠c:=by
 constructor
 ·intro z
  subst z
  obtain⟨o,e⟩:=h.there
  rw[n]at e
  cases e
 ·intro z
  subst z
  obtain⟨o,e⟩:=h.II
  rw[n]at e
  cases e
theorem Fl.own {M M':Mem}{f c q:Addr}{o:MO}(h:Fl f c M M')(h0:Flow M f c)(n:M q=none):Fl f c M (ak M' q o):=by
 obtain⟨n1,n2⟩:=h0.ne n
 obtain⟨ns,p,b,sd,ct,h1,h2,h3⟩:=h.aI
 refine⟨⟨ns,p,b,sd,ct,by rw[ah (J3 n1)];exact h1,by rw[ah (J3 n2)];exact h2,h3⟩,λ b o' hb e=>?_⟩
 rw[ah (λ z=>by rw[z,n]at e;cases e)]
 exact h.mv b o' hb e
def Hy(B:Nat):eK:=λ ds M Q=>∃f c,ds=[.ref f]/\Flow M f c/\∀(z:Str) (M':Mem),z.length<=B->Fl f c M M'->Q (.str z) M'
theorem small{n:Nat}(h:n<=10000):n<=sizeLine:=D9 h (by decide)
theorem len_app(x y:Str):(x++y).length=x.length+y.length:=by
 show(x.cps++y.cps).size=x.cps.size+y.cps.size
 simp
theorem uj{zs:List Str}{d:Int}(h0:0<=d)(h1:d < zs.length):∃z,z∈zs/\gY (zs.map D.str) d=some (.str z):=by
 have hl:d.toNat < zs.length:=by omega
 have e:((d.toNat:Nat):Int)=d:=by omega
 have q:gY (zs.map D.str) ((d.toNat:Nat):Int)=some (.str zs[d.toNat]):=cz (by simp[hl])
 rw[e]at q
 exact⟨_,A1 hl,q⟩
def Ag:eK:=λ ds M Q=>∃ns:List Int,ds=[.fl (ns.map D.int)]/\∀f c M',Flow M' f c->Q (.ref f) M'
theorem cu{lo:Int}{n i:Nat}{d:D}(h:(gA lo n)[i]?=some d):i < n/\d=.int (lo+(i:Nat)):=by
 have hi:i < n:=by have:=(i5.mp h).1;rwa [aV]at this
 rw[mI hi]at h
 exact⟨hi,(A9 h).symm⟩
theorem B':∀zs:List Str,(Txt.join (Str.ofString "") zs).length=(zs.map (·.length)).sum:=by
 intro zs
 show(Builtin.Str.glued (Str.ofString "") zs).length=_
 rw[StrLaws.glued_eq_join,show Str.ofString ""=⟨#[]⟩ by decide+kernel]
 induction zs with
 |nil=>rfl
 |cons z zs ih=>rw[PyProof.Rows.join_nil_cons,len_app,ih,C6,sum_cons]
def uq(acc:List D)(i:Nat):Prop:=∃zs:List Str,acc=zs.map D.str/\(zs.map (·.length)).sum<=i/\zs.length=i
theorem uq.nil:uq [] 0:=⟨[],rfl,E1 _,rfl⟩
theorem uq.snoc {acc:List D}{i:Nat}(h:uq acc i){z:Str}(hz:z.length<=1):uq (acc++[.str z]) (i+1):=by
 obtain⟨zs,rfl,h1,h2⟩:=h
 refine⟨zs++[z],by simp,?_,by simp[h2]⟩
 rw[B6,sum_append]
 simp only[C6,map_nil,sum_cons,sum_nil]
 omega
theorem Gi{acc:List D}{n:Nat}(h:uq acc n)(hn:n<=1000){M:Mem}{Q:bD}(q:∀z:Str,z.length<=n->Q (.str z) M):nq (.str (Str.ofString "")) acc M Q:=by
 obtain⟨zs,rfl,h1,h2⟩:=h
 show(match fh (zs.map D.str)with|some ys=>(ys.map (·.length)).sum+ys.length*(Str.ofString "").length<=16777216/\Q (.str (Txt.join (Str.ofString "") ys)) M|none=>False)
 rw[ow]
 refine⟨?_,q _ ?_⟩
 ·have e:(Str.ofString "").length=0:=by decide+kernel
  rw[e]
  omega
 ·rw[B'];exact h1
def plus(as bs:List Int):List Int:=List.zipWith (·+·) as bs
def Hz:eK:=λ ds M Q=>∃as bs:List Int,ds=[row as,row bs]/\as.length=bs.length/\as.length<=1000/\Q (row (plus as bs)) M
theorem Iy{as bs:List Int}{i:Nat}{d:D}(h:(hX (as.map D.int) (bs.map D.int))[i]?=some d):∃a b,as[i]?=some a/\bs[i]?=some b/\d=.tup [.int a,.int b]:=by
 unfold hX at h
 rw[r9]at h
 cases e:((as.map D.int).zip (bs.map D.int))[i]? with
 |none=>rw[e]at h;cases h
 |some p=>
  rw[e]at h
  obtain⟨e1,e2⟩:=getElem?_zip_eq_some.mp e
  rw[r9]at e1 e2
  cases e3:as[i]? with
  |none=>rw[e3]at e1;cases e1
  |some a=>
   cases e4:bs[i]? with
   |none=>rw[e4]at e2;cases e2
   |some b=>
    rw[e3]at e1
    rw[e4]at e2
    have e1:D.int a=p.1:=A9 e1
    have e2:D.int b=p.2:=A9 e2
    refine⟨a,b,rfl,rfl,?_⟩
    rw[e1,e2]
    exact(A9 h).symm
theorem Fp{as bs:List Int}{i:Nat}{x y:Int}(h:as[i]?=some x)(q:bs[i]?=some y):(plus as bs)[i]?=some (x+y):=by
 unfold plus
 rw[getElem?_zipWith,h,q]
theorem take_snoc{α:Type}{l:List α}{i:Nat}{a:α}(h:l[i]?=some a):l.take (i+1)=l.take i++[a]:=by
 rw[take_add_one,h]
 rfl
theorem DF(as bs:List Int):(hX (as.map D.int) (bs.map D.int)).length=(plus as bs).length:=by rw[qU];simp[plus]
def less(as:List Int)(i:Nat):List Int:=as.take i++[as.getD i 0 - 1]++as.drop (i+1)
theorem gE{as:List Int}{i:Nat}(h:i < as.length):(less as i).length=as.length:=by
 unfold less
 simp only[p5,A0,k9,y6]
 omega
def Ad:eK:=λ ds M Q=>∃(as:List Int) (i:Nat),ds=[row as,.int i]/\i < as.length/\as.length<=1000/\Q (row (less as i)) M
def vG(as:List Int):L2.Ky:=(as.sum,as.map λ a=>0 - a)
def oy:eK:=λ ds M Q=>∃as:List Int,ds=[row as]/\as.length<=1000/\Q (.tup [.int as.sum,row (as.map λ a=>0 - a)]) M
def pj:eK:=λ ds M Q=>∃(x:D) (rs:List (List Int)),ds=[x]/\(x=.tup (rs.map row)\/∃l,x=.ref l/\M l=some (.lst (rs.map row)))/\rs.length < 64/\(∀r∈rs,r.length<=1000)/\∀out:List (List Int),(∀r∈out,r∈rs)->out.length<=rs.length->Q (.tup (out.map row)) M
theorem cN{ns:List Int}{i:Nat}(h:i < ns.length):gY (ns.map D.int) (i:Int)=some (.int (ns.getD i 0)):=by
 refine cz ?_
 simp[e9,h]
theorem jF{p:Addr}{ds:List D}{M:Mem}{Q:bD}(h:M p=some (.lst ds))(q:Q (.tup ds) M):qr [.ref p] M Q:=by
 show(match aW M p with|some ds=>Q (.tup ds) M|none=>False)
 unfold aW
 rw[h]
 exact q
theorem Ku{rs:List (List Int)}{lt:Nat->Nat->Bool}{outD:List D}(h:Out lt (rs.map row) D.bj outD):∃out:List (List Int),outD=out.map row/\(∀r∈out,r∈rs)/\out.length=rs.length:=by
 obtain⟨p,p1,p2,rfl⟩:=h
 rw[B4]at p1 p2
 have vM:∀i∈p.toList,i < rs.length:=λ i hi=>by
  have:=(Array.Perm.mem_iff p1 (a:=i)).mp (by simpa using hi)
  simpa using this
 refine⟨p.toList.map λ i=>rs.getD i [],?_,λ r hr=>?_,?_⟩
 ·rw[D8]
  refine map_congr_left λ i hi=>?_
  have:=vM i hi
  simp[e9,this]
 ·obtain⟨i,hi,rfl⟩:=D4.mp hr
  have:=vM i hi
  rw[e9,i8 this]
  exact A1 this
 ·rw[B4,n9,p1.size]
theorem back{M M1:Mem}{v:D}{Q:bD}(h:∀b o,M b=some o->M1 b=some o)(q:Q v M):fin2 Q v M1:=⟨M,λ a o e=>h a o e,q⟩
theorem kU{M M':Mem}(h:∀b o,M b=some o->M' b=some o){q:Addr}(n:M' q=none)(x:MO):∀b o,M b=some o->ak M' q x b=some o:=λ b o e=>by
 rw[ah (λ z=>by rw[<- z,h b o e]at n;cases n)]
 exact h b o e
theorem Ls{n:Nat}{d:Int}(h0:0<=d)(h1:d < n):vH n d=some d.toNat:=by
 unfold vH
 rw[J4 h0,J4 h1]
abbrev bB:=Str×List (List Int)
def ir:bB:=(Str.ofString "",[])
def gJ(h:bB):D:=.tup [.str h.1,.tup (h.2.map row)]
def cb(g:List bB):D:=.tup (g.map gJ)
structure hG(n i:Nat)(r:List Int):Prop where
 len:r.length=n
 pos:∀x∈r,0<=x
 sum:r.sum<=4
 low:∀j,i<=j->r.getD j 0=0
structure fR(n:Nat)(g:List bB):Prop where
 len:g.length=n
 oR:n<=12
 opts:∀i,i < n->(g.getD i ir).2.length<=63/\∀r∈(g.getD i ir).2,hG n i r
def jo(ns:List Int)(n:Nat):List Int:=(List.range n).map λ(h:Nat)=>((ns.count (h:Int):Nat):Int)
theorem tY(ns:List Int)(n:Nat):(jo ns n).length=n:=by simp[jo]
theorem tX{ns:List Int}{n:Nat}:∀x∈jo ns n,0<=x:=λ x hx=>by
 obtain⟨h,_,rfl⟩:=D4.mp hx
 omega
theorem tW(ns:List Int):∀n:Nat,(jo ns n).sum=(ns.countP λ x=>decide (0<=x/\x < (n:Int)):Nat)
 |0=>by
  have:ns.countP (λ x=>decide (0<=x/\x < ((0:Nat):Int)))=0:=countP_eq_zero.mpr λ x _=>by simp
  rw[this]
  rfl
 |n+1=>by
  have ih:=tW ns n
  unfold jo at ih ⊢
  rw[range_succ,B6,sum_append,ih]
  simp only[C6,map_nil,sum_cons,sum_nil]
  have:ns.countP (λ x=>decide (0<=x/\x < ((n+1:Nat):Int)))=ns.countP (λ x=>decide (0<=x/\x < (n:Int)))+ns.count (n:Int):=by
   clear ih
   induction ns with
   |nil=>rfl
   |cons y ys ih=>
    rw[countP_cons,countP_cons,count_cons,ih]
    generalize List.countP _ ys=A
    generalize List.count _ ys=B
    by_cases h1:0<=y/\y < (n:Int)
    ·have h2:0<=y/\y < ((n+1:Nat):Int):=by omega
     have h3:¬(y=(n:Int)):=by omega
     rw[J4 (B8 h2),J4 (B8 h1),J5 (by simpa using h3)]
     omega
    ·by_cases h3:y=(n:Int)
     ·rw[J4 (B8 (by omega)),J5 (by simpa using h1),J4 (by simpa using h3)]
      omega
     ·rw[J5 (by simp only[s9];omega),J5 (by simpa using h1),J5 (by simpa using h3)]
      omega
  rw[this]
  omega
theorem Dc{ns:List Int}{n:Nat}:(jo ns n).sum<=ns.length:=by
 rw[tW]
 have:=countP_le_length (p:=λ x=>decide (0<=x/\x < (n:Int))) (l:=ns)
 omega
theorem C'{ns:List Int}{n i:Nat}(h:∀x∈ns,x < (i:Int))(j:Nat)(hj:i<=j):(jo ns n).getD j 0=0:=by
 unfold jo
 rw[e9,r9]
 by_cases hn:j < n
 ·rw[n0 hn]
  have:ns.count (j:Int)=0:=count_eq_zero.mpr λ z=>by have:=h _ z;omega
  simp[this]
 ·rw[l8 (by simpa using hn)]
  rfl
def iL:eK:=λ ds M Q=>∃(a:Addr) (ns:List Int) (n:Nat),ds=[.ref a,.int n]/\M a=some (.lst (ns.map D.int))/\n<=1000/\Q (row (jo ns n)) M
def z_:eK:=λ ds M Q=>∃(f c:Addr) (n:Nat) (m:Int),ds=[.ref f,.int n,.int m]/\Flow M f c/\n<=1000/\0<=m/\m<=1000/\∀(ns:List Int) (M':Mem),(ns.length:Int)<=m->(∀x∈ns,0<=x/\x < (n:Int))->Fl f c M M'->Q (row (jo ns n)) M'
theorem mZ:∀zs:List Str,kr (zs.map D.str)=some (zs.map V.str)
 |[]=>rfl
 |z::zs=>by
  rw[C6]
  show(match ng (D.str z),kr (zs.map D.str)with|some v,some vs=>some (v::vs)|_,_=>none)=_
  rw[mZ zs]
  rfl
theorem sS(z:Str):∀zs:List Str,HP (.str z) (zs.map V.str)=zs.contains z
 |[]=>rfl
 |y::ys=>by
  have ih:=sS z ys
  unfold HP at ih ⊢
  rw[C6,any_cons,ih,contains_cons]
  congr 1
  show(y==z)=(z==y)
  rw[A2,beq_iff_eq,beq_iff_eq]
  exact eq_comm
theorem Ck(z:Str)(zs:List Str):inD (.str z) (zs.map D.str)=some (zs.contains z):=by
 unfold inD
 rw[mZ]
 show some (HP (.str z) (zs.map V.str))=_
 rw[sS]
theorem vt(c:Nat):MulOk ⟨#[c]⟩ 1:=⟨by decide,λ _ h=>(by have z:true=false:=h;cases z),λ _ h=>(by have z:true=false:=h;cases z)⟩
def uh:List Nat:=(Str.ofString "zyxwvutsrqponmlkjihgfedcba").cps.toList
def qw(j:Nat):Str:=Txt.mul ⟨#[uh.getD j 0]⟩ 1
theorem wa:((List.range 26).map qw).Nodup:=by decide+kernel
theorem sf:∀{l zs:List Str},l.Nodup->(∀x∈l,x∈zs)->l.length<=zs.length
 |[],zs,_,_=>E3 _
 |a::l,zs,hn,hs=>by
  rw[nodup_cons]at hn
  have ha:a∈zs:=hs a (o8 ..)
  have h1:=sf (l:=l) (zs:=zs.erase a) hn.2 λ x hx=>(mem_erase_of_ne (λ z=>hn.1 (by rw[<- z];exact hx))).mpr (hs x (m3 _ hx))
  rw[length_erase_of_mem ha]at h1
  have:=length_pos_of_mem ha
  rw[x9]
  omega
theorem Df{zs:List Str}{sp:Nat}(Ws:sp<=26)(h:∀j,j < sp->qw j∈zs):sp<=zs.length:=by
 have e:((List.range sp).map qw).Nodup:=by
  refine List.Sublist.nodup (List.Sublist.map qw ?_) wa
  have:List.range sp=(List.range 26).take sp:=by rw[take_range,Nat.min_eq_left Ws]
  rw[this]
  exact take_sublist _ _
 have:=sf e (zs:=zs) λ x hx=>by
  obtain⟨j,hj,rfl⟩:=D4.mp hx
  exact h j (by simpa using hj)
 simpa using this
def lx:eK:=λ ds M Q=>∃(f c:Addr) (n:Nat),ds=[.ref f,.int n]/\Flow M f c/\n<=12/\∀(p:Addr) (zs:List Str) (M':Mem),zs.length=n->M p=none->M' p=some (.lst (zs.map D.str))->Fl f c M M'->Q (.ref p) M'
theorem bx{T:String}{d:D}{M:Mem}{Q:bD}{n:String}{b:Bool}(e:mi M d=some n)(hb:p_ n T=b)(q:Q (.bl b) M):Ip T [d,.ty T] M Q:=⟨rfl,by rw[e];subst hb;exact q⟩
theorem gQ{d:D}{M:Mem}{Q:bD}(h:mi M d≠some "NoneType")(q:Q (.bl false) M):L7 false d .bj M Q:=by
 cases d with
 |bj=>exact absurd rfl h
 |_=>exact q
theorem lU{ds:List D}{i:Nat}(h:i < ds.length):gY ds (0+(i:Int))=some ds[i]:=by
 rw[C9]
 refine cz ?_
 simp[h]
theorem qH:∀n:Nat,((List.replicate n true).all id)=true
 |0=>rfl
 |n+1=>by rw[n6,all_cons,qH n];rfl
def SA(as:List Int)(h:Nat)(o:List Int)(k:Nat):D:=.tup [.int (h:Int),.int (k:Int),row (plus (less as h) o)]
def mM(as:List Int)(h:Nat)(os:List (List Int))(i:Nat):List D:=(List.range i).map λ k=>SA as h (os.getD k []) k
def opt(as:List Int)(h:Nat)(l:List D):List D:=if 0 < as.getD h 0 then l else[]
def kT(g:List bB)(as:List Int):Nat->List D
 |0=>[]
 |i+1=>kT g as i++opt as i (mM as i (g.getD i ir).2 (g.getD i ir).2.length)
theorem iY(as:List Int)(h:Nat)(os:List (List Int))(i:Nat):(mM as h os i).length=i:=by simp[mM]
theorem sk(as:List Int)(h:Nat)(os:List (List Int))(i:Nat):mM as h os (i+1)=mM as h os i++[SA as h (os.getD i []) i]:=by
 unfold mM
 rw[range_succ,B6]
 rfl
theorem fR.at {n:Nat}{g:List bB}(G:fR n g){i:Nat}(hi:i < n):(g.getD i ir).2.length<=63/\∀r∈(g.getD i ir).2,r.length=n:=⟨(G.opts i hi).1,λ r hr=>((G.opts i hi).2 r hr).len⟩
theorem lM{n:Nat}{g:List bB}(G:fR n g)(as:List Int):∀i,i<=n->(kT g as i).length<=i*63
 |0,_=>by simp[kT]
 |i+1,h=>by
  have h1:=lM G as i (by omega)
  have h2:=(G.at (i:=i) (by omega)).1
  show(kT g as i++opt as i _).length<=_
  rw[p5]
  have h3:(opt as i (mM as i (g.getD i ir).2 (g.getD i ir).2.length)).length<=63:=by
   unfold opt
   split
   ·rw[iY];exact h2
   ·simp
  omega
theorem lS{ds:List D}{i:Nat}{d:D}(h:(eR ds)[i]?=some d):i < ds.length/\d=.tup [.int (i:Int),ds.getD i D.bj]:=by
 have hi:i < ds.length:=by have:=(i5.mp h).1;rwa [dD]at this
 refine⟨hi,?_⟩
 unfold eR at h
 rw[r9,n0 hi]at h
 exact(A9 h).symm
theorem oO{g:List bB}{i:Nat}(h:i < g.length):(g.map gJ).getD i D.bj=gJ (g.getD i ir):=by
 simp[e9,h]
theorem tf{os:List (List Int)}{i:Nat}(h:i < os.length):(os.map row).getD i D.bj=row (os.getD i []):=by
 simp[e9,h]
theorem getD_mem{os:List (List Int)}{i:Nat}(h:i < os.length):os.getD i []∈os:=by
 rw[e9,i8 h]
 exact A1 _
def Ext(M M':Mem):Prop:=∀b o,M b=some o->M' b=some o
theorem Ext.own {M M':Mem}(h:Ext M M'){q:Addr}{x:MO}(n:M q=none):Ext M (ak M' q x):=λ b o e=>by
 rw[ah (λ z=>by rw[z,n]at e;cases e)]
 exact h b o e
def ly:eK:=λ ds M Q=>∃(n:Nat) (g:List bB) (as:List Int),ds=[cb g,row as]/\fR n g/\as.length=n/\∀(p:Addr) (M':Mem),M p=none->M' p=some (.lst (kT g as n))->Ext M M'->Q (.ref p) M'
theorem Bg(as bs:List Int):(as.zip bs).map (λ p=>D.int (p.1+p.2))=(plus as bs).map D.int:=by
 unfold plus
 rw[List.zip,map_zipWith,map_zipWith]
theorem BR{as:List Int}{h:Nat}(hh:h < as.length):less as h=as.set h (as.getD h 0 - 1):=by
 unfold less
 rw[set_eq_take_append_cons_drop,J4 hh]
 simp
theorem yG{as o:List Int}{h:Nat}(hh:h < as.length)(hl:o.length=as.length):(plus as o).set h ((plus as o).getD h 0 - 1)=plus (less as h) o:=by
 refine ext_getElem? λ i=>?_
 rw[BR hh]
 unfold plus
 rw[getElem?_set,length_zipWith]
 have ho:h < o.length:=by omega
 by_cases e:h=i
 ·subst e
  rw[J4 rfl,J4 (by omega),getElem?_zipWith,getElem?_set,J4 rfl,J4 hh,i8 ho]
  simp[e9,getElem?_zipWith,hh,ho]
  omega
 ·rw[J5 e,getElem?_zipWith,getElem?_zipWith,getElem?_set,J5 e]
theorem Ex{g:List bB}{M:Mem}{Q:bD}(q:Q (.int (g.length:Nat)) M):zo [cb g] M Q:=by
 show Q (.int ((g.map gJ).length:Nat)) M
 rw[B4]
 exact q
end KK
namespace HT
open PySem PySem.Spec PyProof.Rows
section
variable {prog:Program}{w:World}{A:Around}{E:Value->Shared->Prop}{s:Shared}
theorem g_{t sl:Addr}{items:Array Value}{vl vu:Value}{lo hi:Option Int}{Q:Value->Shared->Prop}(ht:IsTup s.heap t items)(hs:s.heap.IsSliceOf sl vl vu .none)(pl:IsPart vl lo)(pu:IsPart vu hi)
  (hw:bY items.size 0 lo=0/\bY items.size items.size hi=items.size) (h:Q (.ref t) s):wpAny (model prog w) A (getItem (.ref t) (.ref sl)) Q E s:=by
 obtain⟨os,qR,Rb,GG⟩:=id hs
 have Tt:s.TypeIs (.ref sl) "slice":=⟨os,qR,Rb⟩
 unfold getItem
 try with_reducible refine C2 ?_
 first|refine E9 (G0 ?_)|skip
 refine E9 (wpAny_sequenceKey ht.typeIs (by decide) ?_)
 refine E9 (j5 (name:=Str.ofString "__getitem__") ht.typeIs a0
  (y9 a0 ht.typeIs entry_tuple_getitem ?_ (args_tuple_getitem _ _)))
 show wpAny _ _ (Builtin.Tuple.tupleItemsOf (.ref t) >>= _) _ _ s
 refine E9 (tupleItemsOf_ ht ?_)
 refine E9 (wpAny_typeOf Tt ?_)
 rw[J4 (by decide)]
 refine E9 (fi hs pl pu ?_)
 have SK:(((bY items.size 0 lo:Nat):Int)==0&&(1:Int)==1&&(bY items.size items.size hi - bY items.size 0 lo)==items.size)=true:=by
  rw[hw.1,hw.2]
  simp
 show wpAny _ _ (if(((bY items.size 0 lo:Nat):Int)==0&&(1:Int)==1&&(bY items.size items.size hi - bY items.size 0 lo)==items.size)=true then _ else _) _ _ s
 rw[J4 SK]
 unfold Builtin.Tuple.tupleIsExact
 refine E9 (E9 (wpAny_typeOf ht.typeIs (G0 ?_)))
 rw[J4 (by decide)]
 exact E9 (G5 (G0 ⟨_,rfl,G0 h⟩))
end
end HT
namespace L2
open PySem PySem.Spec PyProof.Rows
section
variable {X:Cx}
theorem DX:xZ X (λ x lo hi H Q=>∃a xs,x=.ref a/\fz X.K H a xs/\(HT.bY xs.length 0 lo=0/\HT.bY xs.length xs.length hi=xs.length)/\Q (.ref a) H):=by
 intro pins s σ H x v vl vu lo hi sl Q I rx hs pl pu h
 obtain⟨a,xs,rfl,hx,hw,q⟩:=h
 cases rx
 obtain⟨au,r,ht,hz⟩:=I.tuple hx
 have hlen:au.toArray.size=xs.length:=by rw[x4];exact r.length.symm
 exact⟨"tuple",_,a0.lookup,ht.typeIs,HT.g_ ht hs pl pu (by rw[hlen];exact hw) ⟨.ref a,H,I,rfl,q⟩⟩
end
end L2
namespace L3
open PySem PySem.Spec L2
section
variable {X:Cx}
def zm:D->Option Int->Option Int->Mem->bD->Prop:=λ x lo hi M Q=>match x with
 | .str z=>z.length<=sizeLine/\Q (.str (nT z lo hi)) M
 | .tup ds=>Q (.tup (cutD ds lo hi)) M
 | .ref a=>match aW M a with
  |some ds=>∀p,M p=none->Q (.ref p) (ak M p (.lst (cutD ds lo hi)))
  |none=>False
 |_=>False
theorem my:PM X zm:=by
 obtain⟨r,h1,h2⟩:=(pB:PM X UZ)
 refine⟨_,h1.or DX,λ x d lo hi H M Q2 Q hd hm q k=>?_⟩
 cases d with
 |tup ds=>
  by_cases hw:HT.bY ds.length 0 lo=0/\HT.bY ds.length ds.length hi=ds.length
  ·have q:Q2 (.tup (cutD ds lo hi)) M:=q
   have e:cutD ds lo hi=ds:=by unfold cutD;rw[hw.1,hw.2];simp
   rw[e]at q
   obtain⟨p,xs,rfl,h,hx⟩:=aM.mp hd
   exact .inr ⟨p,xs,rfl,h,by rw[hx.length];exact hw,k _ H _ M (aM.mpr ⟨p,xs,rfl,h,hx⟩) hm (av.refl H) q⟩
  ·exact .inl (h2 x (.tup ds) lo hi H M Q2 Q hd hm ⟨hw,q⟩ k)
 |str z=>exact .inl (h2 x (.str z) lo hi H M Q2 Q hd hm q k)
 |ref a=>exact .inl (h2 x (.ref a) lo hi H M Q2 Q hd hm q k)
 |_=>exact q.elim
end
section
variable {M:Mem}{Q:bD}
theorem xS{ds:List D}{i:Int}(h0:0<=i):cutD ds none (some i)=ds.take i.toNat:=by
 unfold cutD
 have e:HT.bY ds.length ds.length (some i)=min i.toNat ds.length:=by
  show(if i < 0 then(i+(ds.length:Int)).toNat else min i.toNat ds.length)=_
  rw[J5 (by omega)]
 rw[e]
 show(ds.drop 0).take (min i.toNat ds.length - 0)=_
 rw[drop_zero,Nat.sub_zero,take_eq_take_iff]
 omega
theorem zp{ds:List D}{i:Int}(h0:0<=i):cutD ds (some i) none=ds.drop i.toNat:=by
 unfold cutD
 have e:HT.bY ds.length 0 (some i)=min i.toNat ds.length:=by
  show(if i < 0 then(i+(ds.length:Int)).toNat else min i.toNat ds.length)=_
  rw[J5 (by omega)]
 rw[e]
 show(ds.drop (min i.toNat ds.length)).take (ds.length - min i.toNat ds.length)=_
 rw[j7 (by rw[y6];omega)]
 by_cases h:i.toNat<=ds.length
 ·rw[Nat.min_eq_left h]
 ·rw[Nat.min_eq_right (by omega),drop_length,drop_of_length_le (by omega)]
theorem mC{ds:List D}{i:Int}(h0:0<=i)(q:Q (.tup (ds.take i.toNat)) M):zm (.tup ds) none (some i) M Q:=by
 show Q (.tup (cutD ds none (some i))) M
 rw[xS h0]
 exact q
theorem mD{ds:List D}{i:Int}(h0:0<=i)(q:Q (.tup (ds.drop i.toNat)) M):zm (.tup ds) (some i) none M Q:=by
 show Q (.tup (cutD ds (some i) none)) M
 rw[zp h0]
 exact q
theorem Ei{z:Str}{lo hi:Option Int}(h:z.length<=sizeLine)(q:Q (.str (nT z lo hi)) M):zm (.str z) lo hi M Q:=⟨h,q⟩
theorem Ej{a:Addr}{ds:List D}{lo hi:Option Int}(h:M a=some (.lst ds))(q:∀p,M p=none->Q (.ref p) (ak M p (.lst (cutD ds lo hi)))):zm (.ref a) lo hi M Q:=by
 show(match aW M a with|some ds=>∀p,M p=none->Q (.ref p) (ak M p (.lst (cutD ds lo hi)))|none=>False)
 unfold aW
 rw[h]
 exact q
theorem yz{a:Addr}{ds:List D}{i:Int}(h:M a=some (.lst ds))(h0:0<=i)(q:∀p,M p=none->Q (.ref p) (ak M p (.lst (ds.take i.toNat)))):zm (.ref a) none (some i) M Q:=by
 refine Ej h ?_
 rw[xS h0]
 exact q
end
end L3
namespace L3
open PySem PySem.Spec L2 L5
def kI(x y:D)(M:Mem):Option (List D):=match cQ M x,cQ M y with
 |some xs,some ys=>some (hX xs ys)
 |_,_=>none
def Ca(ta:iy):lh:=λ δ M R=>ta δ M λ ds M1=>match ds with
 |[.tup xs,.tup ys]=>R (.fix (hX xs ys)) M1
 |[x,y]=>(∃zs,kI x y M1=some zs)/\R (.fn (kI x y)) M1
 |_=>False
theorem n_{x y:D}{M:Mem}{zs:List D}(h:kI x y M=some zs):∃xs ys,cQ M x=some xs/\cQ M y=some ys/\zs=hX xs ys:=by
 unfold kI at h
 cases e1:cQ M x with
 |none=>rw[e1]at h;cases h
 |some xs=>
  cases e2:cQ M y with
  |none=>rw[e1,e2]at h;cases h
  |some ys=>rw[e1,e2]at h;cases h;exact⟨xs,ys,rfl,rfl,rfl⟩
theorem yZ{K:PySem.W.Frag}{H1:Hp}{a b:Addr}{x y:D}(hx:Dat K H1 x (.ref a))(hy:Dat K H1 y (.ref b)):nY K H1 (Rv K (kindB x) (kindB y) a b) (.fn (kI x y)):=λ H M zs t hm e=>by
 obtain⟨ds,es,e1,e2,rfl⟩:=n_ (show kI x y M=some zs from e)
 obtain⟨p,xs,e3,q1,x1⟩:=fJ e1 (Dat.mono t x hx) hm
 cases e3
 obtain⟨p,ys,e3,q2,x2⟩:=fJ e2 (Dat.mono t y hy) hm
 cases e3
 have l1:=x1.length
 have l2:=x2.length
 rw[qU]
 refine⟨λ i hi=>⟨xs,ys,xs[i]'(by omega),ys[i]'(by omega),q1,q2,by simp,by simp⟩,λ i hi=>⟨xs,ys,q1,q2,by omega⟩,λ i v H' hi z=>?_⟩
 obtain⟨p,vx,vy,hp,rfl,rfl,HS,SN⟩:=z
 obtain⟨d,d1,d2⟩:=x1.mX (HS xs q1)
 obtain⟨e,e1,e2⟩:=x2.mX (SN ys q2)
 refine⟨av.laid hp,hm.laid hp,.tup [d,e],?_,fI hp (ai.mpr ⟨vx,[vy],rfl,d2,aD.one e2⟩)⟩
 obtain⟨z1,w1⟩:=i5.mp d1
 obtain⟨z2,w2⟩:=i5.mp e1
 simp[hX,hi,w1,w2,z1,z2]
section
variable {X:Cx}{es:List Expr}{k0:_}{mj:Pos}{a b:Expr}{ta:iy}{p pos:Pos}
theorem EX(hg:Gl X "zip")(hm:X.mg "zip"=none)(ha:QA X [a,b] ta)(hs:starEach [a,b] X.env=[(false,eval a X.env),(false,eval b X.env)]:=by rfl)(gI:starEach [b] X.env=[(false,eval b X.env)]:=by rfl):
  QI X (.Tuple es k0 mj) (.Call (.Name "zip" p) [a,b] [] pos) (Ca ta):=wX (Kg hg hm ha hs gI) λ σ H R ⟨δ,M,R2,hs,hm,q,k⟩=>by
 refine⟨δ,M,_,hs,hm,q,λ xs H1 ds M1 hd bR t1 q1=>?_⟩
 have go:∀x y,ds=[x,y]->(∃zs,kI x y M1=some zs)->(∀J,nY X.K H1 J (.fn (kI x y))->R J H1)->∃(b1 b2:Bool) (l m:Addr),xs=[.ref l,.ref m]/\(∃xs,Sq b1 X.K H1 l xs)/\(∃ys,Sq b2 X.K H1 m ys)/\R (Rv X.K b1 b2 l m) H1:=by
  rintro x y rfl ⟨zs,hz⟩ hR
  obtain⟨vx,r,rfl,hx,hr⟩:=ai.mp hd
  obtain⟨vy,r,rfl,hy,hr⟩:=ai.mp hr
  cases(ao.mp hr)
  obtain⟨xs,ys,e1,e2,_⟩:=n_ hz
  obtain⟨p,vs,rfl,q1,_⟩:=fJ e1 hx bR
  obtain⟨p2,ws,rfl,q2,_⟩:=fJ e2 hy bR
  exact⟨_,_,p,p2,rfl,⟨vs,q1⟩,⟨ws,q2⟩,hR _ (yZ hx hy)⟩
 match ds,q1 with
 |[x,y],q1=>
  by_cases ht:∃xs ys,x=.tup xs/\y=.tup ys
  ·obtain⟨xs,ys,rfl,rfl⟩:=ht
   refine go _ _ rfl ⟨_,rfl⟩ λ J hJ=>k J H1 (.fix (hX xs ys)) M1 (λ H M ds t hm e=>hJ H M ds t hm e) bR t1 q1
  ·have q2:(∃zs,kI x y M1=some zs)/\R2 (.fn (kI x y)) M1:=by
    cases x <;> first|exact q1|(cases y <;> first|exact q1|exact absurd ⟨_,_,rfl,rfl⟩ ht)
   exact go x y rfl q2.1 λ J hJ=>k J H1 _ M1 hJ bR t1 q2.2
 |[],q1=>exact q1.elim
 |[x],q1=>cases x <;> exact q1.elim
 |x::y::z::r,q1=>cases x <;> first|exact q1.elim|(cases y <;> exact q1.elim)
end
end L3
namespace L4
open PySem PySem.Spec L2 L3 L5
section
variable {X:Cx}{es:List Expr}{k0:_}{mj:Pos}{a b:Expr}{ta:iy}{p pos:Pos}
theorem wt(hg:Gl X "zip")(hm:X.mg "zip"=none)(ha:WA X [a,b] ta)(hs:starEach [a,b] X.env=[(false,eval a X.env),(false,eval b X.env)]:=by rfl)(gI:starEach [b] X.env=[(false,eval b X.env)]:=by rfl):
  WI X (.Tuple es k0 mj) (.Call (.Name "zip" p) [a,b] [] pos) (Ca ta):=⟨EX hg hm ha.h hs gI⟩
end
end L4
namespace L3
open PySem PySem.Spec L2 L5 PyProof.Rows
section
variable {X:Cx}
theorem oC{A:Around}{s:Shared}{v:Value}{y:PyData}{bs:List Addr}(ry:Reads s.heap v y bs)(cy:y.canLay0=true)(hu:A.units+y.depth < cLine):∀{ds:List D} {us:List Value} {as:List Addr},ReadsAll s.heap us (toPs ds) as->PyData.canLayAll0 (toPs ds)=true->
  ∃e:Value->Bool,(∀u∈us,SeqAt.EqAt A s u v (e u))/\us.map e=ds.map λ d=>PyData.eqv (toP d) y:=by
 intro ds us as ra cl
 refine⟨λ u=>PyData.eqv (SeqAt.readOf s.heap u) y,λ u Gs=>?_,?_⟩
 ·obtain⟨d,Xh,rd,cd,_⟩:=SeqAt.readsAll_mem _ _ _ cl ra u Gs
  have e:=SeqAt.readOf_eq cd rd
  dsimp only
  rw[e]
  exact x5 d y A s u v _ _ rd ry cd cy (by omega)
 ·have e:=SeqAt.readsAll_map _ _ _ cl ra
  have f:∀(us:List Value) (ds:List D),us.map (SeqAt.readOf s.heap)=toPs ds->us.map (λ u=>PyData.eqv (SeqAt.readOf s.heap u) y)=ds.map λ d=>PyData.eqv (toP d) y:=by
   intro us
   induction us with
   |nil=>
    intro ds q
    cases ds with
    |nil=>rfl
    |cons d r=>unfold toPs at q;cases q
   |cons u us ih=>
    intro ds q
    cases ds with
    |nil=>unfold toPs at q;cases q
    |cons d r=>
     unfold toPs at q
     rw[C6]at q
     injection q with q1 q2
     rw[C6,C6,ih r q2,q1]
  exact f us ds e
structure Ua(K:PySem.W.Frag)(H:Hp)(b:Bool)(p:Addr)(xs:List V)(ds:List D)(x:V)(d:D):Prop where
 sq:Sq b K H p xs
 Pk:aD K H ds xs
 dat:Dat K H d x
 ns:qQ ds=true
 n:nr d=true
 Gg:PyData.canLayAll0 (toPs ds)=true
 lay:(toP d).canLay0=true
 dep:(toP d).depth < 62
theorem any_map{α:Type}(us:List α)(e:α->Bool)(bs:List Bool)(h:us.map e=bs):us.any e=bs.any id:=by
 rw[<- h,List.any_map]
 rfl
theorem KH(neg:Bool)(hu:X.A.units+64 < cLine):fb X (compareOp (if neg then .NotIn else .In)) (λ x y H Q=>∃(b:Bool) (p:Addr) (xs:List V) (ds:List D) (d:D),y=.ref p/\Ua X.K H b p xs ds x d/\Q (.bl (if neg then !ds.any (λ e=>PyData.eqv (toP e) (toP d))else ds.any λ e=>PyData.eqv (toP e) (toP d))) H):=by
 intro pins s σ H x y v u Q I rx ry h
 obtain⟨b,p,xs,ds,d,rfl,ok,q⟩:=h
 cases ry
 obtain⟨bs,rb⟩:=QK I d ok.n ok.dat rx
 have hd:=ok.dep
 cases b with
 |false=>
  obtain⟨au,r,pl,hz⟩:=I.list ok.sq
  obtain⟨as,ra⟩:=uZ I ds ok.ns ok.Pk r
  obtain⟨e,e1,e2⟩:=oC (A:=X.A.in1) rb ok.lay (by show X.A.units+1+_ < _;omega) ra ok.Gg
  have e3:au.toArray.any e=ds.any λ e=>PyData.eqv (toP e) (toP d):=by
   rw[show au.toArray.any e=au.any e by simp,any_map _ _ _ e2,List.any_map]
   rfl
  cases neg with
  |false=>exact SeqAt.in_listAt e pl.isList (λ w hw=>e1 w (by simpa using hw)) ⟨.bl _,H,I,rfl,by rw[e3];exact q⟩
  |true=>exact SeqAt.notIn_listAt e pl.isList (λ w hw=>e1 w (by simpa using hw)) ⟨.bl _,H,I,rfl,by rw[e3];exact q⟩
 |true=>
  obtain⟨au,r,pl,hz⟩:=I.tuple ok.sq
  obtain⟨as,ra⟩:=uZ I ds ok.ns ok.Pk r
  obtain⟨e,e1,e2⟩:=oC (A:=X.A.in1) rb ok.lay (by show X.A.units+1+_ < _;omega) ra ok.Gg
  have e3:au.toArray.any e=ds.any λ e=>PyData.eqv (toP e) (toP d):=by
   rw[show au.toArray.any e=au.any e by simp,any_map _ _ _ e2,List.any_map]
   rfl
  cases neg with
  |false=>exact SeqAt.in_tupleAt e pl (λ w hw=>e1 w (by simpa using hw)) ⟨.bl _,H,I,rfl,by rw[e3];exact q⟩
  |true=>exact SeqAt.notIn_tupleAt e pl (λ w hw=>e1 w (by simpa using hw)) ⟨.bl _,H,I,rfl,by rw[e3];exact q⟩
end
end L3
namespace L3
open PySem PySem.Spec L2 L5 PyProof.Rows
section
variable {X:Cx}
def Ik:List D->Mem->bD->Prop:=λ ds M Q=>∃ns:List Int,ds=ns.map D.int/\Q (.int ns.sum) M
theorem wz:kB L0 Ik:=λ ds M p Q hp hz q=>by
 obtain⟨ns,rfl,q⟩:=q
 exact⟨.ref p,_,ns,rfl,jK,rfl,M,(lp.refl M).put hp,q⟩
def Iq:List D->Mem->bD->Prop:=λ xs M Q=>(∃b,xs=[.bl b]/\Q (.int (if b then 1 else 0)) M)\/∃i,xs=[.int i]/\Q (.int i) M
theorem Me:cU X (.type "int") Iq:=⟨_,zu,λ xs ds H M Q2 Q hd hm q k=>by
 rcases q with⟨b,rfl,q⟩|⟨b,rfl,q⟩
 ·obtain⟨v,r,rfl,hv,hr⟩:=ai.mp hd
  cases(ao.mp hr)
  cases(aN.mp hv)
  exact .inr ⟨b,rfl,k _ H _ M (ax.mpr rfl) hm (av.refl H) q⟩
 ·obtain⟨v,r,rfl,hv,hr⟩:=ai.mp hd
  cases(ao.mp hr)
  cases(ax.mp hv)
  exact .inl ⟨b,rfl,k _ H _ M (ax.mpr rfl) hm (av.refl H) q⟩⟩
def Pn:fA:=λ x y M Q=>∃l k ds,x=.ref l/\y=.int k/\M l=some (.lst ds)/\-(2^63)<=k/\k < 2^63/\ds.length*k.toNat<=sizeLine/\∀p,M p=none->Q (.ref p) (ak M p (.lst (List.replicate k.toNat ds).flatten))
def xN:fA:=λ x y M Q=>xO x y M Q\/Pn x y M Q
theorem eC:fB X (binaryOp .Mult) xN:=KY.or ⟨_,Kw,λ x y d e H M Q2 Q hd he hm q k=>by
 obtain⟨l,n,ds,rfl,rfl,hM,h1,h2,hz,q⟩:=q
 cases(aB.mp hd)
 cases(ax.mp he)
 obtain⟨xs,hx,Ra⟩:=hm l _ hM
 exact⟨l,n,xs,rfl,rfl,hx,h1,h2,by rw[Ra.length];exact hz,λ p hp=>k _ _ (.ref p) _ (aB.mpr rfl) (cZ hp (ni Ra n.toNat) hm) (av.laid hp) (q p (hm.free hp))⟩⟩
structure XB(M:Mem)(x y:D)(ds:List D):Prop where
 sq:cQ M y=some ds
 ns:qQ ds=true
 n:nr x=true
 Gg:PyData.canLayAll0 (toPs ds)=true
 lay:(toP x).canLay0=true
 dep:(toP x).depth < 62
def L8(neg:Bool):fA:=λ x y M Q=>∃ds,XB M x y ds/\Q (.bl (if neg then !ds.any (λ e=>PyData.eqv (toP e) (toP x))else ds.any λ e=>PyData.eqv (toP e) (toP x))) M
theorem HK(neg:Bool)(hu:X.A.units+64 < cLine):fB X (compareOp (if neg then .NotIn else .In)) (L8 neg):=⟨_,KH neg hu,λ x y d e H M Q2 Q hd he hm q k=>by
 obtain⟨ds,ok,q⟩:=q
 obtain⟨p,xs,rfl,q1,x1⟩:=fJ ok.sq he hm
 exact⟨_,p,xs,ds,d,rfl,⟨q1,x1,hd,ok.ns,ok.n,ok.Gg,ok.lay,ok.dep⟩,k _ H _ M (aN.mpr rfl) hm (av.refl H) q⟩⟩
def L9:fA:=λ x y M Q=>Rj x y M Q\/L8 false x y M Q
theorem HL(hu:X.A.units+64 < cLine):fB X (compareOp .In) L9:=Su.or (HK false hu)
def xJ:fA:=λ x y M Q=>∃i j,x=.str i/\y=.str j/\Q (.bl (!(!(Builtin.Str.occurrences j i 0 j.length 1).isEmpty))) M
theorem Bx:fB X (compareOp .NotIn) xJ:=⟨_,pO,λ x y d e H M Q2 Q hd he hm q k=>by
 obtain⟨i,j,rfl,rfl,q⟩:=q
 cases(aL.mp hd)
 cases(aL.mp he)
 exact⟨i,j,rfl,rfl,k _ H _ M (aN.mpr rfl) hm (av.refl H) q⟩⟩
def xM:fA:=λ x y M Q=>xJ x y M Q\/L8 true x y M Q
theorem By(hu:X.A.units+64 < cLine):fB X (compareOp .NotIn) xM:=Bx.or (HK true hu)
def Po:D->List D->Mem->bD->Prop:=λ x vs M Q=>(∃p ds y,x=.ref p/\vs=[]/\M p=some (.lst ds)/\ds[ds.length - 1]?=some y/\Q y (ak M p (.lst ds.dropLast)))\/
 ∃p ds i k y,x=.ref p/\vs=[.int i]/\M p=some (.lst ds)/\-(2^63)<=i/\i < 2^63/\seqIndex? i ds.length=some k/\ds[k]?=some y/\Q y (ak M p (.lst (ds.eraseIdx k)))
theorem aD.eraseIdx {K:PySem.W.Frag}{H:Hp}:∀{ds:List D} {xs:List V} (n:Nat),aD K H ds xs->aD K H (ds.eraseIdx n) (xs.eraseIdx n)
 |[],xs,n,h=>by rw[ao]at h;subst h;simp[ao]
 |d::ds,xs,0,h=>by
  obtain⟨x,r,rfl,a,b⟩:=ai.mp h
  exact b
 |d::ds,xs,n+1,h=>by
  obtain⟨x,r,rfl,a,b⟩:=ai.mp h
  rw[eraseIdx_cons_succ,eraseIdx_cons_succ,ai]
  exact⟨x,_,rfl,a,b.eraseIdx n⟩
theorem aD.dropLast {K:PySem.W.Frag}{H:Hp}{ds:List D}{xs:List V}(h:aD K H ds xs):aD K H ds.dropLast xs.dropLast:=by
 rw[dropLast_eq_take,dropLast_eq_take,h.length]
 exact h.take _
theorem DE.or {id:String}{r r':V->List V->Hp->VK->Prop}(h:DE X id r)(h':DE X id r'):DE X id (λ x vs H Q=>r x vs H Q\/r' x vs H Q):=by
 intro pins s σ H x xs v us Q I a b q
 rcases q with q|q
 ·exact h pins s σ H x xs v us Q I a b q
 ·exact h' pins s σ H x xs v us Q I a b q
theorem HM:zI X "list.pop" Po:=⟨_,DE.or K4 BC,λ x xs d ds H M Q2 Q hx hd hm q k=>by
 rcases q with⟨p,es,y,rfl,rfl,hM,hy,q⟩|⟨p,es,i,j,y,rfl,rfl,hM,h1,h2,hs,hy,q⟩
 ·cases(aB.mp hx)
  cases(ao.mp hd)
  obtain⟨zs,h1,h2⟩:=hm p _ hM
  obtain⟨v,hv,SW⟩:=h2.get hy
  have t:=av.lst (o:=.lst zs.dropLast) h1
  exact .inl ⟨p,zs,v,rfl,rfl,h1,by rw[h2.length];exact hv,k _ _ y _ (Dat.mono t y SW) (hm.put (u:=.lst es.dropLast) t ⟨_,br,aD.mono t _ h2.dropLast⟩) t q⟩
 ·cases(aB.mp hx)
  obtain⟨v0,r,rfl,VC,hr⟩:=ai.mp hd
  cases(ao.mp hr)
  cases(ax.mp VC)
  obtain⟨zs,g1,g2⟩:=hm p _ hM
  obtain⟨v,hv,SW⟩:=g2.get hy
  have t:=av.lst (o:=.lst (zs.eraseIdx j)) g1
  exact .inr ⟨p,zs,i,j,v,rfl,rfl,g1,h1,h2,by rw[g2.length];exact hs,hv,k _ _ y _ (Dat.mono t y SW) (hm.put (u:=.lst (es.eraseIdx j)) t ⟨_,br,aD.mono t _ (g2.eraseIdx j)⟩) t q⟩⟩
def CZ:D->List D->Mem->bD->Prop:=λ x vs M Q=>∃p ds,x=.ref p/\vs=[]/\M p=some (.lst ds)/\Q .bj (ak M p (.lst []))
theorem Gb:zI X "list.clear" CZ:=⟨_,BD,λ x xs d ds H M Q2 Q hx hd hm q k=>by
 obtain⟨p,es,rfl,rfl,hM,q⟩:=q
 cases(aB.mp hx)
 cases(ao.mp hd)
 obtain⟨zs,h1,h2⟩:=hm p _ hM
 have t:=av.lst (o:=.lst []) h1
 exact⟨p,zs,rfl,rfl,h1,k _ _ .bj _ (dj.mpr rfl) (hm.put (u:=.lst []) t ⟨_,br,by rw[ao]⟩) t q⟩⟩
end
section
variable {M:Mem}{Q:bD}
theorem Ec{i j l:Nat}{a b c:D}{δ:dq}{N:dq->Mem->Prop}(h:N (((δ.set i (some a)).set j (some b)).set l (some c)) M):vN 3 (fm (hName i) (fm (hName j) (fm (hName l) vO))) (.tup [a,b,c]) δ M N:=⟨rfl,h⟩
theorem wJ{ns:List Int}(q:Q (.int ns.sum) M):Ik (ns.map D.int) M Q:=⟨ns,rfl,q⟩
theorem AL{b:Bool}(q:Q (.int (if b then 1 else 0)) M):Iq [.bl b] M Q:=.inl ⟨b,rfl,q⟩
theorem dO{i j:Int}(h:qN i j)(q:Q (.int (i*j)) M):xN (.int i) (.int j) M Q:=.inl (AG h q)
theorem AD{i:Str}{j:Int}(h:MulOk i j)(q:Q (.str (Txt.mul i j)) M):xN (.str i) (.int j) M Q:=.inl (AF h q)
theorem AE{p:Addr}{d:D}{k:Int}(hM:M p=some (.lst [d]))(h0:0<=k)(h1:k<=10000)(q:∀p,M p=none->Q (.ref p) (ak M p (.lst (List.replicate k.toNat d)))):xN (.ref p) (.int k) M Q:=by
 refine .inr ⟨p,k,[d],rfl,rfl,hM,Int.le_trans (by decide) h0,Int.lt_of_le_of_lt h1 (by decide),?_,?_⟩
 ·have:[d].length*k.toNat<=10000:=by simp;omega
  exact RQ this
 ·have e:(List.replicate k.toNat [d]).flatten=List.replicate k.toNat d:=by
   generalize k.toNat=n
   induction n with
   |zero=>rfl
   |succ n ih=>rw[n6,u6,ih,n6];rfl
  rw[e]
  exact q
theorem EA{x:D}{ds:List D}{b:Bool}(e:inD x ds=some b)(q:Q (.bl b) M):L9 x (.tup ds) M Q:=.inl (Jx e q)
theorem EB{x:D}{a:Addr}{ds:List D}{b:Bool}(h:M a=some (.lst ds))(e:inD x ds=some b)(q:Q (.bl b) M):L9 x (.ref a) M Q:=.inl (Jy h e q)
theorem AB{p:Addr}{ds:List D}{y:D}(hM:M p=some (.lst (ds++[y])))(q:Q y (ak M p (.lst ds))):Po (.ref p) [] M Q:=by
 refine .inl ⟨p,ds++[y],y,rfl,rfl,hM,by simp,?_⟩
 rw[dropLast_concat]
 exact q
theorem AQ{p:Addr}{ds:List D}(hM:M p=some (.lst ds))(q:Q .bj (ak M p (.lst []))):CZ (.ref p) [] M Q:=⟨p,ds,rfl,rfl,hM,q⟩
end
end L3
namespace L5
open PySem PyProof.Rows
abbrev LX(d:Value):List (Str×Value):=[(Str.ofString "default",d)]
theorem zy(a d:Value):argsOk "max" ⟨[a],LX d⟩:=by unfold argsOk;kernel_rfl
section
variable {prog:Program}{w:World}{A:Around}{R:Result->Shared->Prop}{I:Addr}{fp wr:List Addr}{n:Nat}{P:Nat->Value->Prop}{St:Nat->Heap->Prop}{d:Value}
theorem pS:(toString "max"++toString ".loop":String)="max.loop":=by decide
abbrev qD(xs:Array Value)(c:Nat):Obj:={cls:=.type "list",dict:=none,data:=.seq xs c,slots:=#[]}
theorem BI(W:Walks prog w A.in1 I fp wr n P St){S:Addr}(MP:S∉wr){s:Shared}{vb:Value}{c:Nat}(hst:St n s.heap)(hS:s.heap.get? S=some (qD #[vb,vb] c))
  (hR:∀h' tk,(∀b o,b∉wr->b≠S->s.heap.get? b=some o->h'.get? b=some o)->R (.ok (.ret vb)) {s with heap:=h',toks:=tk}):
  codeAny (model prog w) A (.builtin "max.loop" ⟨[.ref I,.none,.ref S],LX d⟩) R s:=by
 refine B2 F.entry_max_loop ?_;rw[m8 z3 _]
 show wpAny _ A.in1 (seqItems? (.ref S) >>= _) _ _ s;refine E9 (B9 hS rfl ?_)
 show wpAny _ A.in1 (tryCatch (pyNext (.ref I)) _ >>= _) _ _ s;refine E9 (C1 (W.done s _ _ hst λ h' tk hk=>?_))
 have Ia:=hk S _ MP hS;show wpAny _ A.in1 (updateSeq S (λ _=>#[]) >>= _) _ _ _;refine E9 (wpAny_updateSeq Ia rfl (E9 (E8 (G0 ?_))))
 exact hR _ tk λ b o zG GI e=>(k5 _ _ (J3 GI)).trans (hk b o zG e)
theorem yT(W:Walks prog w A.in1 I fp wr n P St)(bt:Nat->Nat->Bool)(LH:CmpOf prog w A.in1 .Gt P bt)(S:Addr)(MQ:S∉fp):
  ∀(k j:Nat) (s:Shared) (vb:Value) (c:Nat),n - (j+1)=k->j+1<=n->St (j+1) s.heap->P (argBest bt j) vb->s.heap.get? S=some (qD #[vb,vb] c)->
  (∀v h' tk,P (argBest bt (n - 1)) v->(∀b o,b∉wr->b≠S->s.heap.get? b=some o->h'.get? b=some o)->R (.ok (.ret v)) {s with heap:=h',toks:=tk})->
  codeAny (model prog w) A (.builtin "max.loop" ⟨[.ref I,.none,.ref S],LX d⟩) R s:=by
 have MP:S∉wr:=λ h=>MQ (W.sub _ h)
 intro k
 induction k with
 |zero=>
  intro j s vb c hk hj hst Rg hS hR
  have e:j+1=n:=by omega
  exact BI W MP (e▸hst) hS λ h' tk q=>hR vb h' tk (by rw[<- e];exact Rg) q
 |succ k ih=>
  intro j s vb c hk hj hst Rg hS hR
  have fO:j+1 < n:=by omega
  refine B2 F.entry_max_loop ?_;rw[m8 z3 _]
  show wpAny _ A.in1 (seqItems? (.ref S) >>= _) _ _ s;refine E9 (B9 hS rfl ?_)
  show wpAny _ A.in1 (tryCatch (pyNext (.ref I)) _ >>= _) _ _ s;refine E9 (C1 (W.item (j+1) s _ _ fO hst λ v h' tk hP Gu nG=>?_))
  have Ia:=nG S _ MP hS;show wpAny _ A.in1 (tryCatch (holding [v,v] (richCompare .Gt v vb >>= _)) _ >>= _) _ _ _
  refine E9 (C1 (C2 (E9 (LH (j+1) (argBest bt j) v vb _ _ _ hP Rg (E9 (C2 (u9 (E9 (E8 (G0 ?_))))))))));cases hb:bt (j+1) (argBest bt j)with
  |true=>
   simp only[if_true];refine E9 (wpAny_updateSeq Ia rfl (E9 (E8 ?_)));rw[pS]
   refine G0 ⟨C8 z3 _,ih (j+1) _ v _ (by omega) fO (W.frame _ _ _ Gu λ b Tq o e=>(k5 _ _ (λ h:S=b=>MQ (by rw[h];exact Tq))).trans e) (by simp only[argBest,hb,if_true];exact hP) (k7 _ Ia rfl) λ v' h2 t2 Ib MK=>?_⟩
   exact hR v' h2 t2 Ib λ b o zG GI e=>MK b o zG GI ((k5 _ _ (J3 GI)).trans (nG b o zG e))
  |false=>
   simp only[p6,H9];refine E9 (E8 ?_);rw[pS]
   exact G0 ⟨C8 z3 _,ih (j+1) _ vb c (by omega) fO Gu (by simp only[argBest,hb,p6,H9];exact Rg) Ia λ v' h2 t2 Ib MK=>hR v' h2 t2 Ib λ b o zG GI e=>MK b o zG GI (nG b o zG e)⟩
theorem vD(W:Walks prog w A.in1 I fp wr n P St)(bt:Nat->Nat->Bool)(LH:CmpOf prog w A.in1 .Gt P bt)(S:Addr)(MQ:S∉fp){s:Shared}{c:Nat}(hst:St 0 s.heap)(hS:s.heap.get? S=some (qD #[] c))
  (h0:n=0->∀h' tk,(∀b o,b∉wr->b≠S->s.heap.get? b=some o->h'.get? b=some o)->R (.ok (.ret d)) {s with heap:=h',toks:=tk})
  (hR:0 < n->∀v h' tk,P (argBest bt (n - 1)) v->(∀b o,b∉wr->b≠S->s.heap.get? b=some o->h'.get? b=some o)->R (.ok (.ret v)) {s with heap:=h',toks:=tk}):
  codeAny (model prog w) A (.builtin "max.loop" ⟨[.ref I,.none,.ref S],LX d⟩) R s:=by
 have MP:S∉wr:=λ h=>MQ (W.sub _ h)
 refine B2 F.entry_max_loop ?_;rw[m8 z3 _]
 show wpAny _ A.in1 (seqItems? (.ref S) >>= _) _ _ s;refine E9 (B9 hS rfl ?_)
 show wpAny _ A.in1 (tryCatch (pyNext (.ref I)) _ >>= _) _ _ s;by_cases hn:0 < n
 ·refine E9 (C1 (W.item 0 s _ _ hn hst λ v h' tk hP Gu nG=>?_))
  have Ia:=nG S _ MP hS;show wpAny _ A.in1 (updateSeq S (λ _=>#[v,v]) >>= _) _ _ _;refine E9 (wpAny_updateSeq Ia rfl ?_);rw[pS]
  refine G0 ⟨C8 z3 _,yT W bt LH S MQ _ 0 _ v _ rfl hn (W.frame _ _ _ Gu λ b Tq o e=>(k5 _ _ (λ h:S=b=>MQ (by rw[h];exact Tq))).trans e) hP (k7 _ Ia rfl) λ v' h2 t2 Ib MK=>?_⟩
  exact hR hn v' h2 t2 Ib λ b o zG GI e=>MK b o zG GI ((k5 _ _ (J3 GI)).trans (nG b o zG e))
 ·have e:n=0:=by omega
  refine E9 (C1 (W.done s _ _ (e▸hst) λ h' tk hk=>?_))
  exact E9 (G5 (G0 (h0 e h' tk λ b o zG _ q=>hk b o zG q)))
end
end L5
namespace L5
open PySem PyProof.Rows
theorem zx(d:Value):Builtin.Builtins.bindParams "max" ["key","default"] 0 ⟨[],LX d⟩=pure [none,some d]:=by kernel_rfl
section
variable {prog:Program}{w:World}{A:Around}{E:Value->Shared->Prop}{s:Shared}
theorem qx{id:String}{b:Builtin}{args:List Value}{kw:List (Str×Value)}{Q:Value->Shared->Prop}(hk:builtinKind id=none)(hp:plainId id=true)(hb:entryFor table id=some b)(ha:argsOk id ⟨args,kw⟩)
  (hc:wpAny (model prog w) A.in1 (b ⟨args,kw⟩) (λ fin s'=>match fin with
   | .done f=>(match(Except.ok f:Result)with| .ok (.ret v)=>Q v s'| .ok _=>False| .error e=>E e s')
   | .again c'=>c'.quiet=true/\codeAny (model prog w) A c' (λ r s'=>match r with| .ok (.ret v)=>Q v s'| .ok _=>False| .error e=>E e s') s') E s):wpAny (model prog w) A (call (.builtin id) args kw) Q E s:=by
 refine wpAny_call (codeAny_call_builtin hp hb ?_);simp only[checkBuiltinCall,hk];cases S0:Manifest.signature? id with
 |none=>exact G0 hc
 |some sig=>have We:Bind.checkArgs id sig ⟨args,kw⟩=pure ():=by{simpa only[argsOk,S0]using ha};simp only[We];exact G0 hc
theorem zt(hA:A.in1.handled=none){l:Addr}{au:List Value}{ns:List Int}{d:Value}{Q:Value->Shared->Prop}(hl:s.heap.IsList l au.toArray)(hi:IntsAre au ns)
  (h0:ns=[]->∀h' tk,(∀b o,s.heap.get? b=some o->h'.get? b=some o)->Q d {s with heap:=h',toks:=tk})
  (hR:∀m t h' tk,m∈ns->(∀x∈ns,x<=m)->(∀b o,s.heap.get? b=some o->h'.get? b=some o)->Q (.int m t) {s with heap:=h',toks:=tk}):
  wpAny (model prog w) A (call (.builtin "max") [.ref l] (LX d)) Q E s:=by
 have fO:l < s.heap.objs.size:=by obtain⟨o,e,_⟩:=hl;exact D3 e
 have f_:l≠s.heap.objs.size:=D1 fO
 have hlen:au.length=ns.length:=hi.length
 refine qx F.kind_max F.plain_max F.entry_max (zy _ _) ?_
 show wpAny _ A.in1 (Builtin.Builtins.bindParams "max" ["key","default"] 0 ⟨[],LX d⟩ >>= _) _ _ s
 refine E9 (wpAny_of_eq (zx d) (E9 (G0 ?_)))
 refine E9 (w5 hl (E9 (u5 ?_)))
 rw[pS]
 have ON:∀i v,au.toArray[i]?=some v->∃t,v=Value.int (ns.getD i 0) t:=λ i v e=>by
  have e:au[i]?=some v:=by simpa using e
  have h1:i < ns.length:=by rw[<- hlen];exact(i5.mp e).1
  obtain⟨t,e2⟩:=L2.lQ hi h1
  rw[e]at e2
  cases e2
  exact⟨t,by simp[e9,h1]⟩
 have sz:(s.heap.push {cls:=.type "list_iterator",data:=.fields #[.ref l,.int 0 0]}).objs.size=s.heap.objs.size+1:=C0 ..
 have W:=Walks.list (prog:=prog) (w:=w) hA s.heap.objs.size l f_ au.toArray
 refine G0 ⟨C8 z3 _,vD (d:=d) W (λ i j=>decide (ns.getD i 0 > ns.getD j 0)) (CmpOf.ints_gt _ ON) _ ?_ ?_ (o7 _ rfl) ?_ ?_⟩
 ·show(s.heap.push {cls:=.type "list_iterator",data:=.fields #[.ref l,.int 0 0]}).objs.size∉_
  rw[sz]
  simp only[C7,not_mem_nil,or_false,not_or]
  exact⟨Nat.succ_ne_self _,Nat.ne_of_gt (Nat.lt_succ_of_lt fO)⟩
 ·refine W.frame _ _ _ ⟨⟨_,o7 _ rfl,rfl,rfl⟩,hl.at λ o e=>k4 _ e⟩ λ b _ o e=>k4 _ e
 ·intro hn h' tk hk
  have e:ns=[]:=j6.mp (by rw[<- hlen];simpa using hn)
  refine h0 e h' tk λ b o q=>hk b o ?_ ?_ (k4 _ (k4 _ q))
  ·simpa using D1 (D3 q)
  ·have:=D3 q
   show b≠(s.heap.push _).objs.size
   rw[sz]
   exact D1 (Nat.lt_succ_of_lt (D3 q))
 ·intro hn v h' tk hP hk
  have hn:0 < au.length:=by simpa using hn
  obtain⟨b1,b2⟩:=argBest_gt (λ i=>ns.getD i 0) (au.length - 1)
  obtain⟨t,rfl⟩:=ON _ _ hP
  have hm:argBest (λ i j=>decide (ns.getD i 0 > ns.getD j 0)) (au.toArray.size - 1) < ns.length:=by simp only[x4];omega
  refine hR _ t h' tk ?_ ?_ λ b o q=>hk b o ?_ ?_ (k4 _ (k4 _ q))
  ·rw[e9,i8 hm]
   exact A1 _
  ·intro x hx
   obtain⟨j,hj,rfl⟩:=m7.mp hx
   have:=b2 j (by omega)
   simp only[x4]
   simpa[e9,hj]using this
  ·simpa using D1 (D3 q)
  ·have:=D3 q
   show b≠(s.heap.push _).objs.size
   rw[sz]
   exact D1 (Nat.lt_succ_of_lt (D3 q))
end
end L5
namespace L2
open PySem PySem.Spec PyProof.Rows L5
def gZ(d:Int):List Int->Int
 |[]=>d
 |n::ns=>ns.foldl max n
theorem foldl_max:∀(ns:List Int) (n:Int),n<=ns.foldl max n/\(∀x∈ns,x<=ns.foldl max n)/\(ns.foldl max n=n\/ns.foldl max n∈ns)
 |[],n=>⟨Int.le_refl _,(λ x h=>by cases h),.inl rfl⟩
 |m::ns,n=>by
  obtain⟨h1,h2,h3⟩:=foldl_max ns (max n m)
  rw[foldl_cons]
  refine⟨by omega,λ x hx=>?_,?_⟩
  ·rcases C7.mp hx with rfl|hx
   ·omega
   ·exact h2 x hx
  ·rcases h3 with h3|h3
   ·by_cases e:n<=m
    ·exact .inr (by rw[h3];simp[Int.max_eq_right e])
    ·exact .inl (by rw[h3];omega)
   ·exact .inr (m3 _ h3)
theorem F_{d:Int}{ns:List Int}{m:Int}(h1:m∈ns)(h2:∀x∈ns,x<=m):gZ d ns=m:=by
 cases ns with
 |nil=>cases h1
 |cons n ns=>
  obtain⟨g1,g2,g3⟩:=foldl_max ns n
  show ns.foldl max n=m
  refine Int.le_antisymm ?_ ?_
  ·rcases g3 with g3|g3
   ·rw[g3];exact h2 n (o8 ..)
   ·exact h2 _ (m3 _ g3)
  ·rcases C7.mp h1 with rfl|h1
   ·exact g1
   ·exact g2 m h1
section
variable {X:Cx}{e c:Expr}{te tc:TE}{p pos kp:Pos}
theorem wY(hc:X.calm=true)(hg:Gl X "max")(hm:X.mg "max"=none)(he:PE X e te)(hd:PE X c tc)
  (hs:starEach [e] X.env=[(false,eval e X.env)]:=by rfl) (jN:backTo pos (starEach [e] X.env)=(false,eval e X.env)::backTo pos (starEach [] X.env):=by rfl) (gI:(backTo pos (starEach [e] X.env)).any (·.1)=false:=by rfl):PE X (.Call (.Name "max" p) [e] [⟨some "default",c,kp⟩] pos) (λ σ H Q=>te σ H λ x H1=>tc σ H1 λ y H2=>∃(l:Addr) (ns:List Int) (d:Int),x=.ref l/\y=.int d/\du X.K H2 l (ns.map V.int)/\Q (.int (gZ d ns)) H2):=by
 intro pins s σ H Q I h
 refine r6 (eZ I hg hm PyProof.Rows.boot_max ?_ (by decide) (by decide))
 refine PyProof.Rows.callWith_kw (cP ((fN he ip (by rw[hs];rfl)) pos pins s σ H (λ vs H1=>match vs with|[x]=>tc σ H1 (λ y H2=>∃(l:Addr) (ns:List Int) (d:Int),x=.ref l/\y=.int d/\du X.K H2 l (ns.map V.int)/\Q (.int (gZ d ns)) H2)|_=>False) I h) λ us s1 ⟨vs,H1,I1,r1,q1⟩=>?_) jN gI
 cases vs with
 |nil=>exact q1.elim
 |cons x vs=>
  cases vs with
  |cons _ _=>exact q1.elim
  |nil=>
  refine cP ((wW hd Bj) pos pins s1 σ H1 (λ vs H2=>match vs with|[y]=>∃(l:Addr) (ns:List Int) (d:Int),x=.ref l/\y=.int d/\du X.K H2 l (ns.map V.int)/\Q (.int (gZ d ns)) H2|_=>False) I1 q1) λ ws s2 ⟨zs,H2,I2,rz,e2⟩=>?_
  cases zs with
  |nil=>exact e2.elim
  |cons y zs=>
   cases zs with
   |cons _ _=>exact e2.elim
   |nil=>
   obtain⟨l,ns,d,rfl,rfl,hl,q⟩:=e2
   obtain⟨u,rfl,ru⟩:=vals1 r1
   obtain⟨v,rfl,t,rfl⟩:=vals1 rz
   cases(show u=Value.ref l from ru)
   obtain⟨au,rv,pl,hz⟩:=I2.list hl
   refine zt (I2.ok.hd hc) pl.isList (intsAre_of rv) (λ e h' tk hk=>?_) (λ m t h' tk m1 m2 hk=>?_)
   ·subst e
    exact⟨.int d,H2,I2.kept (t':=tk) hk,⟨_,rfl⟩,q⟩
   ·rw[F_ m1 m2]at q
    exact⟨.int m,H2,I2.kept (t':=tk) hk,⟨_,rfl⟩,q⟩
end
end L2
namespace L3
open PySem PySem.Spec L2 L5 PyProof.Rows
def Aq(k:Int)(wi:lh)(g:fX)(tt:eJ)(te:bV)(n:Nat)(fr:List Nat):bV:=λ δ M Q=>fL wi g tt te n fr δ M λ ds M'=>∃ns:List Int,ds=ns.map D.int/\Q (.int (gZ k ns)) M'
def CV(k:Int)(d:D)(M:Mem)(Q:bD):Prop:=∃(l:Addr) (ns:List Int),d=.ref l/\M l=some (.lst (ns.map D.int))/\Q (.int (gZ k ns)) M
def Ap(k:Int)(te:bV):bV:=λ δ M Q=>te δ M λ d M1=>CV k d M1 Q
section
variable {X:Cx}{scope:Scope}{tgs:List Str}{fr:List Nat}{tg elt iter e:Expr}{ifs:List Expr}{p pos kp bJ Cj:Pos}{wi:lh}{g:fX}{tt:eJ}{te:bV}{k:Int}{j:_}
theorem J7(hc:X.calm=true)(hg:Gl X "max")(hm:X.mg "max"=none)(C:iC X scope tgs fr tg iter ifs elt wi g tt te)
  (hs:∀x,foldedSetIterable iter X.env x=pure x:=by intro _;rfl)
  (Gw:starEach [.ListComp elt [⟨tg,iter,ifs,0⟩] scope bJ] X.env=[(false,eval (.ListComp elt [⟨tg,iter,ifs,0⟩] scope bJ) X.env)]:=by rfl) (jN:backTo pos (starEach [.ListComp elt [⟨tg,iter,ifs,0⟩] scope bJ] X.env)=(false,eval (.ListComp elt [⟨tg,iter,ifs,0⟩] scope bJ) X.env)::backTo pos (starEach [] X.env):=by rfl)
  (gI:(backTo pos (starEach [.ListComp elt [⟨tg,iter,ifs,0⟩] scope bJ] X.env)).any (·.1)=false:=by rfl):
  QE X (.Call (.Name "max" p) [.ListComp elt [⟨tg,iter,ifs,0⟩] scope bJ] [⟨some "default",.Constant (.int k) j Cj,kp⟩] pos) (Aq k wi g tt te tgs.length fr):=by
 obtain⟨B,ze,hE,hi,⟨gv,CD,gk,gl⟩,ht,he⟩:=C
 refine bO (wY hc hg hm (iU (tt:=wy X.K tt) (te:=up X.K te) B ze hE hi CD gk ht he hs) vi Gw jN gI) ?_
 rintro σ H Q ⟨δ,M,Q2,hs,hm,q,kk⟩
 show mq (Mv X.K wi) gv (wy X.K tt) (up X.K te) tgs.length fr σ H _
 refine fu gl hs hm q λ acc xs H' M' p s_ gf t' hz hp q'=>?_
 obtain⟨ns,rfl,q'⟩:=q'
 rw[cR s_]
 exact⟨p,ns,k,rfl,rfl,du.of br,kk _ _ (.int _) M' (ax.mpr rfl) (gf.laid hp) (t'.trans (av.laid hp)) q'⟩
theorem J6(hc:X.calm=true)(hg:Gl X "max")(hm:X.mg "max"=none)(he:QE X e te)
  (hs:starEach [e] X.env=[(false,eval e X.env)]:=by rfl) (jN:backTo pos (starEach [e] X.env)=(false,eval e X.env)::backTo pos (starEach [] X.env):=by rfl) (gI:(backTo pos (starEach [e] X.env)).any (·.1)=false:=by rfl):
  QE X (.Call (.Name "max" p) [e] [⟨some "default",.Constant (.int k) j Cj,kp⟩] pos) (Ap k te):=by
 refine bO (wY hc hg hm he vi hs jN gI) ?_
 rintro σ H Q ⟨δ,M,Q2,hs,hm,q,kk⟩
 refine⟨δ,M,_,hs,hm,q,λ x H1 d M1 hd bR t1 q1=>?_⟩
 obtain⟨l,ns,rfl,hM,q1⟩:=q1
 cases(aB.mp hd)
 obtain⟨ys,hy,hd2⟩:=bR l _ hM
 rw[cR hd2]at hy
 exact⟨l,ns,k,rfl,rfl,du.of hy,kk _ _ (.int _) M1 (ax.mpr rfl) bR t1 q1⟩
end
section
variable {δ:dq}{M:Mem}{Q:bD}{wi:lh}{g:fX}{tt:eJ}{te:bV}{n:Nat}{fr:List Nat}{k:Int}
theorem Et(h:fL wi g tt te n fr δ M λ ds M'=>∃ns:List Int,ds=ns.map D.int/\Q (.int (gZ k ns)) M'):Aq k wi g tt te n fr δ M Q:=h
theorem Es(h:te δ M λ d M1=>CV k d M1 Q):Ap k te δ M Q:=h
theorem AH{l:Addr}{ns:List Int}(hM:M l=some (.lst (ns.map D.int)))(q:Q (.int (gZ k ns)) M):CV k (.ref l) M Q:=⟨l,ns,rfl,hM,q⟩
end
end L3
namespace L4
open PySem PySem.Spec L2 L3 L5
section
variable {X:Cx}{scope:Scope}{tgs:List Str}{fr:List Nat}{tg elt iter e:Expr}{ifs:List Expr}{p pos kp bJ Cj:Pos}{wi:lh}{g:fX}{tt:eJ}{te:bV}{k:Int}{j:_}
theorem IC(hc:X.calm=true)(hg:Gl X "max")(hm:X.mg "max"=none)(C:eV X scope tgs fr tg iter ifs elt wi g tt te)
  (hs:∀x,foldedSetIterable iter X.env x=pure x:=by intro _;rfl)
  (Gw:starEach [.ListComp elt [⟨tg,iter,ifs,0⟩] scope bJ] X.env=[(false,eval (.ListComp elt [⟨tg,iter,ifs,0⟩] scope bJ) X.env)]:=by rfl) (jN:backTo pos (starEach [.ListComp elt [⟨tg,iter,ifs,0⟩] scope bJ] X.env)=(false,eval (.ListComp elt [⟨tg,iter,ifs,0⟩] scope bJ) X.env)::backTo pos (starEach [] X.env):=by rfl)
  (gI:(backTo pos (starEach [.ListComp elt [⟨tg,iter,ifs,0⟩] scope bJ] X.env)).any (·.1)=false:=by rfl):
  WE X (.Call (.Name "max" p) [.ListComp elt [⟨tg,iter,ifs,0⟩] scope bJ] [⟨some "default",.Constant (.int k) j Cj,kp⟩] pos) (Aq k wi g tt te tgs.length fr):=⟨J7 hc hg hm C.h hs Gw jN gI⟩
theorem IB(hc:X.calm=true)(hg:Gl X "max")(hm:X.mg "max"=none)(he:WE X e te)
  (hs:starEach [e] X.env=[(false,eval e X.env)]:=by rfl) (jN:backTo pos (starEach [e] X.env)=(false,eval e X.env)::backTo pos (starEach [] X.env):=by rfl) (gI:(backTo pos (starEach [e] X.env)).any (·.1)=false:=by rfl):
  WE X (.Call (.Name "max" p) [e] [⟨some "default",.Constant (.int k) j Cj,kp⟩] pos) (Ap k te):=⟨J6 hc hg hm he.h hs jN gI⟩
end
end L4
namespace L3
open PySem PySem.Spec L2 L5 PyProof.Rows
def Ih(R:Src->Mem->Prop)(ds:List D)(M1:Mem):Prop:=match ds with
 |[.tup xs]=>R (.fix (eR xs)) M1
 |[x]=>(∃zs,cQ M1 x=some zs)/\R (.fn (tx x)) M1
 |_=>False
theorem AM{ta:iy}{δ:dq}{M:Mem}{R:Src->Mem->Prop}(h:ta δ M (Ih R)):Cc ta δ M R:=h
theorem AN{xs:List D}{M:Mem}{R:Src->Mem->Prop}(h:R (.fix (eR xs)) M):Ih R [.tup xs] M:=h
def MY(R:Src->Mem->Prop)(ds:List D)(M1:Mem):Prop:=match ds with
 |[.tup xs,.tup ys]=>R (.fix (hX xs ys)) M1
 |[x,y]=>(∃zs,kI x y M1=some zs)/\R (.fn (kI x y)) M1
 |_=>False
theorem Eb{ta:iy}{δ:dq}{M:Mem}{R:Src->Mem->Prop}(h:ta δ M (MY R)):Ca ta δ M R:=h
theorem Ay{xs ys:List D}{M:Mem}{R:Src->Mem->Prop}(h:R (.fix (hX xs ys)) M):MY R [.tup xs,.tup ys] M:=h
section
variable {g:fX}{tt:eJ}{te:bV}{δ δc:dq}{M1:Mem}{Qe:List D->Mem->Prop}
abbrev UW{α:Type}(enc:α->D)(p:α×Nat):D:=.tup [.int (p.2:Int),enc p.1]
theorem Ha{α:Type}{xs:List α}{enc:α->D}(out:α×Nat->D)(hn:xs.length<=10000)
  (hs:∀(i:Nat) (x:α) (N:D->Mem->Prop),xs[i]?=some x->N (out (x,i)) M1->g (UW enc (x,i)) δc M1 λ δ2 M2=>te δ2 M2 N)
  (hd:Qe (xs.zipIdx.map out) M1):
  ∃(B:Nat) (W:Nat->List D->Mem->Prop),W 0 [] M1/\∀i acc M,W i acc M->i<=B/\acc.length<=sizeLine/\match items (.fix (eR (xs.map enc))) M with
   |none=>False
   |some ds=>match ds[i]? with
    |none=>i=ds.length/\Qe acc M
    |some d=>g d δc M λ δ2 M2=>pC δ2 M2 λ b M3=>if b=true then te δ2 M3 λ y M4=>W (i+1) (acc++[y]) M4 else W (i+1) acc M3:=by
 rw[CM]
 refine eT (xs:=xs.zipIdx) (enc:=UW enc) out (by rw[length_zipIdx];exact hn) (λ i x N hx hN=>?_) hd
 rw[getElem?_zipIdx]at hx
 cases e:xs[i]? with
 |none=>rw[e]at hx;cases hx
 |some y=>
  rw[e]at hx
  have:(y,0+i)=x:=A9 hx
  rw[Nat.zero_add]at this
  subst this
  exact hs i y N e hN
end
end L3
namespace L2
open PySem PySem.Spec PyProof.Rows
section
variable {X:Cx}
def Se(K:PySem.W.Frag)(x y:V)(H:Hp)(Q:Bool->Prop):Prop:=(∃a o,y=.ref a/\nZ H a x o/\Q o.isSome)\/∃a b kvs k,y=.ref a/\x=.ref b/\nF K H a kvs/\k.dep<=5/\gF K H k (.ref b)/\Q (iJ kvs k).isSome
theorem FC(neg:Bool)(hu:X.A.units+64 < cLine):fb X (compareOp (if neg then .NotIn else .In)) (λ x y H Q=>Se X.K x y H λ b=>Q (.bl (if neg then !b else b)) H):=by
 intro pins s σ H x y v u Q I rx ry h
 rcases h with⟨a,o,rfl,g,q⟩|⟨a,b,kvs,k,rfl,rfl,d,hk,uA,q⟩
 ·cases(show u=Value.ref a from ry)
  cases neg with
  |false=>exact TX (by omega) I g rx λ s3 I3=>⟨.bl o.isSome,H,I3,rfl,q⟩
  |true=>exact GV (by omega) I g rx λ s3 I3=>⟨.bl (!o.isSome),H,I3,rfl,q⟩
 ·cases(show u=Value.ref a from ry)
  cases(show v=Value.ref b from rx)
  cases neg with
  |false=>exact RE hu I d hk uA λ s3 I3=>⟨.bl (iJ kvs k).isSome,H,I3,rfl,q⟩
  |true=>exact DQ hu I d hk uA λ s3 I3=>⟨.bl (!(iJ kvs k).isSome),H,I3,rfl,q⟩
def NQ(K:PySem.W.Frag)(x y:V)(H:Hp)(Q:VK):Prop:=(∃a v,x=.ref a/\nZ H a y (some v)/\Q v H)\/∃a b kvs k v,x=.ref a/\y=.ref b/\nF K H a kvs/\k.dep<=5/\gF K H k (.ref b)/\iJ kvs k=some v/\Q v H
theorem Lr(hu:X.A.units+64 < cLine):wm X (λ x y H Q=>NQ X.K x y H Q):=by
 intro value slice pins s σ H x y v u Q I rx ry h hs
 rcases h with⟨a,w,rfl,g,q⟩|⟨a,b,kvs,k,w,rfl,rfl,d,hk,uA,g,q⟩
 ·cases(show v=Value.ref a from rx)
  refine tail_any (ops:=[.ref a,u]) (tI I g) PySem.F.slot_dict_getitem.lookup ?_ hs
  exact zl (by omega) I g ry λ w' s3 I3 uW=>⟨w,H,I3,uW,q⟩
 ·cases(show v=Value.ref a from rx)
  cases(show u=Value.ref b from ry)
  obtain⟨_,_,xs,_,dd⟩:=d.of I
  refine tail_any (ops:=[.ref a,.ref b]) dd.typeIs PySem.F.slot_dict_getitem.lookup ?_ hs
  exact yr hu I d hk uA g λ w' s3 I3 uW=>⟨w,H,I3,uW,q⟩
def NP(K:PySem.W.Frag):zA:=λ o i v H Q=>(∃a H',o=.ref a/\Dw H a i v H'/\Q H')\/∃a b kvs k,o=.ref a/\i=.ref b/\nF K H a kvs/\k.dep<=5/\gF K H k (.ref b)/\kvs.length < sizeLine/\Q (upd H a (nQ a (iS kvs k b v)))
theorem DZ(hu:X.A.units+64 < cLine):qJ X (NP X.K):=by
 intro pins s σ H o i v ov iv u Q I ro ri rv h
 rcases h with⟨a,H',rfl,g,q⟩|⟨a,b,kvs,k,rfl,rfl,d,hk,uA,hl,q⟩
 ·cases(show ov=Value.ref a from ro)
  exact zj (by omega) I g ri rv λ s3 I3=>⟨H',I3,q⟩
 ·cases(show ov=Value.ref a from ro)
  cases(show iv=Value.ref b from ri)
  exact yq hu I d hk uA hl rv λ s3 I3=>⟨_,I3,q⟩
theorem wc:dv X (.builtin "len") (λ xs H Q=>∃a,xs=[.ref a]/\((∃kvs,H a=some (.dK kvs)/\Q (.int kvs.length) H)\/∃kvs,H a=some (nQ a kvs)/\Q (.int kvs.length) H)):=by
 intro pins s σ H xs us Q I r h
 obtain⟨a,rfl,h⟩:=h
 obtain⟨u,rfl,ru⟩:=vals1 r
 cases(show u=Value.ref a from ru)
 rcases h with⟨kvs,e,q⟩|⟨kvs,e,q⟩
 ·exact Pl I (.inl e) λ t s' I'=>⟨.int kvs.length,H,I',⟨t,rfl⟩,q⟩
 ·exact Nb I e λ t s' I'=>⟨.int kvs.length,H,I',⟨t,rfl⟩,q⟩
end
end L2
namespace L3
open PySem PySem.Spec L2 L5 PyProof.Rows
noncomputable instance W3:DecidableEq D:=λ a b=>Classical.propDecidable (a=b)
noncomputable def eP (kvs:List (D×D))(k:D):Option D:=(kvs.find? λ p=>decide (p.1=k)).map (·.2)
noncomputable def putD (kvs:List (D×D))(k v:D):List (D×D):=if(eP kvs k).isSome=true then kvs.map (λ p=>if p.1=k then(p.1,v)else p)else kvs++[(k,v)]
def kC(t:Bool)(x:D):Prop:=match t with
 |false=>∃k:Key,x=nN k
 |true=>∃ks:List IK,x=kY (.t ks)/\(IK.t ks).dep<=5
def zC(K:PySem.W.Frag)(H:Hp):Option D->Option V->Prop
 |none,none=>True
 |some d,some v=>Dat K H d v
 |_,_=>False
section
variable {K:PySem.W.Frag}{H:Hp}
theorem Hk.look {kvs:List (D×D)}{xs:List (Key×V)}(h:Hk K H kvs xs)(k:Key):zC K H (eP kvs (nN k)) (ie xs k):=by
 induction h with
 |nil=>exact True.intro
 |@cons p q ps qs oM t ih=>
  obtain⟨h1,h2⟩:=oM
  unfold eP ie at ih ⊢
  by_cases e:q.1=k
  ·have e':p.1=nN k:=by rw[h1,e]
   simp only[A5,B8 e,B8 e',Option.map_some]
   exact h2
  ·have e':¬p.1=nN k:=λ z=>e (sP (h1.symm.trans z))
   simp only[A5,A6 e,A6 e']
   exact ih
theorem wo.look {kvs:List (D×D)}{xs:List eM}(h:wo K H kvs xs)(k:IK):zC K H (eP kvs (kY k)) (iJ xs k):=by
 induction h with
 |nil=>exact True.intro
 |@cons p q ps qs oM t ih=>
  obtain⟨h1,_,_,h2⟩:=oM
  unfold eP iJ at ih ⊢
  by_cases e:q.1=k
  ·have e':p.1=kY k:=by rw[h1,e]
   simp only[A5,B8 e,B8 e',Option.map_some]
   exact h2
  ·have e':¬p.1=kY k:=λ z=>e (qh (h1.symm.trans z))
   simp only[A5,A6 e,A6 e']
   exact ih
theorem zC.isSome {o:Option D}{u:Option V}(h:zC K H o u):o.isSome=u.isSome:=by
 cases o with
 |none=>cases u with
  |none=>rfl
  |some _=>exact(show False from h).elim
 |some _=>cases u with
  |none=>exact(show False from h).elim
  |some _=>rfl
theorem zC.some_of {d:D}{u:Option V}(h:zC K H (some d) u):∃v,u=some v/\Dat K H d v:=by
 cases u with
 |none=>exact(show False from h).elim
 |some v=>exact⟨v,rfl,h⟩
theorem wo.keys {a:Addr}{kvs:List (D×D)}{xs:List eM}(h:wo K H kvs xs)(e:H a=some (nQ a xs)):nF K H a xs:=by
 refine⟨e,?_⟩
 clear e
 induction h with
 |nil=>intro p hp;cases hp
 |@cons p q ps qs oM t ih=>
  intro x hx
  rcases C7.mp hx with rfl|hx
  ·obtain⟨h1,h2,h3,_⟩:=oM
   rw[h1]at h3
   exact⟨h2,jS _ h3⟩
  ·exact ih x hx
theorem Bb(xs:List (Key×V))(k:Key)(v:V):putK xs k v=if(ie xs k).isSome=true then xs.map (λ kv=>if kv.1=k then(kv.1,v)else kv)else xs++[(k,v)]:=by
 unfold putK
 rw[mf]
theorem Hk.put {kvs:List (D×D)}{xs:List (Key×V)}(h:Hk K H kvs xs)(k:Key){d:D}{v:V}(hd:Dat K H d v):Hk K H (putD kvs (nN k) d) (putK xs k v):=by
 rw[Bb]
 unfold putD
 rw[(h.look k).isSome]
 by_cases e:(ie xs k).isSome=true
 ·rw[J4 e,J4 e]
  clear e
  induction h with
  |nil=>exact .nil
  |@cons p q ps qs oM t ih=>
   rw[C6,C6]
   refine .cons ?_ ih
   obtain⟨h1,h2⟩:=oM
   by_cases e:q.1=k
   ·rw[J4 e,J4 (by rw[h1,e])];exact⟨h1,hd⟩
   ·rw[J5 e,J5 (λ z=>e (sP (h1.symm.trans z)))];exact⟨h1,h2⟩
 ·rw[J5 e,J5 e]
  exact Paired.snoc h ⟨rfl,hd⟩
theorem wo.put {kvs:List (D×D)}{xs:List eM}(h:wo K H kvs xs)(k:IK){b:Addr}{d:D}{v:V}(hk:k.dep<=5)(hb:Dat K H (kY k) (.ref b))(hd:Dat K H d v):wo K H (putD kvs (kY k) d) (iS xs k b v):=by
 unfold putD iS
 rw[(h.look k).isSome]
 by_cases e:(iJ xs k).isSome=true
 ·rw[J4 e,J4 e]
  clear e
  induction h with
  |nil=>exact .nil
  |@cons p q ps qs oM t ih=>
   rw[C6,C6]
   refine .cons ?_ ih
   obtain⟨h1,h2,h3,h4⟩:=oM
   by_cases e:q.1=k
   ·rw[J4 e,J4 (by rw[h1,e])];exact⟨h1,h2,h3,hd⟩
   ·rw[J5 e,J5 (λ z=>e (qh (h1.symm.trans z)))];exact⟨h1,h2,h3,h4⟩
 ·rw[J5 e,J5 e]
  exact Paired.snoc h ⟨rfl,hk,hb,hd⟩
end
section
variable {X:Cx}
def Pw(neg:Bool):fA:=λ x y M Q=>∃a t kvs,y=.ref a/\M a=some (.dr t kvs)/\kC t x/\Q (.bl (if neg then !(eP kvs x).isSome else(eP kvs x).isSome)) M
theorem lr{K:PySem.W.Frag}{H:Hp}{ks:List IK}{v:V}(h:Dat K H (kY (.t ks)) v):∃b,v=.ref b:=by
 unfold kY at h
 obtain⟨p,xs,rfl,_⟩:=aM.mp h
 exact⟨p,rfl⟩
theorem K0(neg:Bool)(hu:X.A.units+64 < cLine):fB X (compareOp (if neg then .NotIn else .In)) (Pw neg):=⟨_,FC neg hu,λ x y d e H M Q2 Q hd he hm q k=>by
 obtain⟨a,t,kvs,rfl,hM,ok,q⟩:=q
 cases(aB.mp he)
 have hr:=hm a _ hM
 cases t with
 |false=>
  obtain⟨xs,hx,rel⟩:=hr
  obtain⟨kk,rfl⟩:=ok
  rw[qq hd]
  refine .inl ⟨a,_,rfl,nZ.k hx,k _ H _ M (aN.mpr rfl) hm (av.refl H) ?_⟩
  rw[<- (rel.look kk).isSome]
  exact q
 |true=>
  obtain⟨xs,hx,rel⟩:=hr
  obtain⟨ks,rfl,je⟩:=ok
  obtain⟨b,rfl⟩:=lr hd
  refine .inr ⟨a,b,xs,_,rfl,rfl,rel.keys hx,je,jS _ hd,k _ H _ M (aN.mpr rfl) hm (av.refl H) ?_⟩
  rw[<- (rel.look _).isSome]
  exact q⟩
def xK:fA:=λ x y M Q=>xM x y M Q\/Pw true x y M Q
theorem mK(hu:X.A.units+64 < cLine):fB X (compareOp .NotIn) xK:=(By hu).or (K0 true hu)
def Px:fA:=λ x y M Q=>∃a t kvs d,x=.ref a/\M a=some (.dr t kvs)/\kC t y/\eP kvs y=some d/\Q d M
def L1:fA:=λ x y M Q=>L6 x y M Q\/Px x y M Q
theorem Hm(hu:X.A.units+64 < cLine):PU X L1:=by
 obtain⟨r,h1,h2⟩:=(L3.bo:PU X L6)
 refine⟨_,h1.or (Lr hu),λ x y d e H M Q2 Q hd he hm q k=>?_⟩
 rcases q with q|⟨a,t,kvs,w,rfl,hM,ok,hl,q⟩
 ·exact .inl (h2 x y d e H M Q2 Q hd he hm q k)
 ·cases(aB.mp hd)
  have hr:=hm a _ hM
  cases t with
  |false=>
   obtain⟨xs,hx,rel⟩:=hr
   obtain⟨kk,rfl⟩:=ok
   have hv:=rel.look kk
   rw[hl]at hv
   obtain⟨v,e1,e2⟩:=hv.some_of
   rw[qq he]
   exact .inr (.inl ⟨a,v,rfl,by rw[<- e1];exact nZ.k hx,k _ H _ M e2 hm (av.refl H) q⟩)
  |true=>
   obtain⟨xs,hx,rel⟩:=hr
   obtain⟨ks,rfl,je⟩:=ok
   have hv:=rel.look (.t ks)
   rw[hl]at hv
   obtain⟨v,e1,e2⟩:=hv.some_of
   obtain⟨b,rfl⟩:=lr he
   exact .inr (.inr ⟨a,b,xs,_,v,rfl,rfl,rel.keys hx,je,jS _ he,e1,k _ H _ M e2 hm (av.refl H) q⟩)
def Pu:jr:=λ o i v M N=>∃a t kvs,o=.ref a/\M a=some (.dr t kvs)/\kC t i/\kvs.length < sizeLine/\N (ak M a (.dr t (putD kvs i v)))
def Il:jr:=λ o i v M N=>GY o i v M N\/Pu o i v M N
theorem qJ.or {t u:zA}(h:qJ X t)(g:qJ X u):qJ X (λ o i v H Q=>t o i v H Q\/u o i v H Q):=by
 intro pins s σ H o i v ov iv uu Q I ro ri rv q
 rcases q with q|q
 ·exact h pins s σ H o i v ov iv uu Q I ro ri rv q
 ·exact g pins s σ H o i v ov iv uu Q I ro ri rv q
theorem uS(hu:X.A.units+64 < cLine):Du X Il:=by
 obtain⟨r,h1,h2⟩:=(j_:Du X GY)
 refine⟨_,qJ.or h1 (DZ hu),λ o i v d j e H M Q2 Q hd hj he hm q k=>?_⟩
 rcases q with q|⟨a,t,kvs,rfl,hM,ok,hl,q⟩
 ·exact .inl (h2 o i v d j e H M Q2 Q hd hj he hm q k)
 ·cases(aB.mp hd)
  have hr:=hm a _ hM
  cases t with
  |false=>
   obtain⟨xs,hx,rel⟩:=hr
   obtain⟨kk,rfl⟩:=ok
   rw[qq hj]
   have t:=av.mut (o:=.dK (putK xs kk v)) hx (λ _ z=>by cases z) (λ _ _ z=>by cases z)
   refine .inr (.inl ⟨a,_,rfl,Dw.k hx (by rw[<- C4 rel];exact hl),k _ _ (hm.put (u:=.dr false (putD kvs (nN kk) e)) t ⟨_,br,(rel.put kk he).mono t⟩) t q⟩)
  |true=>
   obtain⟨xs,hx,rel⟩:=hr
   obtain⟨ks,rfl,je⟩:=ok
   obtain⟨b,rfl⟩:=lr hj
   have t:=av.mut (o:=nQ a (iS xs (.t ks) b v)) hx (λ _ z=>by cases z) (λ _ _ z=>by cases z)
   refine .inr (.inr ⟨a,b,xs,_,rfl,rfl,rel.keys hx,je,jS _ hj,by rw[<- C4 rel];exact hl,k _ _ (hm.put (u:=.dr true (putD kvs (kY (.t ks)) e)) t ⟨_,br,(rel.put (.t ks) je hj he).mono t⟩) t q⟩)
def Im:List D->Mem->bD->Prop:=λ xs M Q=>zo xs M Q\/∃a t kvs,xs=[.ref a]/\M a=some (.dr t kvs)/\Q (.int (kvs.length:Nat)) M
theorem Dj:cU X (.builtin "len") Im:=by
 obtain⟨r,h1,h2⟩:=(L3.gO:cU X (.builtin "len") zo)
 refine⟨_,h1.or wc,λ xs ds H M Q2 Q hd hm q k=>?_⟩
 rcases q with q|⟨a,t,kvs,rfl,hM,q⟩
 ·exact .inl (h2 xs ds H M Q2 Q hd hm q k)
 ·obtain⟨x,r,rfl,hx,hr⟩:=ai.mp hd
  cases(ao.mp hr)
  cases(aB.mp hx)
  have hr:=hm a _ hM
  cases t with
  |false=>
   obtain⟨xs,hx,rel⟩:=hr
   exact .inr ⟨a,rfl,.inl ⟨xs,hx,by rw[<- C4 rel];exact k _ H _ M (ax.mpr rfl) hm (av.refl H) q⟩⟩
  |true=>
   obtain⟨xs,hx,rel⟩:=hr
   exact .inr ⟨a,rfl,.inr ⟨xs,hx,by rw[<- C4 rel];exact k _ H _ M (ax.mpr rfl) hm (av.refl H) q⟩⟩
def HA(t:Bool):bV:=λ _ M Q=>∀p,M p=none->Q (.ref p) (ak M p (.dr t []))
theorem J8(t:Bool){pos:Pos}:QE X (.Dict [] [] pos) (HA t):=by
 cases t with
 |false=>
  refine bO Bo λ σ H Q ⟨δ,M,Q2,hs,hm,q,k⟩ p hp=>?_
  exact k _ _ (.ref p) _ (aB.mpr rfl) (hm.put (u:=.dr false []) (av.laid hp) ⟨[],br,.nil⟩) (av.laid hp) (q p (hm.free hp))
 |true=>
  refine bO Bp λ σ H Q ⟨δ,M,Q2,hs,hm,q,k⟩ p hp=>?_
  exact k _ _ (.ref p) _ (aB.mpr rfl) (hm.put (u:=.dr true []) (av.laid hp) ⟨[],br,.nil⟩) (av.laid hp) (q p (hm.free hp))
end
end L3
namespace L4
open PySem PySem.Spec L2 L3 L5
theorem zR{X:Cx}(t:Bool){pos:Pos}:WE X (.Dict [] [] pos) (HA t):=⟨J8 t⟩
end L4
namespace L2
open PySem PySem.Spec PySem.W PyProof.Rows L5
section
variable {X:Cx}
theorem x_.vals {kvs:List eM}{xs:List (IK×Addr×Value)}(r:x_ kvs xs):Vals (kvs.map λ p=>V.ref p.2.1) ((xs.map Pe).map (·.key)):=by
 induction r with
 |nil=>exact .nil
 |@cons p q ps qs h t ih=>
  refine .cons ?_ ih
  show Value.ref q.2.1=Value.ref p.2.1
  rw[h.2.1]
theorem uc(hh:X.A.handled=none):dv X (.type "list") (λ xs H Q=>∃a kvs,xs=[.ref a]/\H a=some (nQ a kvs)/\∀l,H l=none->Q (.ref l) (upd H l (.lst (kvs.map λ p=>V.ref p.2.1)))):=by
 intro pins s σ H xs us Q I r h
 obtain⟨a,kvs,rfl,e,q⟩:=h
 obtain⟨u,rfl,rx⟩:=vals1 r
 cases(show u=Value.ref a from rx)
 obtain⟨⟨z,y,xs,rel,o,es,ep,h1,h2,h3,h4,h5⟩,_,_⟩:=(show bL X.prog X.w H s.heap a (nQ a kvs)from I.bN a _ e)
 have e1:es.size=kvs.length:=by rw[<- n9,h4,B4];exact(C4 rel).symm
 refine kdl_call (wO y) hh (⟨o,h1,h2,h3⟩:Raw s.heap a es ep) (by rw[e1];exact z) λ h' tk acc c' kp hD it=>?_
 have ea:=oz it
 rw[h4]at ea
 exact⟨.ref s.heap.objs.size,_,I.laid (t':=tk) kp (E1 _) (show bL X.prog X.w _ h' _ (.lst _)from⟨by rw[B4];exact z,acc.toList,c',by rw[ea];exact rel.vals,by rw[Array.toArray_toList];exact hD⟩),rfl,q _ (I.bN.fresh (E1 _))⟩
theorem Bq{k v:Expr}{tk tv:TE}{pos:Pos}(hu:X.A.units+64 < cLine)(hk:PE X k tk)(hv:PE X v tv):PE X (.Dict [some k] [v] pos) (λ σ H Q=>∀p,H p=none->tk σ (upd H p (nQ p [])) λ x H1=>tv σ H1 λ y H2=>∃b ik,x=.ref b/\H2 p=some (nQ p [])/\ik.dep<=5/\gF X.K H2 ik (.ref b)/\Q (.ref p) (upd H2 p (nQ p (iS [] ik b y)))):=by
 intro pins s σ H Q I h
 refine wpAny_Dict_any rfl rfl (by simp) (by simp) ?_
 have I0:=I.laid (a:=s.heap.objs.size) (o:=nQ s.heap.objs.size []) (t':=s.toks) (λ _ _ q=>k4 _ q) (E1 _) (qp (xD s.heap I.big))
 refine pairTrees_cons_walk (cP (hk pins _ σ _ _ I0 (h _ (I.bN.fresh (E1 _)))) λ kv s1 ⟨x,H1,I1,r1,q1⟩=>cP (hv pins s1 σ H1 _ I1 q1) λ vv s2 ⟨y,H2,I2,r2,q2⟩=>pairTrees_nil_walk ?_)
 obtain⟨b,ik,rfl,hp,hd,uA,q⟩:=q2
 cases(show kv=Value.ref b from r1)
 generalize s.heap.objs.size=p at*
 obtain⟨z,nm,xs,rel,dd⟩:=nF.of I2 (kvs:=[]) ⟨hp,λ _ z=>by cases z⟩
 cases rel
 have sY:(iS [] ik b y).length<=sizeLine:=by have:=rR [] ik b y;exact D9 this (by decide)
 unfold storeAll
 rw[forIn_cons]
 refine E9 (E9 (wpAny_dictSet_heap (knd:=iK X.prog X.w) (hsz:=E3 _) (show X.A.units+8 < cLine by omega) ⟨hd,mQ I2 ik uA rfl⟩ dd λ h' Ij hs=>G0 ?_))
 dsimp only
 rw[forIn_nil]
 obtain⟨q',es,ep,hq,h2,h3,h4,_,h5⟩:=Ij
 exact G0 ⟨.ref p,_,lT I2 (by rw[hp];exact True.intro) hs ⟨q',hq⟩ (qp ⟨sY,nm,_,x_.put .nil ik r2,q',es,ep,hq,h2,h3,h4,h5⟩),rfl,q⟩
end
end L2
namespace L3
open PySem PySem.Spec L2 L5 PyProof.Rows
section
variable {X:Cx}
theorem wo.ks {K:PySem.W.Frag}{H:Hp}{kvs:List (D×D)}{xs:List eM}(h:wo K H kvs xs):aD K H (kvs.map (·.1)) (xs.map λ p=>V.ref p.2.1):=by
 induction h with
 |nil=>exact ao.mpr rfl
 |@cons p q ps qs oM t ih=>exact ai.mpr ⟨_,_,rfl,oM.2.2.1,ih⟩
def CW:List D->Mem->bD->Prop:=λ xs M Q=>dList xs M Q\/∃a kvs,xs=[.ref a]/\M a=some (.dr true kvs)/\∀p,M p=none->Q (.ref p) (ak M p (.lst (kvs.map (·.1))))
theorem qC(hh:X.A.handled=none):cU X (.type "list") CW:=by
 obtain⟨r,h1,h2⟩:=(L3.Di:cU X (.type "list") dList)
 refine⟨_,h1.or (uc hh),λ xs ds H M Q2 Q hd hm q k=>?_⟩
 rcases q with q|⟨a,kvs,rfl,hM,q⟩
 ·exact .inl (h2 xs ds H M Q2 Q hd hm q k)
 ·obtain⟨x,r,rfl,hx,hr⟩:=ai.mp hd
  cases(ao.mp hr)
  cases(aB.mp hx)
  obtain⟨xs,hx,rel⟩:=hm a _ hM
  exact .inr ⟨a,xs,rfl,hx,λ l hl=>k _ _ (.ref l) _ (aB.mpr rfl) (hm.put (u:=.lst _) (av.laid hl) ⟨_,br,aD.mono (av.laid hl) _ rel.ks⟩) (av.laid hl) (q l (hm.free hl))⟩
def As(tk tv:bV):bV:=λ δ M Q=>∀p,M p=none->tk δ (ak M p (.dr true [])) λ x M1=>tv δ M1 λ y M2=>M2 p=some (.dr true [])/\kC true x/\Q (.ref p) (ak M2 p (.dr true [(x,y)]))
theorem Fc{k v:Expr}{tk tv:bV}{pos:Pos}(hu:X.A.units+64 < cLine)(hk:QE X k tk)(hv:QE X v tv):QE X (.Dict [some k] [v] pos) (As tk tv):=by
 refine bO (Bq hu hk hv) ?_
 rintro σ H Q ⟨δ,M,Q2,hs,hm,q,k⟩ p hp
 have t0:av H (upd H p (nQ p [])):=av.laid hp
 refine⟨δ,ak M p (.dr true []),_,hs.mono t0,hm.put (u:=.dr true []) t0 ⟨[],br,.nil⟩,q p (hm.free hp),λ x H1 d M1 hd bR t1 q1=>?_⟩
 refine⟨δ,M1,_,(hs.mono t0).mono t1,bR,q1,λ y H2 e M2 he ux t2 q2=>?_⟩
 obtain⟨gT,⟨ks,rfl,je⟩,q2⟩:=q2
 have hd2:=Dat.mono t2 _ hd
 obtain⟨b,rfl⟩:=lr hd2
 obtain⟨xs,hx,rel⟩:=ux p _ gT
 cases rel
 have t:=av.mut (o:=nQ p (iS [] (.t ks) b y)) hx (λ _ z=>by cases z) (λ _ _ z=>by cases z)
 exact⟨b,.t ks,rfl,hx,je,jS _ hd2,k _ _ _ _ (aB.mpr rfl) (ux.put (u:=.dr true [(kY (.t ks),e)]) t ⟨_,br,((wo.put (kvs:=[]) .nil (.t ks) je hd2 he):wo X.K H2 [(kY (.t ks),e)] (iS [] (.t ks) b y)).mono t⟩) ((t0.trans t1).trans (t2.trans t)) q2⟩
end
section
variable {Q:bD}{M:Mem}{a:Addr}{kvs:List (D×D)}{x y v d:D}{t:Bool}{N:Mem->Prop}{xs:List D}
theorem jG(h:M a=some (.dr t kvs))(hk:kC t x)(q:Q (.bl (!(eP kvs x).isSome)) M):xK x (.ref a) M Q:=.inr ⟨a,t,kvs,rfl,h,hk,q⟩
theorem Ey(h:L6 x y M Q):L1 x y M Q:=.inl h
theorem Jw(h:M a=some (.dr t kvs))(hk:kC t x)(e:eP kvs x=some d)(q:Q d M):L1 (.ref a) x M Q:=.inr ⟨a,t,kvs,d,rfl,h,hk,e,q⟩
theorem pH(h:M a=some (.dr t kvs))(hk:kC t x)(hl:kvs.length < sizeLine)(q:N (ak M a (.dr t (putD kvs x v)))):Il (.ref a) x v M N:=.inr ⟨a,t,kvs,rfl,h,hk,hl,q⟩
theorem wL(h:M a=some (.dr t kvs))(q:Q (.int (kvs.length:Nat)) M):Im [.ref a] M Q:=.inr ⟨a,t,kvs,rfl,h,q⟩
theorem mE(h:M a=some (.dr true kvs))(q:∀p,M p=none->Q (.ref p) (ak M p (.lst (kvs.map (·.1))))):CW [.ref a] M Q:=.inr ⟨a,kvs,rfl,h,q⟩
end
end L3
namespace L4
open PySem PySem.Spec L2 L3 L5
theorem DK{X:Cx}{k v:Expr}{tk tv:bV}{pos:Pos}(hu:X.A.units+64 < cLine)(hk:WE X k tk)(hv:WE X v tv):WE X (.Dict [some k] [v] pos) (As tk tv):=⟨Fc hu hk.h hv.h⟩
end L4
namespace L3
open PySem PySem.Spec L2 L5 PyProof.Rows
inductive MU(K:PySem.W.Frag)(H:Hp):List V->List PyData->Prop
 |nil:MU K H [] []
 |cons {x:V} {a:PyData} {xs:List V} {as:List PyData}:Mr K H x a->MU K H xs as->MU K H (x::xs) (a::as)
theorem lay_ints:∀hs:List Int,PyData.canLayAll0 (hs.map PyData.int)=true
 |[]=>by simp[PyData.canLayAll0]
 |h::hs=>by rw[C6,PyData.canLayAll0,lay_ints hs];simp[PyData.canLay0]
theorem tJ:∀hs:List Int,PyData.depthAll (hs.map PyData.int)=0
 |[]=>by simp[PyData.depthAll]
 |h::hs=>by rw[C6,PyData.depthAll,tJ hs];simp[PyData.depth]
section
variable {X:Cx}
theorem yE{pins:List (Addr×Obj)}{σ:L2.St}{H:Hp}{s:Shared}(I:Inv X pins σ H s){xs:List V}{as:List PyData}(h:MU X.K H xs as):∀{us:List Value},Vals xs us->∃rs,ReadsAll s.heap us as rs:=by
 induction h with
 |nil=>
  intro us r
  cases r
  exact⟨_,ReadsAll.nil⟩
 |cons h1 h2 ih=>
  intro us r
  cases r with
  |cons r1 r2=>
   obtain⟨a,ra⟩:=dZ I h1 r1
   obtain⟨b,rb⟩:=ih r2
   exact⟨_,ReadsAll.cons ra rb⟩
theorem KA(hu:X.A.units+64 < cLine):fb X (compareOp .NotEq) (λ x y H Q=>∃p b xs as,x=.ref p/\y=.ref b/\du X.K H p xs/\du X.K H b []/\MU X.K H xs as/\SeqAt.shaped (.list as)=true/\Q (.bl (!as.isEmpty)) H):=by
 intro pins s σ H x y v u Q I rx ry h
 obtain⟨p,b,xs,as,rfl,rfl,hp,hb,hy,sh,q⟩:=h
 cases(show v=Value.ref p from rx)
 obtain⟨au,rv,pl,_⟩:=I.list hp
 obtain⟨o,ho,hc,m,s_⟩:=pl.isList
 obtain⟨rs,ra⟩:=yE I hy rv
 obtain⟨Xy,rb⟩:=dZ I (x:=.ref b) (a:=.list []) (.inr ⟨b,[],[],rfl,hb,ao.mpr rfl,rfl,rfl⟩) ry
 have e:PyData.eqv (.list as) (.list [])=as.isEmpty:=by cases as <;> simp[PyData.eqv,PyData.eqvAll]
 rw[<- e]at q
 exact ne_dataH (reads_list_at ho hc s_ ra) rb sh (by decide) hu ⟨.bl (!PyData.eqv (.list as) (.list [])),H,I,rfl,q⟩
def Pq:fA:=λ x y M Q=>∃(a b:Addr) (qs:List Addr),x=.ref a/\y=.ref b/\M a=some (.lst (qs.map D.ref))/\M b=some (.lst [])/\(∀q∈qs,∃hs:List Int,M q=some (.lst (hs.map D.int)))/\Q (.bl (!qs.isEmpty)) M
theorem Ba{K:PySem.W.Frag}{H:Hp}{M:Mem}(hm:RelM K H M):∀{qs:List Addr} {xs:List V},aD K H (qs.map D.ref) xs->(∀q∈qs,∃hs:List Int,M q=some (.lst (hs.map D.int)))->∃as,MU K H xs as/\as.isEmpty=qs.isEmpty/\PyData.canLayAll0 as=true/\PyData.depthAll as<=2
 |[],xs,h,_=>by
  cases(ao.mp h)
  exact⟨[],.nil,rfl,by simp[PyData.canLayAll0],by simp[PyData.depthAll]⟩
 |q::qs,xs,h,k=>by
  obtain⟨x,r,rfl,hx,hr⟩:=ai.mp h
  obtain⟨as,h1,_,h3,h4⟩:=Ba hm hr λ q hq=>k q (m3 _ hq)
  obtain⟨hs,hq⟩:=k q (o8 ..)
  have e:rQ M (.ref q)=some (.list (hs.map PyData.int)):=by
   unfold rQ
   simp only[hq]
   rw[J4 (iW hs),toPs_ints]
  refine⟨_::as,.cons (iR e hx hm) h1,rfl,?_,?_⟩
  ·rw[PyData.canLayAll0,h3]
   simp[PyData.canLay0,lay_ints]
  ·rw[PyData.depthAll]
   simp only[PyData.depth,tJ]
   omega
theorem Om(hu:X.A.units+64 < cLine):fB X (compareOp .NotEq) Pq:=⟨_,KA hu,λ x y d e H M Q2 Q hd he hm q k=>by
 obtain⟨a,b,qs,rfl,rfl,hM,hb,hq,q⟩:=q
 cases(aB.mp hd)
 cases(aB.mp he)
 obtain⟨xs,hx,Ra⟩:=hm a _ hM
 obtain⟨ys,hy,V9⟩:=hm b _ hb
 cases(ao.mp V9)
 obtain⟨as,h1,h2,h3,h4⟩:=Ba hm Ra hq
 refine⟨a,b,xs,as,rfl,rfl,.inl (.inl hx),.inl (.inl hy),h1,?_,?_⟩
 ·unfold SeqAt.shaped
  rw[z9,s9]
  exact⟨by simp only[PyData.canLay0];exact h3,by simp only[PyData.depth];omega⟩
 ·rw[h2]
  exact k _ H _ M (aN.mpr rfl) hm (av.refl H) q⟩
end
theorem Jq{M:Mem}{Q:bD}{a b:Addr}{qs:List Addr}(ha:M a=some (.lst (qs.map D.ref)))(hb:M b=some (.lst []))(hq:∀q∈qs,∃hs:List Int,M q=some (.lst (hs.map D.int)))(q:Q (.bl (!qs.isEmpty)) M):Pq (.ref a) (.ref b) M Q:=⟨a,b,qs,rfl,rfl,ha,hb,hq,q⟩
end L3
namespace KK
open PySem L3 L4 L5
open L2 hiding bo pB
abbrev Row:=List Int
inductive ju(nx:Row->List Row)(a:Row):Row->Prop
 |base:ju nx a a
 |step {b c:Row}:ju nx a b->c∈nx b->ju nx a c
theorem ju.closed {nx:Row->List Row}{a b:Row}{U:Row->Prop}(h:ju nx a b)(h0:U a)(hc:∀b c,U b->c∈nx b->U c):U b:=by
 induction h with
 |base=>exact h0
 |step _ m ih=>exact hc _ _ ih m
theorem Ea{a b:Row}(h:row a=row b):a=b:=by
 have h:a.map D.int=b.map D.int:=by injection h
 exact(List.map_inj_right (λ x y e=>by injection e)).mp h
theorem Cn:∀r:Row,jM (r.map IK.i)=r.map D.int
 |[]=>by unfold jM;rfl
 |x::r=>by
  rw[C6,C6]
  show kY (IK.i x)::jM (r.map IK.i)=_
  rw[Cn r]
  unfold kY
  rfl
theorem Cq:∀r:Row,IK.jm (r.map IK.i)=0
 |[]=>by unfold IK.jm;rfl
 |x::r=>by
  rw[C6]
  show max (IK.dep (IK.i x)) (IK.jm (r.map IK.i))=0
  rw[Cq r]
  unfold IK.dep
  rfl
theorem eQ(r:Row):kC true (row r):=by
 refine⟨r.map IK.i,?_,?_⟩
 ·unfold kY row
  rw[Cn]
 ·unfold IK.dep
  rw[Cq]
  decide
def gU(kvs:List (Row×D)):List (D×D):=kvs.map λ p=>(row p.1,p.2)
theorem sJ(kvs:List (Row×D))(x:Row):eP (gU kvs) (row x)=(kvs.find? λ p=>p.1==x).map (·.2):=by
 unfold eP gU
 rw[find?_map,Option.map_map]
 have e:((λ p:D×D=>decide (p.1=row x))∘λ p:Row×D=>(row p.1,p.2))=λ p:Row×D=>p.1==x:=by
  funext p
  show decide (row p.1=row x)=(p.1==x)
  rw[A2,s9,beq_iff_eq]
  exact⟨Ea,λ h=>by rw[h]⟩
 rw[e]
 rfl
theorem jb(kvs:List (Row×D))(x:Row):(eP (gU kvs) (row x)).isSome=decide (x∈kvs.map (·.1)):=by
 rw[sJ,w9,A2,s9,find?_isSome,D4]
 constructor
 ·rintro⟨p,h1,h2⟩
  exact⟨p,h1,by simpa using h2⟩
 ·rintro⟨p,h1,h2⟩
  exact⟨p,h1,by simpa using h2⟩
theorem pK{kvs:List (Row×D)}{x:Row}(v:D)(h:x∉kvs.map (·.1)):putD (gU kvs) (row x) v=gU (kvs++[(x,v)]):=by
 unfold putD
 rw[jb,J5 (by simpa using h)]
 simp[gU]
theorem Fg{kvs:List (Row×D)}{x:Row}(v:D)(h:x∈kvs.map (·.1))(hv:∀p∈kvs,p.2=v):putD (gU kvs) (row x) v=gU kvs:=by
 unfold putD
 rw[jb,J4 (by simpa using h)]
 unfold gU
 rw[D8]
 refine map_congr_left λ p hp=>?_
 show(if row p.1=row x then(row p.1,v)else(row p.1,p.2))=_
 rw[hv p hp]
 split <;> rfl
theorem yU{kvs:List (Row×D)}{x:Row}{v:D}(h:x∉kvs.map (·.1)):eP (gU (kvs++[(x,v)])) (row x)=some v:=by
 rw[sJ,find?_append]
 have:kvs.find? (λ p=>p.1==x)=none:=find?_eq_none.mpr λ p hp=>by
  simp only[beq_iff_eq]
  exact λ z=>h (D4.mpr ⟨p,hp,z⟩)
 rw[this]
 simp
theorem jn(kvs:List (Row×D)):(gU kvs).length=kvs.length:=by simp[gU]
theorem nh(kvs:List (Row×D)):(gU kvs).map (·.1)=(kvs.map (·.1)).map row:=by simp[gU]
def yes(rs:List Row):List (Row×D):=rs.map λ r=>(r,.bl true)
theorem fe(rs:List Row):(yes rs).map (·.1)=rs:=by simp[yes,Function.comp_def]
theorem qV(rs:List Row)(x:Row):yes rs++[(x,.bl true)]=yes (rs++[x]):=by simp[yes]
theorem DH{rs:List Row}:∀p∈yes rs,p.2=.bl true:=λ p hp=>by
 obtain⟨r,_,rfl⟩:=D4.mp hp
 rfl
def qP(g:List bB)(as:Row):Nat->List Row
 |0=>[]
 |i+1=>qP g as i++if 0 < as.getD i 0 then(g.getD i ir).2.map λ o=>plus (less as i) o else[]
theorem dH(g:List bB)(as:Row):∀i,(qP g as i).length=(kT g as i).length
 |0=>rfl
 |i+1=>by
  show(qP g as i++_).length=(kT g as i++_).length
  rw[p5,p5,dH g as i]
  unfold opt
  split
  ·rw[iY,B4]
  ·rfl
theorem vq(g:List bB)(as:Row):∀(i j:Nat) (d:D),(kT g as i)[j]?=some d->∃(h k:Int) (b:Row),d=.tup [.int h,.int k,row b]/\(qP g as i)[j]?=some b
 |0,j,d,e=>by simp[kT]at e
 |i+1,j,d,e=>by
  have e:(kT g as i++opt as i (mM as i (g.getD i ir).2 (g.getD i ir).2.length))[j]?=some d:=e
  show ∃h k b,_/\(qP g as i++if 0 < as.getD i 0 then(g.getD i ir).2.map (λ o=>plus (less as i) o)else[])[j]?=some b
  by_cases hj:j < (kT g as i).length
  ·rw[g9 hj]at e
   obtain⟨h,k,b,e1,e2⟩:=vq g as i j d e
   exact⟨h,k,b,e1,by rw[g9 (by rw[dH];exact hj)];exact e2⟩
  ·rw[e7 (by omega)]at e
   rw[e7 (by rw[dH];omega),dH]
   generalize j - (kT g as i).length=m at*
   unfold opt at e
   split at e
   ·rename_i hp
    rw[J4 hp]
    unfold mM at e
    rw[r9]at e
    by_cases hm:m < (g.getD i ir).2.length
    ·rw[n0 hm]at e
     refine⟨(i:Int),(m:Int),plus (less as i) ((g.getD i ir).2.getD m []),(A9 e).symm,?_⟩
     generalize(g.getD i ir).2=os at*
     rw[r9,e9,i8 hm]
     rfl
    ·rw[l8 (by simpa using hm)]at e
     cases e
   ·simp at e
theorem Bh{as bs:Row}{n:Nat}(h:as.length=n)(g:bs.length=n):(plus as bs).length=n:=by
 unfold plus
 rw[length_zipWith,h,g,Nat.min_self]
theorem xc{n:Nat}{g:List bB}(G:fR n g){as:Row}(ha:as.length=n):∀i,i<=n->∀r∈qP g as i,r.length=n
 |0,_,r,hr=>by cases hr
 |i+1,hi,r,hr=>by
  rcases B5.mp hr with q|q
  ·exact xc G ha i (by omega) r q
  ·split at q
   ·obtain⟨o,ho,rfl⟩:=D4.mp q
    exact Bh (by rw[gE (by omega),ha]) ((G.at (by omega)).2 o ho)
   ·cases q
theorem xf{g:List bB}{as:Row}:∀i,qP g as i≠[]->∃h,h < i/\0 < as.getD h 0
 |0,h=>absurd rfl h
 |i+1,h=>by
  by_cases e:0 < as.getD i 0
  ·exact⟨i,by omega,e⟩
  ·have:qP g as (i+1)=qP g as i:=by
    show qP g as i++_=_
    rw[J5 e,A3]
   rw[this]at h
   obtain⟨j,h1,h2⟩:=xf i h
   exact⟨j,by omega,h2⟩
theorem pQ{n:Nat}{g:List bB}(G:fR n g)(as:Row):(qP g as n).length<=756:=by
 rw[dH]
 have:=lM G as n (E1 _)
 have:=G.oR
 omega
def Iw(a b:Row):Prop:=klt (vG b) (vG a)=false
theorem neg_inj{a b:Row}(h:(a.map λ x=>0 - x)=b.map λ x=>0 - x):a=b:=(List.map_inj_right (λ x y e=>by omega)).mp h
theorem Dl{a b:Row}(hl:a.length=b.length)(h:Iw a b)(g:Iw b a):a=b:=by
 unfold Iw klt vG at h g
 dsimp only at h g
 by_cases e:a.sum=b.sum
 ·rw[J4 e.symm]at h
  rw[J4 e]at g
  exact neg_inj (oE _ _ (by simp[hl]) g h)
 ·rw[J5 (J3 e)]at h
  rw[J5 e]at g
  have:=of_decide_eq_false h
  have:=of_decide_eq_false g
  omega
theorem rX{rs:List Row}{outD:List D}(h:Out (λ i j=>klt (vG (rs.getD i [])) (vG (rs.getD j []))) (rs.map row) D.bj outD):∃out:List Row,outD=out.map row/\out.Perm rs/\out.Pairwise Iw:=by
 obtain⟨p,p1,p2,rfl⟩:=h
 rw[B4]at p1 p2
 have vM:∀i∈p.toList,i < rs.length:=λ i hi=>by
  have:=(Array.Perm.mem_iff p1 (a:=i)).mp (by simpa using hi)
  simpa using this
 refine⟨p.toList.map λ i=>rs.getD i [],?_,?_,?_⟩
 ·rw[D8]
  refine map_congr_left λ i hi=>?_
  have:=vM i hi
  simp[e9,this]
 ·have q:p.toList.Perm (List.range rs.length):=by
   have:=Array.perm_iff_toList_perm.mp p1
   simpa using this
  have q2:=q.map λ i=>rs.getD i []
  have e:(List.range rs.length).map (λ i=>rs.getD i [])=rs:=by
   apply ext_getElem?
   intro i
   by_cases hi:i < rs.length
   ·simp[hi,e9]
   ·simp[hi]
  rw[e]at q2
  exact q2
 ·rw[pairwise_map,pairwise_iff_getElem]
  intro i j hi hj nH
  have hz:=p1.size
  have Q_:j < rs.length:=by rw[<- hz];simpa using hj
  have:=p2 i j (Nat.le_of_lt nH) Q_
  have g:∀k (hk:k < p.toList.length),pg p k=p.toList[k]:=λ k hk=>by
   rw[iT]
   have nG:k < p.size:=by simpa using hk
   simp[nG]
  rw[g i hi,g j hj]at this
  exact this
structure nX(n:Nat)(U:Row->Prop)(l:List Row):Prop where
 mem:∀r,r∈l↔U r
 nd:l.Nodup
 up:l.Pairwise Iw
 len:∀r∈l,r.length=n
theorem nX.eq {n:Nat}{U:Row->Prop}{l m:List Row}(h:nX n U l)(g:nX n U m):l=m:=
 List.Perm.eq_of_pairwise (λ a b ha hb h1 h2=>Dl (by rw[h.len a ha,g.len b hb]) h1 h2) h.up g.up ((perm_ext_iff_of_nodup h.nd g.nd).mpr λ a=>(h.mem a).trans (g.mem a).symm)
theorem nX.of {n:Nat}{U:Row->Prop}{l m:List Row}(hm:∀r,r∈l↔U r)(nd:l.Nodup)(hl:∀r∈l,r.length=n)(p:m.Perm l)(up:m.Pairwise Iw):nX n U m:=
 ⟨λ r=>p.mem_iff.trans (hm r),p.nodup_iff.mpr nd,up,λ r hr=>hl r (p.mem_iff.mp hr)⟩
end KK
namespace KK
open PySem L3 L4 L5
open L2 hiding bo pB
theorem Ext.free {M M':Mem}(h:Ext M M'){p:Addr}(hp:M' p=none):M p=none:=by
 cases e:M p with
 |none=>rfl
 |some o=>rw[h p o e]at hp;cases hp
theorem Ext.trans {M M1 M2:Mem}(h:Ext M M1)(g:Ext M1 M2):Ext M M2:=λ b o e=>g b o (h b o e)
theorem Ext.new {M M':Mem}(h:Ext M M'){p:Addr}(hp:M' p=none)(x:MO):Ext M (ak M' p x):=kU h hp x
theorem aZ{M:Mem}{p q:Addr}{x:MO}(h:M p=some x)(g:M q=none):p≠q:=λ z=>by subst z;rw[h]at g;cases g
theorem rN{M:Mem}{Q:bD}{a b:Addr}{rs:List Row}(ha:M a=some (.lst (rs.map row)))(hb:M b=some (.lst []))(q0:rs=[]->Q (.bl false) M)(q1:∀ws x,rs=ws++[x]->Q (.bl true) M):tP true (.ref a) (.ref b) M Q:=by
 refine Ek true ha (qs:=[]) hb ?_
 rcases eq_nil_or_concat rs with rfl|⟨ws,x,rfl⟩
 ·exact q0 rfl
 ·rw[concat_eq_append]at*
  rw[J4 rfl,A6 (by simp)]
  exact q1 ws x rfl
structure Wk(nx:Row->List Row)(as:Row)(U ks ws:List Row):Prop where
 nd:ks.Nodup
 ku:∀r∈ks,r∈U/\ju nx as r
 wu:∀r∈ws,r∈U/\ju nx as r
 st:as∈ks\/as∈ws
 cl:∀b∈ks,∀c∈nx b,c∈ks\/c∈ws
 wl:ws.length<=1+756*ks.length
section
variable {nx:Row->List Row}{as x:Row}{U ks ws rs:List Row}
theorem Wk.oR (h:Wk nx as U ks ws):ks.length<=U.length:=List.Nodup.length_le_of_subset h.nd λ r hr=>(h.ku r hr).1
theorem Wk.old (h:Wk nx as U ks (ws++[x]))(hx:x∈ks):Wk nx as U ks ws:=by
 refine⟨h.nd,h.ku,λ r hr=>h.wu r (m6 _ hr),?_,λ b hb c hc=>?_,by have:=h.wl;rw[p5]at this;omega⟩
 ·rcases h.st with q|q
  ·exact .inl q
  ·rcases B5.mp q with q|q
   ·exact .inr q
   ·exact .inl (by rw[q9.mp q];exact hx)
 ·rcases h.cl b hb c hc with q|q
  ·exact .inl q
  ·rcases B5.mp q with q|q
   ·exact .inr q
   ·exact .inl (by rw[q9.mp q];exact hx)
theorem Wk.new (h:Wk nx as U ks (ws++[x]))(hU:∀b∈U,∀c∈nx b,c∈U)(hx:x∉ks)(hr:∀r,r∈rs↔r∈nx x/\r∉ks++[x])(hl:rs.length<=756):Wk nx as U (ks++[x]) (ws++rs):=by
 obtain⟨xu,xr⟩:=h.wu x (by simp)
 refine⟨?_,λ r hr=>?_,λ r q=>?_,?_,λ b hb c hc=>?_,by have:=h.wl;simp only[p5,k9]at*;omega⟩
 ·exact nodup_append.mpr ⟨h.nd,by simp,λ a ha b hb z=>hx (by rw[<- q9.mp hb,<- z];exact ha)⟩
 ·rcases B5.mp hr with q|q
  ·exact h.ku r q
  ·rw[q9.mp q];exact⟨xu,xr⟩
 ·rcases B5.mp q with q|q
  ·exact h.wu r (m6 _ q)
  ·have:=((hr r).mp q).1
   exact⟨hU x xu r this,.step xr this⟩
 ·rcases h.st with q|q
  ·exact .inl (m6 _ q)
  ·rcases B5.mp q with q|q
   ·exact .inr (m6 _ q)
   ·exact .inl (k8 _ q)
 ·by_cases hk:c∈ks++[x]
  ·exact .inl hk
  ·rcases B5.mp hb with q|q
   ·rcases h.cl b q c hc with q|q
    ·exact .inl (m6 _ q)
    ·rcases B5.mp q with q|q
     ·exact .inr (m6 _ q)
     ·exact .inl (k8 _ q)
   ·rw[q9.mp q]at hc
    exact .inr (k8 _ ((hr c).mpr ⟨hc,hk⟩))
theorem Wk.done (h:Wk nx as U ks [])(r:Row):r∈ks↔ju nx as r:=by
 refine⟨λ q=>(h.ku r q).2,λ q=>q.closed ?_ λ b c hb hc=>?_⟩
 ·rcases h.st with q|q
  ·exact q
  ·cases q
 ·rcases h.cl b hb c hc with q|q
  ·exact q
  ·cases q
end
structure Al(nx:Row->List Row)(as:Row)(rs ls:List Row):Prop where
 nd:rs.Nodup
 ru:∀r∈rs,ju nx as r
 lu:∀r∈ls,r∈rs
 st:as∈rs
 cl:∀b∈rs,b∈ls\/∀c∈nx b,c∈rs
 ll:ls.length<=rs.length
 on:rs=[as]\/nx as≠[]
section
variable {nx:Row->List Row}{as x:Row}{rs ls nw:List Row}
theorem Al.next (h:Al nx as rs (ls++[x]))(nd:(rs++nw).Nodup)(h1:∀c∈nx x,c∈rs++nw)(h2:∀c∈nw,c∈nx x):Al nx as (rs++nw) (ls++nw):=by
 have xr:=h.lu x (by simp)
 refine⟨nd,λ r hr=>?_,λ r hr=>?_,m6 _ h.st,λ b hb=>?_,by have:=h.ll;simp only[p5,k9]at*;omega,?_⟩
 ·rcases B5.mp hr with q|q
  ·exact h.ru r q
  ·exact .step (h.ru x xr) (h2 r q)
 ·rcases B5.mp hr with q|q
  ·exact m6 _ (h.lu r (m6 _ q))
  ·exact k8 _ q
 ·rcases B5.mp hb with q|q
  ·rcases h.cl b q with z|z
   ·rcases B5.mp z with z|z
    ·exact .inl (m6 _ z)
    ·rw[q9.mp z];exact .inr h1
   ·exact .inr λ c hc=>m6 _ (z c hc)
  ·exact .inl (k8 _ q)
 ·rcases h.on with z|z
  ·cases nw with
   |nil=>exact .inl (by rw[A3];exact z)
   |cons c nw=>
    refine .inr λ e=>?_
    have:=h2 c (o8 ..)
    rw[z]at xr
    rw[q9.mp xr,e]at this
    cases this
  ·exact .inr z
theorem Al.done (h:Al nx as rs [])(r:Row):r∈rs↔ju nx as r:=by
 refine⟨h.ru r,λ q=>q.closed h.st λ b c hb hc=>?_⟩
 rcases h.cl b hb with z|z
 ·cases z
 ·exact z c hc
theorem Al.start (nx:Row->List Row)(as:Row):Al nx as [as] [as]:=⟨by simp,λ r hr=>by rw[q9.mp hr];exact .base,λ r h=>h,by simp,λ b hb=>.inl hb,E1 _,.inl rfl⟩
end
theorem Wk.start {nx:Row->List Row}{as:Row}{U:List Row}(h:as∈U):Wk nx as U [] [as] where
 nd:=nodup_nil
 ku:=λ r hr=>absurd hr (not_mem_nil)
 wu:=λ r hr=>by rw[q9.mp hr];exact⟨h,.base⟩
 st:=.inr (q9.mpr rfl)
 cl:=λ b hb=>absurd hb (not_mem_nil)
 wl:=E1 _
theorem rM{M:Mem}{Q:bD}{q:Addr}{rs:List Row}(hM:M q=some (.lst (rs.map row)))(hl:rs.length < 1000000)(hz:∀r∈rs,r.length<=1000)(k:∀(p:Addr) (out:List Row),M p=none->out.Perm rs->out.Pairwise Iw->Q (.ref p) (ak M p (.lst (out.map row)))):vZ oy (.ref q) M Q:=by
 refine⟨q,rs.map row,true,λ cK M'=>M'=M/\cK.length<=rs.length/\∀i k,cK[i]?=some k->wj true M' k (vG (rs.getD i [])),λ i=>vG (rs.getD i []),rfl,hM,by rw[B4];exact hl,⟨rfl,E3 _,λ i k e=>by simp at e⟩,?_,?_⟩
 ·rintro cK M' e ⟨rfl,h2,h3⟩ he
  rw[r9]at he
  cases er:rs[cK.length]? with
  |none=>rw[er]at he;cases he
  |some r=>
   rw[er]at he
   cases he
   have fO:cK.length < rs.length:=(i5.mp er).1
   refine⟨r,rfl,hz r (m5 er),rfl,?_,λ i k e=>?_⟩
   ·rw[p5,k9];omega
   ·by_cases hi:i < cK.length
    ·rw[g9 hi]at e
     exact h3 i k e
    ·rw[e7 (by omega)]at e
     have GD:i - cK.length=0:=by
      have:=(i5.mp e).1
      simp at this
      omega
     rw[GD]at e
     have e:D.tup [.int r.sum,row (r.map λ a=>0 - a)]=k:=by simpa using e
     have OZ:i=cK.length:=by omega
     subst OZ
     show k=.tup [.int (vG (rs.getD cK.length [])).1,.tup ((vG (rs.getD cK.length [])).2.map D.int)]
     rw[<- e,e9,er]
     rfl
 ·rintro cK M' ⟨rfl,h2,h3⟩ hl
  refine⟨h3,λ p2 outD gT ho=>?_⟩
  obtain⟨out,rfl,o1,o2⟩:=rX ho
  exact k p2 out gT o1 o2
end KK
namespace KK
open PySem L3 L4 L5
open L2 hiding bo pB
def cL(a:Addr)(i:Nat)(M:Mem)(qs:List Addr):Prop:=∀q∈qs,q≠a/\∃hs:List Int,M q=some (.lst (hs.map D.int))/\hs.length<=4/\∀x∈hs,0<=x/\x < (i:Int)
section
variable {a c p q:Addr}{i:Nat}{M M':Mem}{qs:List Addr}{o:MO}
theorem cL.nil:cL a i M []:=λ q h=>by cases h
theorem cL.keep (h:cL a i M qs)(k:∀b o,b≠a->M b=some o->M' b=some o):cL a i M' qs:=λ q hq=>by
 obtain⟨h1,hs,h2,h3⟩:=h q hq
 exact⟨h1,hs,k q _ h1 h2,h3⟩
theorem cL.new (h:cL a i M qs)(hp:M p=none):cL a i (ak M p o) qs:=h.keep λ b u _ e=>by rw[ah (aZ e hp)];exact e
theorem cL.ne (h:cL a i M qs)(hp:M p=some (.lst (qs.map D.ref))):∀q∈qs,q≠p:=λ q hq z=>by
 subst z
 obtain⟨_,hs,h2,_⟩:=h q hq
 rw[hp]at h2
 have e:qs.map D.ref=hs.map D.int:=by injection h2 with e;injection e
 have:D.ref q∈qs.map D.ref:=D4.mpr ⟨q,hq,rfl⟩
 rw[e]at this
 obtain⟨x,_,e2⟩:=D4.mp this
 cases e2
theorem cL.put (h:cL a i M qs)(hp:M p=some (.lst (qs.map D.ref))):cL a i (ak M p o) qs:=λ q hq=>by
 obtain⟨h1,hs,h2,h3⟩:=h q hq
 exact⟨h1,hs,by rw[ah (h.ne hp q hq)];exact h2,h3⟩
theorem cL.add (h:cL a i M qs)(Gy:q≠a){hs:List Int}(hq:M q=some (.lst (hs.map D.int)))(hl:hs.length<=4)(hx:∀x∈hs,0<=x/\x < (i:Int)):cL a i M (qs++[q]):=λ b hb=>by
 rcases B5.mp hb with z|z
 ·exact h b z
 ·rw[q9.mp z]
  exact⟨Gy,hs,hq,hl,hx⟩
theorem cL.take (h:cL a i M qs)(n:Nat):cL a i M (qs.take n):=λ b hb=>h b (mem_of_mem_take hb)
end
theorem rY{hs:List Int}{n i:Nat}(hl:hs.length<=4)(hx:∀x∈hs,0<=x/\x < (i:Int)):hG n i (jo hs n):=by
 refine⟨tY _ _,tX,?_,C' λ x h=>(hx x h).2⟩
 have:=Dc (ns:=hs) (n:=n)
 omega
theorem hG.mono {n i j:Nat}{r:Row}(h:hG n i r)(nH:i<=j):hG n j r:=⟨h.len,h.pos,h.sum,λ k hk=>h.low k (by omega)⟩
end KK
namespace KK
open PySem L3 L4 L5
open L2 hiding bo pB
theorem Nv{α:Type}{ds:List α}{X:Prop}(h:ds.length<=16)(q:X):ds.length<=sizeLine/\X:=⟨D9 h (by decide),q⟩
theorem mF{M:Mem}{Q:bD}(q:Q (.bl true) M):L7 false .bj .bj M Q:=q
theorem GL{P:Program}{w:World}{K:PySem.W.Frag}{mg:Str->Option Value}{base:Heap}{k:Nat}{f:Addr}{fd:FuncData}{ps:List Str}{sp:eK}(h:∀ds M Q,¬sp ds M Q):bS P w K mg base fc k f fd ps (cA K sp):=
 ⟨λ _ _ _ _ ⟨ds,M,Q,_,_,q,_⟩=>absurd q (h ds M Q),λ _ _ _ _ _ _ _ _ _ _ _ _ _ ⟨ds,M,Q,_,_,q,_⟩=>absurd q (h ds M Q)⟩
def T9:D->Prop
 | .bj=>True| .bl _=>True| .int _=>True| .str _=>True|_=>False
def zB(M:Mem):Nat->D->D->Prop
 |0,_,_=>False
 |k+1,x,y=>(x=y/\T9 x)\/(∃ds es,x=.tup ds/\y=.tup es/\ds.length=es.length/\ds.length<=10000/\∀(i:Nat) (d e:D),ds[i]?=some d->es[i]?=some e->zB M k d e)\/
  ∃p q ds es,x=.ref p/\y=.ref q/\M p=some (.lst ds)/\M q=some (.lst es)/\ds.length=es.length/\ds.length<=10000/\∀(i:Nat) (d e:D),ds[i]?=some d->es[i]?=some e->zB M k d e
theorem rG(M:Mem)(k:Nat){r:List Int}(h:r.length<=10000):zB M (k+2) (row r) (row r):=
 .inr (.inl ⟨_,_,rfl,rfl,rfl,by rw[B4];exact h,λ i d e hd he=>by
  rw[hd]at he
  cases he
  obtain⟨x,_,rfl⟩:=D4.mp (m5 hd)
  exact .inl ⟨rfl,True.intro⟩⟩)
theorem rH{M:Mem}{k:Nat}{p q:Addr}{ds:List D}(hp:M p=some (.lst ds))(hq:M q=some (.lst ds))(hl:ds.length<=10000)(h:∀d∈ds,zB M k d d):zB M (k+1) (.ref p) (.ref q):=
 .inr (.inr ⟨p,q,ds,ds,rfl,rfl,hp,hq,rfl,hl,λ i d e hd he=>by
  rw[hd]at he
  cases he
  exact h d (m5 hd)⟩)
def rC(k:Nat):eK:=λ ds M Q=>∃x y,ds=[x,y]/\zB M k x y/\Q (.bl true) M
theorem DU:∀ds M Q,¬rC 0 ds M Q:=λ ds M Q ⟨_,_,_,h,_⟩=>h
theorem sO{as:Row}{h:Nat}(hp:∀x∈as,0<=x)(h0:0 < as.getD h 0):∀x∈less as h,0<=x:=λ x hx=>by
 unfold less at hx
 rcases B5.mp hx with z|z
 ·rcases B5.mp z with z|z
  ·exact hp x (mem_of_mem_take z)
  ·rw[q9.mp z];omega
 ·exact hp x (mem_of_mem_drop z)
end KK
namespace KK
open PySem L3 L4 L5
open L2 hiding bo pB
local macro_rules|`(tactic|walk_at "mem")=>`(tactic|first|assumption|exact af|(rw[ah (by assumption)];assumption)|(rw[ah (by assumption),ah (by assumption)];assumption)|(rw[ah (by assumption)];exact af))
local macro_rules|`(tactic|walk_at "rd1")=>`(tactic|first
 |with_reducible refine Jl ?_|with_reducible refine Jz ?_|with_reducible refine En ?_|with_reducible refine Jm ?_|with_reducible refine JG ?_|with_reducible refine EF ?_|with_reducible refine pI ?_|with_reducible refine Jk ?_
 |with_reducible refine Ef ?_|with_reducible refine Ny ?_|with_reducible refine Nu ?_|((with_reducible refine' Jh ?k1 ?_);(case k1=>rfl))|with_reducible refine R' ?_|with_reducible refine JH ?_|with_reducible refine Nx ?_|with_reducible refine Jn ?_
 |with_reducible refine EL ?_|with_reducible refine RZ ?_|with_reducible refine Qy ?_|with_reducible refine R8 ?_|with_reducible refine NC ?_|with_reducible refine Jo ?_|with_reducible refine EG ?_|with_reducible refine Ji ?_|with_reducible refine Ju ?_
 |with_reducible refine Jj ?_|with_reducible refine Ee ?_|with_reducible refine EH ?_|with_reducible refine AO ?_|with_reducible refine JA ?_|with_reducible refine El ?_|with_reducible refine EI ?_|with_reducible refine EJ ?_|with_reducible refine QJ ?_|with_reducible refine QH ?_|((with_reducible refine' EK ?k1 ?_);(case k1=>walk_at "mem"))|with_reducible refine Jg ?_
 |with_reducible refine Eg ?_|with_reducible refine ND ?_|with_reducible refine R_ ?_|with_reducible refine Nw ?_|with_reducible refine yA ?_|with_reducible refine Em ?_|with_reducible refine NF ?_|with_reducible refine JF ?_
 |((with_reducible refine Js ?k1 ?_);(case k1=>first|assumption|decide))|((with_reducible refine JE ?k1 ?k2 ?_);(case k1=>first|assumption|decide);(case k2=>first|assumption|decide|omega))|((with_reducible refine dO ?k1 ?_);(case k1=>exact v_ (by decide) (by decide)))|with_reducible refine Eb ?_|with_reducible refine Ay ?_|((with_reducible refine' Nt ?k1 ?_);(case k1=>walk_at "mem"))|with_reducible refine Ec ?_|with_reducible refine QC ?_|with_reducible refine AL ?_|with_reducible refine Nz ?_|with_reducible refine Et ?_|with_reducible refine Es ?_|((with_reducible refine' QF ?k1 ?_);(case k1=>rfl))|with_reducible refine Qx ?_|with_reducible refine QD ?_|((with_reducible refine' AH ?k1 ?_);(case k1=>walk_at "mem"))
 |with_reducible refine NA ?_|with_reducible refine AS ?_|with_reducible refine AM ?_|with_reducible refine AN ?_|((with_reducible refine' NB ?k1 ?_);(case k1=>walk_at "mem"))|with_reducible refine Az ?_|with_reducible refine Jv ?_|with_reducible refine R5 ?_|with_reducible refine ED ?_|with_reducible refine EE ?_|with_reducible refine EC ?_|with_reducible refine Qz ?_|with_reducible refine Eo ?_|with_reducible refine Ed ?_|with_reducible refine Eh ?_|with_reducible refine Jt ?_|with_reducible refine R6 ?_|with_reducible refine Jp ?_|with_reducible refine Eu ?_|with_reducible refine Mz ?_
 |((with_reducible refine' bW ?k1 ?k2 ?_);(case k1=>walk_at "mem");(case k2=>rfl))|((with_reducible refine' gx ?k2 ?_);(case k2=>rfl))|((with_reducible refine' Ew ?k1 ?_);(case k1=>walk_at "mem"))
 |((with_reducible refine' AA ?k1 ?k2 ?_);(case k1=>walk_at "mem");(case k2=>rfl))
 |with_reducible refine AJ ?_|with_reducible refine AK ?_|with_reducible refine wM ?_|with_reducible refine Ez ?_)
local macro_rules|`(tactic|walk_at "rd")=>`(tactic|repeat(walk_at "rd1"))
local macro_rules|`(tactic|walk_at "rx")=>`(tactic|repeat(first|walk_at "rd1"|((with_reducible refine' Nv ?k1 ?_);(case k1=>exact Nat.le_of_ble_eq_true rfl))))
def top(i:Nat):Stmt:=PySem.Challenge.pw_lastloser_k12_all_that_is_reached.main.body.getD i (.Pass ⟨0,0,0,0⟩)
structure jw(K:PySem.W.Frag)(mg:Str->Option Value):Prop where
 all:mg "all"=none
 bool:mg "bool"=none
 dict:mg "dict"=none
 enumerate:mg "enumerate"=none
 int:mg "int"=none
 isinstance:mg "isinstance"=none
 len:mg "len"=none
 list:mg "list"=none
 max:mg "max"=none
 min:mg "min"=none
 range:mg "range"=none
 sorted:mg "sorted"=none
 str:mg "str"=none
 sum:mg "sum"=none
 tuple:mg "tuple"=none
 zip:mg "zip"=none
 qi:fZ K "bool"
 HR:fZ K "int"
 Cv:fZ K "list"
 HQ:fZ K "str"
 xw:fZ K "tuple"
def rB:eK:=λ ds M Q=>∃ns:List Int,ds=[.fl (ns.map D.int)]/\∀M',Q (.bl true) M'
section
variable {P:Program}{w:World}{K:PySem.W.Frag}{mg:Str->Option Value}{base:Heap}
theorem gw:aK ["_law_flow_here","_law_many","_law_cell","_law_digit"] ["_law_flow_here","_law_many"] (ay (top 12)):=⟨rfl,rfl,rfl,by decide+kernel,rfl,by decide+kernel,by decide+kernel⟩
theorem FJ{f:Addr}{fd:FuncData}(F:gb K "_law_pick" "_law_pick" (top 12) f fd)(T:jw K mg):bS P w K mg base fc 1 f fd ["_law_flow_here","_law_many"] (cA K eY):=by
 refine jy F gw (λ ds M Q h=>?_) (λ cT A outer s H E ds M Q hr h=>?_)
 ·obtain⟨a,c,n,rfl,_⟩:=h
  rfl
 ·obtain⟨a,c,n,rfl,⟨ns,p,b,sd,ct,hf,hc,f_,hp,hb,Gw,jN⟩,Tc,XT,k⟩:=h
  refine⟨_,(ag (cp (lZ (aS (eO hr.units) (bE bo (ar 0) aj (λ _ _=>rfl)) aj (aR _)) (iF (aS KZ (bE bo (ar 0) aj (λ _ _=>rfl)) (aO gO (by rfl) T.len (by decide+kernel) (aa (bE bo (ar 0) aj (λ _ _=>rfl)) ae)) (aR _)))).pt
 (ag (aF (i:=2) gw.nd rfl (Or.inl rfl) (bE bo (bE bo (ar 0) aj (λ _ _=>rfl)) (bE bo (ar 0) aj (λ _ _=>rfl)) (λ _ _=>rfl)))
 (ag (dy (aY aQ (bE bo (ar 0) aj (λ _ _=>rfl)) aj) (eW (ar 0) aj j_))
 (aq (cp (aS Sv (ar 2) (aY Ol aj aj) (aR _))
 (aq (dy (ar 2) (eW (ar 0) aj j_)))
 (aq (dy (aY kf (aY aQ (aY aQ (aY eC (bE bo (ar 0) aj (λ _ _=>rfl)) aj) (aY kf (ar 2) aj)) aj) aj) (eW (ar 0) aj j_)))))))
 bp)
 (ag (cp (aS rZ (bE bo (ar 0) aj (λ _ _=>rfl)) aj (aR _))
 (ag (aF (i:=3) gw.nd rfl (Or.inl rfl) (aY kf (bE bo (ar 0) aj (λ _ _=>rfl)) (ar 1)))
 (ag (dy (aY pP (bE bo (ar 0) aj (λ _ _=>rfl)) (ar 1)) (eW (ar 0) aj j_))
 (aq (aJ (ar 3)))))
 bp)
 (ag (dy (aY aQ (bE bo (ar 0) aj (λ _ _=>rfl)) aj) (eW (ar 0) aj j_))
 (ag (dy (aY kf (aY aQ (aY aQ (aY eC (bE bo (ar 0) aj (λ _ _=>rfl)) aj) aj) (bE bo (ar 0) aj (λ _ _=>rfl))) aj) (eW (ar 0) aj j_))
 (aq (aJ (aY kf (aY pP (aY kf (aY eC (aY aQ (aY kf (bE bo (ar 0) aj (λ _ _=>rfl)) aj) aj) (aY aQ (aY pP (bE bo (ar 0) aj (λ _ _=>rfl)) aj) aj)) aj) aj) (ar 1)))))))),?_⟩
  refine gy (λ δ' M'=>∃(p b sd ct:Int) (v:Option D),δ'=[some (.ref a),some (.int n),v,none]/\M'=ak M a (.lst (Ie c p b sd ct))/\0<=p/\0<=b/\0<=sd/\sd < 2147483647) (λ N hN=>?_) ?_
  ·walk_at "rd"
   refine bh (λ O8=>?_) (λ O8=>?_)
   ·walk_at "rd"
    refine bh (λ hpl=>?_) (λ hpl=>?_)
    ·obtain⟨x,hx⟩:∃x:Int,gY (ns.map D.int) p=some (.int x):=by
      have hl:p.toNat < ns.length:=by rw[B4]at hpl;omega
      refine⟨ns[p.toNat],?_⟩
      have e:((p.toNat:Nat):Int)=p:=by omega
      have q:gY (ns.map D.int) ((p.toNat:Nat):Int)=some (.int ns[p.toNat]):=cz (by simp[hl])
      rw[e]at q
      exact q
     walk_at "rd"
     refine bW hc hx ?_
     walk_at "rd"
     refine R9 ⟨by decide,by decide,by decide⟩ ?_
     walk_at "rd"
     refine bh (λ LI=>?_) (λ LI=>?_)
     ·walk_at "rd"
      rw[cF]
      refine hN _ _ ⟨p+1,x,sd,ct,_,rfl,rfl,by omega,?_,Gw,jN⟩
      have LI:(10:Int)^(18:Int).toNat<=x:=LI
      have e:(10:Int)^(18:Int).toNat=1000000000000000000:=by decide
      omega
     ·walk_at "rd"
      rw[cF]
      refine hN _ _ ⟨p+1,b,_,ct,_,rfl,rfl,by omega,hb,A8 _ (by decide),p7 _ (by decide)⟩
    ·walk_at "rd"
     exact hN _ _ ⟨p,b,sd,ct,none,rfl,(om hf).symm,hp,hb,Gw,jN⟩
   ·walk_at "rd"
    exact hN _ _ ⟨p,b,sd,ct,none,rfl,(om hf).symm,hp,hb,Gw,jN⟩
  ·rintro δ' M' ⟨p,b,sd,ct,v,rfl,rfl,hp,hb,Gw,jN⟩
   walk_at "rd"
   refine bh (λ O8=>?_) (λ O8=>?_)
   ·walk_at "rd"
    rw[cF]
    refine aA (k _ _ (A8 _ (by omega)) (p7 _ Tc) ⟨ns,p,_,sd,ct,af,by rw[ah f_];exact hc,f_,hp,Int.ediv_nonneg hb (by omega),Gw,jN⟩)
   ·walk_at "rd"
    refine dO (nu ?_ ?_) ?_
    ·have:=A8 ((sd*48271+12820163+(ct+1)) % 2147483647) (show(65521:Int)≠0 by decide)
     omega
    ·have:=p7 ((sd*48271+12820163+(ct+1)) % 2147483647) (show(0:Int) < 65521 by decide)
     omega
    walk_at "rd"
    rw[cF,cF]
    exact aA (k _ _ (A8 _ (by omega)) (p7 _ Tc) ⟨ns,p,b,_,_,af,by rw[ah f_];exact hc,f_,hp,hb,A8 _ (by decide),p7 _ (by decide)⟩)
theorem rE:aK ["_law_script"] ["_law_script"] (ay (top 11)):=⟨rfl,rfl,rfl,by decide+kernel,rfl,by decide+kernel,by decide+kernel⟩
theorem FT{f:Addr}{fd:FuncData}(F:gb K "_law_flow" "_law_flow" (top 11) f fd)(T:jw K mg):bS P w K mg base fc 1 f fd ["_law_script"] (cA K Ag):=by
 refine jy F rE (λ ds M Q h=>?_) (λ cT A outer s H E ds M Q hr h=>?_)
 ·obtain⟨a,rfl,_⟩:=h
  rfl
 ·obtain⟨ns,rfl,k⟩:=h
  refine⟨_,(aq (aJ (bT (aa (eN Di (by rfl) T.list (by decide+kernel) (aa (ar 0) ae)) (aa aj (aa aj (aa aj (aa aj ae)))))))),?_⟩
  walk_at "rd"
  refine AI λ c hc=>?_
  walk_at "rd"
  refine⟨small (by show 5<=10000;decide),λ fl UL=>?_⟩
  have f_:c≠fl:=λ z=>by subst z;rw[af]at UL;cases UL
  exact aA (k fl c _ ⟨ns,0,0,1,0,af,by rw[ah f_];exact af,f_,by decide,by decide,by decide,by decide⟩)
end
section
variable {P:Program}{w:World}{K:PySem.W.Frag}{mg:Str->Option Value}{base:Heap}
theorem cS:aK ["_law_flow_here","_law_letters","_law_near","_law_name_here"] ["_law_flow_here"] (ay (top 14)):=⟨rfl,rfl,rfl,by decide+kernel,rfl,by decide+kernel,by decide+kernel⟩
theorem FN{f:Addr}{fd:FuncData}(F:gb K "_law_name" "_law_name" (top 14) f fd)(T:jw K mg)(aw:bM P w K mg base 1 "_law_pick" ["_law_flow_here","_law_many"] eY):bS P w K mg base fc 2 f fd ["_law_flow_here"] (cA K (Hy 6)):=by
 refine jy F cS (λ ds M Q h=>?_) (λ cT A outer s H E ds M Q hr h=>?_)
 ·obtain⟨a,cc,rfl,_⟩:=h
  rfl
 ·obtain⟨a,cc,rfl,hF,k⟩:=h
  refine⟨_,(ag (aF (i:=1) cS.nd rfl (Or.inr rfl) l_)
 (ag (aF (i:=2) cS.nd rfl (Or.inl rfl) (bT (wx (zs:=[Str.ofString "rows",Str.ofString "tow",Str.ofString "takes",Str.ofString "nones",Str.ofString "ones",Str.ofString "twos",Str.ofString "ass",Str.ofString "heaps",Str.ofString "on",Str.ofString "t",Str.ofString "ro",Str.ofString "a"]) (by kernel_rfl))))
 (ag (aF (i:=3) cS.nd rfl (Or.inl rfl) (IA PySem.F.plainAttrs_str PySem.F.slot_str_join PySem.F.type_str_join Lc zV l_ (tgs:=["_law_k"]) (fr:=[1,0]) ⟨bA (by kernel_rfl),rfl,(λ _ _ h=>h),(bf rfl T.range (aa (aY aQ aj (aE aw (hr.mono (by decide)) (by rfl) (aa (ar 0) (aa aj ae)))) ae)),(aX (λ _ _ _ _ _=>(aH (i:=0) (show(["_law_k","_law_letters","_law_flow_here"]:List Str).Nodup by decide+kernel) rfl (Or.inl rfl))) (by decide)),(λ _ _ _ _ _=>bq),(λ _ _ _ _ _=>(bE bo (ar 1) (aE aw (hr.mono (by decide)) (by rfl) (aa (ar 2) (aa aj ae))) (λ _ _=>rfl)))⟩))
 (ag (cp (aS (eO hr.units) (aE aw (hr.mono (by decide)) (by rfl) (aa (ar 0) (aa aj ae))) aj (aR _))
 (aq (aF (i:=3) cS.nd rfl (Or.inl rfl) (bE bo (ar 2) (aE aw (hr.mono (by decide)) (by rfl) (aa (ar 0) (aa aj ae))) (λ _ _=>rfl))))
 bp)
 (ag (cp (aS (HL hr.units) (ar 3) (bZ (wx (zs:=[Str.ofString "row",Str.ofString "to",Str.ofString "take",Str.ofString "none",Str.ofString "one",Str.ofString "two",Str.ofString "as",Str.ofString "heap"]) (by kernel_rfl))) rfl)
 (aq (aF (i:=3) cS.nd rfl (Or.inl rfl) (aY aQ (fH my (ar 3) fF (fE aj)) l_)))
 bp)
 (aq (aJ (aY aQ (ar 3) (bE bo (bT (aa l_ (aa l_ (aa (bE bo l_ (aE aw (hr.mono (by decide)) (by rfl) (aa (ar 0) (aa aj ae))) (λ _ _=>rfl)) ae)))) (aE aw (hr.mono (by decide)) (by rfl) (aa (ar 0) (aa aj ae))) (λ _ _=>rfl)))))))))),?_⟩
  walk_at "rd"
  refine⟨by decide,λ q hq=>?_⟩
  have Gy:q≠a:=λ z=>by obtain⟨o,e⟩:=hF.there;rw[<- z,hq]at e;cases e
  have F0:Fl a cc M (ak M q (.lst ([Str.ofString "rows",Str.ofString "tow",Str.ofString "takes",Str.ofString "nones",Str.ofString "ones",Str.ofString "twos",Str.ofString "ass",Str.ofString "heaps",Str.ofString "on",Str.ofString "t",Str.ofString "ro",Str.ofString "a"].map D.str))):=Fl.put hF hq
  have lR:(ak M q (.lst ([Str.ofString "rows",Str.ofString "tow",Str.ofString "takes",Str.ofString "nones",Str.ofString "ones",Str.ofString "twos",Str.ofString "ass",Str.ofString "heaps",Str.ofString "on",Str.ofString "t",Str.ofString "ro",Str.ofString "a"].map D.str))) q=some (.lst ([Str.ofString "rows",Str.ofString "tow",Str.ofString "takes",Str.ofString "nones",Str.ofString "ones",Str.ofString "twos",Str.ofString "ass",Str.ofString "heaps",Str.ofString "on",Str.ofString "t",Str.ofString "ro",Str.ofString "a"].map D.str)):=af
  generalize ak M q (.lst ([Str.ofString "rows",Str.ofString "tow",Str.ofString "takes",Str.ofString "nones",Str.ofString "ones",Str.ofString "twos",Str.ofString "ass",Str.ofString "heaps",Str.ofString "on",Str.ofString "t",Str.ofString "ro",Str.ofString "a"].map D.str))=M1 at F0 lR ⊢
  walk_at "rd"
  refine⟨rfl,?_⟩
  walk_at "rd"
  refine⟨a,cc,5,rfl,F0.aI,by decide,by decide,λ m o h0 h1 uB=>?_⟩
  have F1:Fl a cc M1 _:=Fl.pick uB
  walk_at "rd"
  refine⟨cv (by omega) (by omega),?_⟩
  refine eI (λ i acc M'=>uq acc i/\Fl a cc M1 M') ⟨uq.nil,F1⟩ (λ i acc M' hi h=>?_) (λ i d' acc M' hd h=>?_) (λ acc M' h=>?_)
  ·obtain⟨⟨zs,rfl,_,h2⟩,_⟩:=h
   rw[aV]at hi
   rw[B4]
   exact small (by omega)
  ·walk_at "rd"
   refine⟨a,cc,26,rfl,h.2.aI,by decide,by decide,λ d2 o2 h2 h3 CG=>?_⟩
   obtain⟨c,hc⟩:=uk (xs:=(Str.ofString "abcdefghijklmnopqrstuvwxyz").cps.toList) h2 (by
    have e:(Str.ofString "abcdefghijklmnopqrstuvwxyz").cps.toList.length=26:=by decide+kernel
    rw[e];exact h3)
   refine uX (by decide+kernel) hc ?_
   exact⟨h.1.snoc (by show 1<=1;decide),h.2.trans (Fl.pick CG)⟩
  ·obtain⟨TL,Pa⟩:=h
   rw[aV]at TL
   refine Gi TL (by omega) λ z hz=>?_
   have Q1:z.length<=5:=by omega
   have F2:=F0.trans Pa
   have lR:=Pa.mv q _ Gy lR
   clear hz TL Pa
   with_reducible refine pI ?_
   with_reducible refine gy (λ δ' M2=>∃z:Str,δ'=[some (.ref a),some (.str (Str.ofString "abcdefghijklmnopqrstuvwxyz")),some (.ref q),some (.str z)]/\z.length<=5/\Fl a cc M M2) (λ N hN=>?_) ?_
   ·walk_at "rd"
    refine⟨a,cc,6,rfl,F2.aI,by decide,by decide,λ d3 o3 h4 h5 zf=>?_⟩
    walk_at "rd"
    refine bh (λ _=>?_) (λ _=>?_)
    ·walk_at "rd"
     refine⟨a,cc,12,rfl,zf,by decide,by decide,λ d4 o4 h6 h7 TF=>?_⟩
     obtain⟨y,hy,SM⟩:=uj (zs:=[Str.ofString "rows",Str.ofString "tow",Str.ofString "takes",Str.ofString "nones",Str.ofString "ones",Str.ofString "twos",Str.ofString "ass",Str.ofString "heaps",Str.ofString "on",Str.ofString "t",Str.ofString "ro",Str.ofString "a"]) h6 (by show d4 < 12;exact h7)
     have Ur:y.length<=5:=by
      have all:∀y∈[Str.ofString "rows",Str.ofString "tow",Str.ofString "takes",Str.ofString "nones",Str.ofString "ones",Str.ofString "twos",Str.ofString "ass",Str.ofString "heaps",Str.ofString "on",Str.ofString "t",Str.ofString "ro",Str.ofString "a"],y.length<=5:=by decide+kernel
      exact all y hy
     refine bW (by rw[ah Gy,ah Gy];exact lR) SM ?_
     walk_at "rd"
     exact hN _ _ ⟨y,rfl,Ur,(F2.trans (Fl.pick zf)).trans (Fl.pick TF)⟩
    ·walk_at "rd"
     exact hN _ _ ⟨z,rfl,Q1,F2.trans (Fl.pick zf)⟩
   ·rintro δ' M2 ⟨z,rfl,Q1,F2⟩
    with_reducible refine gy (λ δ' M3=>∃z:Str,δ'=[some (.ref a),some (.str (Str.ofString "abcdefghijklmnopqrstuvwxyz")),some (.ref q),some (.str z)]/\z.length<=5/\Fl a cc M M3) (λ N hN=>?_) ?_
    ·walk_at "rd"
     refine⟨by decide,?_⟩
     refine EA rfl ?_
     refine wN (λ _=>?_) (λ _=>?_)
     ·walk_at "rd"
      refine Ei (small (by omega)) ?_
      walk_at "rd"
      have c1:=G' z none (some 4)
      have e:(Str.ofString "q").length=1:=by decide+kernel
      have c2:(nT z none (some 4)).length<=4:=by
       show((z.cps.toList.drop 0).take (HT.bY z.length z.length (some 4) - 0)).toArray.size<=4
       rw[x4,A0]
       have:HT.bY z.length z.length (some 4)<=4:=by
        show(if(4:Int) < 0 then((4:Int)+(z.length:Int)).toNat else min (4:Int).toNat z.length)<=4
        rw[J5 (by decide)]
        exact Nat.min_le_left _ _
       omega
      refine rO (small (by omega)) ?_
      walk_at "rd"
      exact hN _ _ ⟨_,rfl,by rw[len_app];omega,F2⟩
     ·walk_at "rd"
      exact hN _ _ ⟨z,rfl,Q1,F2⟩
    ·rintro δ' M3 ⟨z,rfl,Q1,F3⟩
     walk_at "rd"
     refine⟨a,cc,9,rfl,F3.aI,by decide,by decide,λ d5 o5 h8 h9 td=>?_⟩
     obtain⟨c,hc⟩:=uk (xs:=(Str.ofString "123456789").cps.toList) h8 (by
      have e:(Str.ofString "123456789").cps.toList.length=9:=by decide+kernel
      rw[e];exact h9)
     refine uX (by decide+kernel) hc ?_
     walk_at "rd"
     refine⟨small (by show 3<=10000;decide),λ q2 DB=>?_⟩
     have F5:=F3.trans (Fl.pick td)
     have S9:q2≠a:=λ z=>by
      subst z
      obtain⟨o,e⟩:=td.there
      rw[DB]at e
      cases e
     walk_at "rd"
     refine⟨a,cc,3,rfl,td.put DB,by decide,by decide,λ d6 o6 Wu Wt LK=>?_⟩
     obtain⟨y,hy,SM⟩:=uj (zs:=[Str.ofString "",Str.ofString "",⟨#[c]⟩]) Wu (by show d6 < 3;exact Wt)
     have Ur:y.length<=1:=by
      have e:(Str.ofString "").length=0:=by decide+kernel
      simp only[C7,not_mem_nil,or_false]at hy
      rcases hy with rfl|rfl|rfl
      ·omega
      ·omega
      ·show 1<=1;decide
     refine bW (by rw[ah S9];exact af) SM ?_
     refine rO (small (by omega)) ?_
     exact aA (k _ _ (by rw[len_app];omega) ((F5.trans (Fl.put td DB)).trans (Fl.pick LK)))
end
section
variable {P:Program}{w:World}{K:PySem.W.Frag}{mg:Str->Option Value}{base:Heap}
theorem Aj:aK ["one","other"] ["one","other"] (ay (top 1)):=⟨rfl,rfl,rfl,by decide+kernel,rfl,by decide+kernel,by decide+kernel⟩
theorem Bw{f:Addr}{fd:FuncData}(F:gb K "added" "added" (top 1) f fd)(T:jw K mg):bS P w K mg base fc 1 f fd ["one","other"] (cA K Hz):=by
 refine jy F Aj (λ ds M Q h=>?_) (λ cT A outer s H E ds M Q hr h=>?_)
 ·obtain⟨a,b,rfl,_⟩:=h
  rfl
 ·obtain⟨as,bs,rfl,hl,hz,k⟩:=h
  refine⟨_,(aq (aJ (jA dX dY (by rfl) T.tuple (by decide+kernel) (tgs:=["here","there"]) (fr:=[]) ⟨bA (by kernel_rfl),rfl,(λ _ _ h=>h),(wt rfl T.zip (aa (ar 0) (aa (ar 1) ae))),(ff (λ _ _ _ _ _=>(il rfl (bX (aH (i:=0) (show(["here","there"]:List Str).Nodup by decide+kernel) rfl (Or.inl rfl)) (bX (aH (i:=1) (show(["here","there"]:List Str).Nodup by decide+kernel) rfl (Or.inl rfl)) fM)))) (by decide) (by decide)),(λ _ _ _ _ _=>bq),(λ _ _ _ _ _=>(aY aQ (ar 0) (ar 1)))⟩))),?_⟩
  walk_at "rd"
  have hp:(plus as bs).length<=1000:=by simp[plus];omega
  refine eI (λ i acc M'=>M'=M/\acc=((plus as bs).take i).map D.int) ⟨rfl,by simp⟩ (λ i acc M' hi h=>?_) (λ i d acc M' hd h=>?_) (λ acc M' h=>?_)
  ·obtain⟨_,rfl⟩:=h
   rw[B4,A0]
   exact small (by omega)
  ·obtain⟨rfl,rfl⟩:=h
   obtain⟨x,y,e1,e2,rfl⟩:=Iy hd
   walk_at "rd"
   refine⟨rfl,?_⟩
   rw[take_snoc (a:=x+y) (Fp e1 e2),B6]
   rfl
  ·obtain⟨rfl,rfl⟩:=h
   rw[DF,y8]
   exact aA k
end
section
variable {P:Program}{w:World}{K:PySem.W.Frag}{mg:Str->Option Value}{base:Heap}
theorem rD:aK ["counts","heap"] ["counts","heap"] (ay (top 4)):=⟨rfl,rfl,rfl,by decide+kernel,rfl,by decide+kernel,by decide+kernel⟩
theorem FP{f:Addr}{fd:FuncData}(F:gb K "one_less" "one_less" (top 4) f fd)(T:jw K mg):bS P w K mg base fc 1 f fd ["counts","heap"] (cA K Ad):=by
 refine jy F rD (λ ds M Q h=>?_) (λ cT A outer s H E ds M Q hr h=>?_)
 ·obtain⟨a,b,rfl,_⟩:=h
  rfl
 ·obtain⟨as,i,rfl,hi,hz,k⟩:=h
  refine⟨_,(aq (aJ (aY aQ (aY aQ (fH my (ar 0) fF (fE (ar 1))) (bZ (aa (aY oB (bE bo (ar 0) (ar 1) (λ _ _=>rfl)) aj) ae))) (fH my (ar 0) (fE (aY aQ (ar 1) aj)) fF)))),?_⟩
  walk_at "rd"
  refine mC (by omega) ?_
  walk_at "rd"
  refine gx (cN hi) ?_
  walk_at "rd"
  refine⟨small (by show 1<=10000;decide),?_⟩
  refine iQ (small (by simp;omega)) ?_
  walk_at "rd"
  refine mD (by omega) ?_
  refine iQ (small (by simp;omega)) ?_
  refine aA ?_
  have e1:((i:Int)).toNat=i:=by omega
  have e2:((i:Int)+1).toNat=i+1:=by omega
  rw[e1,e2]
  unfold row less at k
  rw[B6,B6,map_take,map_drop]at k
  exact k
end
section
variable {P:Program}{w:World}{K:PySem.W.Frag}{mg:Str->Option Value}{base:Heap}
theorem uR:aK ["_law_counts_here"] ["_law_counts_here"] (ay (top 16)):=⟨rfl,rfl,rfl,by decide+kernel,rfl,by decide+kernel,by decide+kernel⟩
theorem KR{f:Addr}{fd:FuncData}(F:gb K "_law_key" "_law_key" (top 16) f fd)(T:jw K mg):bS P w K mg base fc 1 f fd ["_law_counts_here"] (cA K oy):=by
 refine jy F uR (λ ds M Q h=>?_) (λ cT A outer s H E ds M Q hr h=>?_)
 ·obtain⟨a,rfl,_⟩:=h
  rfl
 ·obtain⟨as,rfl,hz,k⟩:=h
  refine⟨_,(aq (aJ (bZ (aa (aO (xV rfl) (by rfl) T.sum (by decide+kernel) (aa (ar 0) ae)) (aa (jA dX dY (by rfl) T.tuple (by decide+kernel) (tgs:=["_law_n"]) (fr:=[]) ⟨bA (by kernel_rfl),rfl,(λ _ _ h=>h),(cO (ar 0)),(aX (λ _ _ _ _ _=>(aH (i:=0) (show(["_law_n"]:List Str).Nodup by decide+kernel) rfl (Or.inl rfl))) (by decide)),(λ _ _ _ _ _=>bq),(λ _ _ _ _ _=>(aY oB aj (ar 0)))⟩) ae))))),?_⟩
  walk_at "rd"
  refine wI ?_
  walk_at "rd"
  refine eI (λ i acc M'=>M'=M/\acc=((as.map λ a=>0 - a).take i).map D.int) ⟨rfl,by simp⟩ (λ i acc M' hi h=>?_) (λ i d acc M' hd h=>?_) (λ acc M' h=>?_)
  ·obtain⟨_,rfl⟩:=h
   rw[B4,A0]
   rw[B4]at hi
   exact small (by omega)
  ·obtain⟨rfl,rfl⟩:=h
   rw[r9]at hd
   cases e:as[i]? with
   |none=>rw[e]at hd;cases hd
   |some a=>
    rw[e]at hd
    cases hd
    walk_at "rd"
    refine⟨rfl,?_⟩
    rw[take_snoc (a:=0 - a) (by simp[e]),B6]
    rfl
  ·obtain⟨rfl,rfl⟩:=h
   walk_at "rd"
   refine⟨by show 2<=sizeLine;decide,aA ?_⟩
   have e:(as.map λ a=>0 - a).take (as.map D.int).length=as.map λ a=>0 - a:=by rw[B4];exact j7 (by simp)
   rw[e]
   exact k
end
section
variable {P:Program}{w:World}{K:PySem.W.Frag}{mg:Str->Option Value}{base:Heap}
theorem kQ:aK ["_law_sums"] ["_law_sums"] (ay (top 18)):=⟨rfl,rfl,rfl,by decide+kernel,rfl,by decide+kernel,by decide+kernel⟩
theorem Bu{f:Addr}{fd:FuncData}(F:gb K "_law_in_order" "_law_in_order" (top 18) f fd)(T:jw K mg)(ft:bM P w K mg base 1 "_law_key" ["_law_counts_here"] oy):bS P w K mg base fc 4 f fd ["_law_sums"] (cA K pj):=by
 refine jy F kQ (λ ds M Q h=>?_) (λ cT A outer s H E ds M Q hr h=>?_)
 ·obtain⟨a,rs,rfl,_⟩:=h
  rfl
 ·obtain⟨x,rs,rfl,hx,uC,hz,k⟩:=h
  refine⟨_,(aq (aJ (eN dX (by rfl) T.tuple (by decide+kernel) (aa (uK ft (hr.mono (by decide)) (by rfl) T.sorted (by rfl) T.dict (by rfl) (eX (tgs:=["_law_counts_here"]) (fr:=[]) ⟨bA (by kernel_rfl),rfl,(λ _ _ h=>h),(cO (ar 0)),(aX (λ _ _ _ _ _=>(aH (i:=0) (show(["_law_counts_here"]:List Str).Nodup by decide+kernel) rfl (Or.inl rfl))) (by decide)),(λ _ _ _ _ _=>bq),(λ _ _ _ _ _=>(bZ (aa (ar 0) (aa rg ae))))⟩)) ae)))),?_⟩
  have go:∀(N:bD),(∀(p:Addr) (out:List (List Int)) (M':Mem),(∀b o,M b=some o->M' b=some o)->M' p=some (.lst (out.map row))->(∀r∈out,r∈rs)->out.length<=rs.length->N (.ref p) M')->∀p,M p=none->qt oy (.ref p) (ak M p (.lst (rs.map pairD))) N:=by
   intro N hN p hp
   have h0:=kU (λ b o e=>e) hp (.lst (rs.map pairD))
   refine⟨p,rs,true,λ cK M'=>M'=ak M p (.lst (rs.map pairD))/\cK.length<=(once rs).length/\∀i k,cK[i]?=some k->wj true M' k (vG ((once rs).getD i [])),λ i=>vG ((once rs).getD i []),rfl,af,uC,⟨rfl,E3 _,λ i k e=>by simp at e⟩,?_,?_⟩
   ·rintro cK M' e ⟨rfl,h2,h3⟩ he
    rw[r9]at he
    cases er:(once rs)[cK.length]? with
    |none=>rw[er]at he;cases he
    |some r=>
     rw[er]at he
     cases he
     have fO:cK.length < (once rs).length:=(i5.mp er).1
     refine⟨r,rfl,hz r (sF (m5 er)),rfl,?_,λ i k e=>?_⟩
     ·rw[p5,k9];omega
     ·by_cases hi:i < cK.length
      ·rw[g9 hi]at e
       exact h3 i k e
      ·rw[e7 (by omega)]at e
       have GD:i - cK.length=0:=by
        have:=(i5.mp e).1
        simp at this
        omega
       rw[GD]at e
       have e:D.tup [.int r.sum,row (r.map λ a=>0 - a)]=k:=by simpa using e
       have OZ:i=cK.length:=by omega
       subst OZ
       show k=.tup [.int (vG ((once rs).getD cK.length [])).1,.tup ((vG ((once rs).getD cK.length [])).2.map D.int)]
       rw[<- e,e9,er]
       rfl
   ·rintro cK M' ⟨rfl,h2,h3⟩ hl
    refine⟨h3,λ p2 outD gT ho=>?_⟩
    obtain⟨out,rfl,o1,o2⟩:=Ku (rs:=once rs) ho
    exact hN p2 out _ (kU h0 gT _) af (λ r hr=>sF (o1 r hr)) (by rw[o2];exact BS rs)
  have fin:∀(p:Addr) (out:List (List Int)) (M':Mem),(∀b o,M b=some o->M' b=some o)->M' p=some (.lst (out.map row))->(∀r∈out,r∈rs)->out.length<=rs.length->qr [.ref p] M' (fin2 Q):=λ p out M' h1 h2 h3 h4=>jF h2 (back h1 (k out h3 h4))
  rcases hx with rfl|⟨l,rfl,hl⟩
  ·walk_at "rd"
   refine eI (λ i acc M'=>M'=M/\acc=(rs.take i).map pairD) ⟨rfl,by simp⟩ (λ i acc M' hi h=>?_) (λ i d acc M' hd h=>?_) (λ acc M' h=>?_)
   ·obtain⟨_,rfl⟩:=h
    rw[B4,A0]
    exact small (by omega)
   ·obtain⟨rfl,rfl⟩:=h
    rw[r9]at hd
    cases e:rs[i]? with
    |none=>rw[e]at hd;cases hd
    |some r=>
     rw[e]at hd
     cases hd
     walk_at "rd"
     refine⟨by show 2<=sizeLine;decide,rfl,?_⟩
     rw[take_snoc e,B6]
     rfl
   ·obtain⟨rfl,rfl⟩:=h
    rw[B4,y8]
    intro p hp
    exact go _ fin p hp
  ·walk_at "rd"
   refine tZ (ds:=rs.map row) (λ i acc M'=>M'=M/\acc=(rs.take i).map pairD) ⟨rfl,by simp⟩ (λ i acc M' hi h=>?_) (λ i acc M' hi h=>?_) (λ i d acc M' hd h=>?_) (λ acc M' h=>?_)
   ·obtain⟨rfl,_⟩:=h
    exact hl
   ·obtain⟨_,rfl⟩:=h
    rw[B4,A0]
    exact small (by omega)
   ·obtain⟨rfl,rfl⟩:=h
    rw[r9]at hd
    cases e:rs[i]? with
    |none=>rw[e]at hd;cases hd
    |some r=>
     rw[e]at hd
     cases hd
     walk_at "rd"
     refine⟨by show 2<=sizeLine;decide,rfl,?_⟩
     rw[take_snoc e,B6]
     rfl
   ·obtain⟨rfl,rfl⟩:=h
    rw[B4,y8]
    intro p hp
    exact go _ fin p hp
end
section
variable {P:Program}{w:World}{K:PySem.W.Frag}{mg:Str->Option Value}{base:Heap}
theorem nL:aK ["_law_heaps","_law_many"] ["_law_heaps","_law_many"] (ay (top 17)):=⟨rfl,rfl,rfl,by decide+kernel,rfl,by decide+kernel,by decide+kernel⟩
theorem yN{f:Addr}{fd:FuncData}(F:gb K "_law_counts" "_law_counts" (top 17) f fd)(T:jw K mg):bS P w K mg base fc 1 f fd ["_law_heaps","_law_many"] (cA K iL):=by
 refine jy F nL (λ ds M Q h=>?_) (λ cT A outer s H E ds M Q hr h=>?_)
 ·obtain⟨a,b,c,rfl,_⟩:=h
  rfl
 ·obtain⟨a,ns,n,rfl,hM,hz,k⟩:=h
  refine⟨_,(aq (aJ (jA dX dY (by rfl) T.tuple (by decide+kernel) (tgs:=["_law_h"]) (fr:=[0]) ⟨bA (by kernel_rfl),rfl,(λ _ _ h=>h),(bf rfl T.range (aa (ar 1) ae)),(aX (λ _ _ _ _ _=>(aH (i:=0) (show(["_law_h","_law_heaps"]:List Str).Nodup by decide+kernel) rfl (Or.inl rfl))) (by decide)),(λ _ _ _ _ _=>bq),(λ _ _ _ _ _=>(iI j0 PySem.F.slot_list_count PySem.F.type_list_count (Ga hr.units) (ar 1) (aa (ar 0) ae)))⟩))),?_⟩
  walk_at "rd"
  refine⟨cv (by omega) (by omega),?_⟩
  rw[u4]
  refine eT (xs:=List.range n) (enc:=HB) (λ h=>D.int ((ns.count (h:Int):Nat):Int)) (by simp;omega) (λ i x N hx hN=>?_) ?_
  ·walk_at "rd"
   refine⟨⟨rfl,_,hM⟩,?_⟩
   walk_at "rd"
   refine yB hM ?_
   rw[C9]
   exact hN
  ·refine aA ?_
   unfold row jo at k
   rw[D8]at k
   exact k
end
section
variable {P:Program}{w:World}{K:PySem.W.Frag}{mg:Str->Option Value}{base:Heap}
theorem fT:aK ["_law_flow_here","_law_many","_law_most","_law_heaps"] ["_law_flow_here","_law_many","_law_most"] (ay (top 23)):=⟨rfl,rfl,rfl,by decide+kernel,rfl,by decide+kernel,by decide+kernel⟩
theorem FI{f:Addr}{fd:FuncData}(F:gb K "_law_some_sum" "_law_some_sum" (top 23) f fd)(T:jw K mg)(aw:bM P w K mg base 1 "_law_pick" ["_law_flow_here","_law_many"] eY)(dk:bM P w K mg base 1 "_law_counts" ["_law_heaps","_law_many"] iL):bS P w K mg base fc 2 f fd ["_law_flow_here","_law_many","_law_most"] (cA K z_):=by
 refine jy F fT (λ ds M Q h=>?_) (λ cT A outer s H E ds M Q hr h=>?_)
 ·obtain⟨a,cc,b,c,rfl,_⟩:=h
  rfl
 ·obtain⟨a,cc,n,m,rfl,hF,hz,m0,m1,k⟩:=h
  refine⟨_,(ag (dw (i:=3) fT.nd rfl (Or.inl rfl) (tgs:=["_law_k"]) (fr:=[0,1]) ⟨bA (by kernel_rfl),rfl,(λ _ _ h=>h),(bf rfl T.range (aa (aY eC (aO (Dh rfl) (by rfl) T.min (by decide+kernel) (aa (ar 1) (aa aj ae))) (aE aw (hr.mono (by decide)) (by rfl) (aa (ar 0) (aa (aY aQ (ar 2) aj) ae)))) ae)),(aX (λ _ _ _ _ _=>(aH (i:=0) (show(["_law_k","_law_flow_here","_law_many"]:List Str).Nodup by decide+kernel) rfl (Or.inl rfl))) (by decide)),(λ _ _ _ _ _=>bq),(λ _ _ _ _ _=>(aE aw (hr.mono (by decide)) (by rfl) (aa (ar 1) (aa (ar 2) ae))))⟩)
 (aq (aJ (aE dk (hr.mono (by decide)) (by rfl) (aa (ar 3) (aa (ar 1) ae)))))),?_⟩
  walk_at "rd"
  refine⟨a,cc,m+1,rfl,hF,by omega,by omega,λ d o h0 h1 uB=>?_⟩
  have LC:(if(1:Int) < (n:Int)then(1:Int)else(n:Int))=if 1<=n then 1 else 0:=by
   split <;> split <;> omega
  rw[LC]
  refine dO (nu (by split <;> omega) (by split <;> omega)) ?_
  have hle:(if 1<=n then(1:Int)else 0)*d<=m/\0<=(if 1<=n then(1:Int)else 0)*d/\(n=0->(if 1<=n then(1:Int)else 0)*d=0):=by
   split
   ·rw[Int.one_mul];exact⟨by omega,h0,λ z=>by omega⟩
   ·rw[Int.zero_mul];exact⟨by omega,by omega,λ _=>rfl⟩
  generalize(if 1<=n then(1:Int)else 0)*d=c at hle ⊢
  obtain⟨c1,c0,cn⟩:=hle
  refine⟨cv (by omega) (by omega),?_⟩
  have F1:Fl a cc M _:=Fl.pick uB
  refine qv (xs:=List.range c.toNat) (enc:=HB) D.int (λ ns M'=>Fl a cc M M'/\∀x∈ns,0<=x/\x < (n:Int)) (by simp;omega) ⟨F1,λ x h=>by cases h⟩ (λ i x ys M' N hx hy h hN=>?_) (λ ns M' hl h=>?_)
  ·obtain⟨F2,h2⟩:=h
   have hi:=(i5.mp hx).1
   rw[w6]at hi
   have hn:n≠0:=λ z=>by have:=cn z;omega
   walk_at "rd"
   refine⟨a,cc,n,rfl,F2.aI,by omega,by omega,λ d2 o2 Pa h3 CG=>hN _ _ ⟨F2.trans (Fl.pick CG),λ x hx=>?_⟩⟩
   rcases B5.mp hx with q|q
   ·exact h2 x q
   ·have:x=d2:=by simpa using q
    omega
  ·obtain⟨F2,h2⟩:=h
   rw[w6]at hl
   intro p hp
   walk_at "rd"
   refine⟨p,ns,n,rfl,af,hz,aA (k ns _ (by omega) h2 (F2.trans (Fl.put F2.aI hp)))⟩
end
section
variable {P:Program}{w:World}{K:PySem.W.Frag}{mg:Str->Option Value}{base:Heap}
theorem cg:aK ["_law_flow_here","_law_many","_law_names_here","_law_k","_law_name_here","_law_spare"] ["_law_flow_here","_law_many"] (ay (top 15)):=⟨rfl,rfl,rfl,by decide+kernel,rfl,by decide+kernel,by decide+kernel⟩
theorem Bs{f:Addr}{fd:FuncData}(F:gb K "_law_names" "_law_names" (top 15) f fd)(T:jw K mg)(vV:bM P w K mg base 2 "_law_name" ["_law_flow_here"] (Hy 6)):bS P w K mg base fc 3 f fd ["_law_flow_here","_law_many"] (cA K lx):=by
 refine jy F cg (λ ds M Q h=>?_) (λ cT A outer s H E ds M Q hr h=>?_)
 ·obtain⟨a,cc,b,rfl,_⟩:=h
  rfl
 ·obtain⟨a,cc,n,rfl,hF,hz,k⟩:=h
  refine⟨_,(ag (aF (i:=2) cg.nd rfl (Or.inl rfl) (bT ae))
 (ag (dQ B0 rfl (bf rfl T.range (aa (ar 1) ae)) (bg (i:=3) cg.nd rfl (Or.inl rfl))
 (ag (aF (i:=4) cg.nd rfl (Or.inl rfl) (aE vV (hr.mono (by decide)) (by rfl) (aa (ar 0) ae)))
 (ag (aF (i:=5) cg.nd rfl (Or.inl rfl) aj)
 (ag (iG B0 (aS (HL hr.units) (ar 4) (ar 2) rfl)
 (ag (aF (i:=4) cg.nd rfl (Or.inl rfl) (aY eC (bE bo l_ (aY kf (ar 5) aj) (λ _ _=>rfl)) (aY aQ aj (aY pP (ar 5) aj))))
 (aq (aF (i:=5) cg.nd rfl (Or.inl rfl) (aY aQ (ar 5) aj)))))
 (aq (cw (iI j0 i7 i9 cM (ar 2) (aa (ar 4) ae))))))))
 (aq (aJ (ar 2))))),?_⟩
  walk_at "rd"
  refine⟨by decide,λ p hp=>?_⟩
  have uw:=(hF.ne hp).1
  walk_at "rd"
  refine⟨cv (by omega) (by omega),?_⟩
  rw[u4]
  refine fP (λ i δ M'=>∃(v1 v2 v3:Option D) (zs:List Str),δ=[some (.ref a),some (.int n),some (.ref p),v1,v2,v3]/\zs.length=i/\M' p=some (.lst (zs.map D.str))/\Fl a cc M M') ⟨none,none,none,[],rfl,rfl,af,Fl.put hF hp⟩ (λ i d δ M' hd h=>?_) (λ δ M' h=>?_)
  ·obtain⟨v1,v2,v3,zs,rfl,h2,h3,F1⟩:=h
   obtain⟨hi,rfl⟩:=cu hd
   walk_at "rd"
   refine⟨a,cc,rfl,F1.aI,λ z M1 XE F2=>?_⟩
   have F3:=F1.trans F2
   have h3:=F2.mv p _ uw h3
   walk_at "rd"
   refine iP ⟨λ m δ M'=>M'=M1/\∃(z:Str) (sp:Nat),δ=[some (.ref a),some (.int n),some (.ref p),some (.int (0+(i:Nat))),some (.str z),some (.int sp)]/\m=zs.length+2 - sp/\sp<=zs.length+1/\(0 < sp->z=qw (sp - 1))/\∀j,j+1 < sp->qw j∈zs,⟨_,rfl,z,0,rfl,rfl,E3 _,λ q=>absurd q (by omega),λ j q=>absurd q (by omega)⟩,?_⟩
   rintro m δ M' ⟨rfl,z,sp,rfl,rfl,zF,Vu,Uq⟩
   walk_at "rd"
   refine EB h3 (Ck z zs) ?_
   refine wN (λ ko=>?_) (λ ko=>?_)
   ·have ko:z∈zs:=by simpa using ko
    have all:∀j,j < sp->qw j∈zs:=λ j hj=>by
     by_cases e:j+1 < sp
     ·exact Uq j e
     ·have:j=sp - 1:=by omega
      rw[this,<- Vu (by omega)]
      exact ko
    have MG:sp<=zs.length:=Df (by omega) all
    refine⟨λ δ' M2=>M2=M'/\δ'=[some (.ref a),some (.int n),some (.ref p),some (.int (0+(i:Nat))),some (.str (qw sp)),some (.int ((sp+1:Nat):Int))],?_,?_⟩
    ·rintro δ' M2 ⟨rfl,rfl⟩
     exact⟨zs.length+2 - (sp+1),by omega,rfl,qw sp,sp+1,rfl,rfl,by omega,λ _=>rfl,λ j hj=>all j (by omega)⟩
    ·walk_at "rd"
     have em:(sp:Int) % 26=(sp:Int):=Int.emod_eq_of_lt (by omega) (by omega)
     have ed:(sp:Int) / 26=0:=Int.ediv_eq_zero_of_lt (by omega) (by omega)
     have bl:uh.length=26:=by decide+kernel
     have hc:gY (Str.ofString "zyxwvutsrqponmlkjihgfedcba").cps.toList ((sp:Int) % 26)=some (uh.getD sp 0):=by
      rw[em]
      refine cz ?_
      show uh[sp]?=_
      rw[e9]
      have:sp < uh.length:=by omega
      simp[this]
     refine uX (by decide+kernel) hc ?_
     walk_at "rd"
     rw[ed]
     refine AD (vt _) ?_
     walk_at "rd"
     exact⟨rfl,rfl⟩
   ·walk_at "rd"
    refine⟨⟨rfl,_,h3⟩,?_⟩
    walk_at "rd"
    refine eB h3 (by rw[B4];exact p9 (show zs.length<=12 by omega) (by decide)) ?_
    walk_at "rd"
    exact⟨_,_,_,zs++[z],rfl,by simp[h2],by rw[af,B6];rfl,F3.own hF hp⟩
  ·obtain⟨v1,v2,v3,zs,rfl,h2,h3,F1⟩:=h
   rw[aV]at h2
   walk_at "rd"
   exact aA (k p zs _ h2 hp h3 F1)
end
section
variable {P:Program}{w:World}{K:PySem.W.Frag}{mg:Str->Option Value}{base:Heap}
theorem pA:aK ["_law_found","_law_due"] ["_law_found","_law_due"] (ay (top 13)):=⟨rfl,rfl,rfl,by decide+kernel,rfl,by decide+kernel,by decide+kernel⟩
theorem KW{f:Addr}{fd:FuncData}(F:gb K "_law_alike" "_law_alike" (top 13) f fd)(T:jw K mg)(V0:mg "_law_alike"=some (.ref f))(O8:Binds K fd ["_law_found","_law_due"] []):∀k,bS P w K mg base fc (k+1) f fd ["_law_found","_law_due"] (cA K (rC k)):=by
 intro k
 induction k with
 |zero=>exact GL DU
 |succ k ih=>
 have cf:=bG.of F ih V0 O8
 rw[show k+1+1=k+1+1 by omega]
 clear ih
 refine jy F pA (λ ds M Q h=>?_) (λ cT A outer s H E ds M Q hr h=>?_)
 ·obtain⟨x,y,rfl,_⟩:=h
  rfl
 ·obtain⟨x,y,rfl,hs,k⟩:=h
  refine⟨_,(ag (cp (aS Bz (ar 1) rf (aR _))
 (aq (aJ (og Bz (ar 0) rf (aR _))))
 bp)
 (ag (cp (zP (h_ (aO (fW T.qi) (by rfl) T.isinstance (by decide+kernel) (aa (ar 1) (aa (kJ (n:="bool") (by rfl) T.bool (by decide+kernel)) ae)))) (uH (h_ (aO (fW T.qi) (by rfl) T.isinstance (by decide+kernel) (aa (ar 0) (aa (kJ (n:="bool") (by rfl) T.bool (by decide+kernel)) ae)))))).pt
 (aq (aJ (w_and (aO (fW T.qi) (by rfl) T.isinstance (by decide+kernel) (aa (ar 1) (aa (kJ (n:="bool") (by rfl) T.bool (by decide+kernel)) ae))) (w_and (aO (fW T.qi) (by rfl) T.isinstance (by decide+kernel) (aa (ar 0) (aa (kJ (n:="bool") (by rfl) T.bool (by decide+kernel)) ae))) (q_ (og (eO hr.units) (ar 0) (ar 1) (aR _)))))))
 bp)
 (ag (cp (h_ (aO (fW T.HR) (by rfl) T.isinstance (by decide+kernel) (aa (ar 1) (aa (kJ (n:="int") (by rfl) T.int (by decide+kernel)) ae))))
 (aq (aJ (w_and (aO (fW T.HR) (by rfl) T.isinstance (by decide+kernel) (aa (ar 0) (aa (kJ (n:="int") (by rfl) T.int (by decide+kernel)) ae))) (q_ (og (eO hr.units) (ar 0) (ar 1) (aR _))))))
 bp)
 (ag (cp (h_ (aO (fW T.HQ) (by rfl) T.isinstance (by decide+kernel) (aa (ar 1) (aa (kJ (n:="str") (by rfl) T.str (by decide+kernel)) ae))))
 (aq (aJ (w_and (aO (fW T.HQ) (by rfl) T.isinstance (by decide+kernel) (aa (ar 0) (aa (kJ (n:="str") (by rfl) T.str (by decide+kernel)) ae))) (q_ (og (eO hr.units) (ar 0) (ar 1) (aR _))))))
 bp)
 (ag (cp (zP (aS (w_ hr.units) (aO (fW T.xw) (by rfl) T.isinstance (by decide+kernel) (aa (ar 1) (aa (kJ (n:="tuple") (by rfl) T.tuple (by decide+kernel)) ae))) (aO (fW T.xw) (by rfl) T.isinstance (by decide+kernel) (aa (ar 0) (aa (kJ (n:="tuple") (by rfl) T.tuple (by decide+kernel)) ae))) (aR _)) (uH (aS (w_ hr.units) (aO (fW T.Cv) (by rfl) T.isinstance (by decide+kernel) (aa (ar 1) (aa (kJ (n:="list") (by rfl) T.list (by decide+kernel)) ae))) (aO (fW T.Cv) (by rfl) T.isinstance (by decide+kernel) (aa (ar 0) (aa (kJ (n:="list") (by rfl) T.list (by decide+kernel)) ae))) (aR _)))).pt
 (aq (aJ rg))
 bp)
 (aq (aJ (w_and (og (eO hr.units) (aO gO (by rfl) T.len (by decide+kernel) (aa (ar 0) ae)) (aO gO (by rfl) T.len (by decide+kernel) (aa (ar 1) ae)) (aR _)) (q_ (uJ (PF rfl) DL (by rfl) T.all (by decide+kernel) (tgs:=["_law_k"]) (fr:=[0,1]) ⟨bA (by kernel_rfl),rfl,(λ _ _ h=>h),(bf rfl T.range (aa (aO gO (by rfl) T.len (by decide+kernel) (aa (ar 1) ae)) ae)),(aX (λ _ _ _ _ _=>(aH (i:=0) (show(["_law_k","_law_found","_law_due"]:List Str).Nodup by decide+kernel) rfl (Or.inl rfl))) (by decide)),(λ _ _ _ _ _=>bq),(λ _ _ _ _ _=>(aE cf (hr.mono (by omega)) (by rfl) (aa (bE bo (ar 1) (ar 0) (λ _ _=>rfl)) (aa (bE bo (ar 2) (ar 0) (λ _ _=>rfl)) ae))))⟩)))))))))),?_⟩
  rcases hs with⟨rfl,hx⟩|⟨ds,es,rfl,rfl,hl,hz,hs⟩|⟨p,q,ds,es,rfl,rfl,hp,hq,hl,hz,hs⟩
  ·cases x with
   |bj=>
    walk_at "rx"
    refine mF ?_
    walk_at "rx"
    refine mF ?_
    walk_at "rx"
    exact aA k
   |bl b=>
    walk_at "rx"
    refine gQ (by simp[mi]) ?_
    walk_at "rx"
    refine bx (n:="bool") rfl (b:=true) (by decide) ?_
    walk_at "rx"
    refine bx (n:="bool") rfl (b:=true) (by decide) ?_
    walk_at "rx"
    refine bx (n:="bool") rfl (b:=true) (by decide) ?_
    walk_at "rx"
    rw[B8 (rfl:b=b)]
    exact aA k
   |int i=>
    walk_at "rx"
    refine gQ (by simp[mi]) ?_
    walk_at "rx"
    refine bx (n:="int") rfl (b:=false) (by decide) ?_
    walk_at "rx"
    refine bx (n:="int") rfl (b:=false) (by decide) ?_
    walk_at "rx"
    refine bx (n:="int") rfl (b:=true) (by decide) ?_
    walk_at "rx"
    refine bx (n:="int") rfl (b:=true) (by decide) ?_
    walk_at "rx"
    rw[B8 (rfl:i=i)]
    exact aA k
   |str z=>
    walk_at "rx"
    refine gQ (by simp[mi]) ?_
    walk_at "rx"
    refine bx (n:="str") rfl (b:=false) (by decide) ?_
    walk_at "rx"
    refine bx (n:="str") rfl (b:=false) (by decide) ?_
    walk_at "rx"
    refine bx (n:="str") rfl (b:=false) (by decide) ?_
    walk_at "rx"
    refine bx (n:="str") rfl (b:=true) (by decide) ?_
    walk_at "rx"
    refine bx (n:="str") rfl (b:=true) (by decide) ?_
    walk_at "rx"
    rw[B8 (rfl:z=z)]
    exact aA k
   |_=>cases hx
  ·walk_at "rx"
   refine gQ (by simp[mi]) ?_
   walk_at "rx"
   refine bx (n:="tuple") rfl (b:=false) (by decide) ?_
   walk_at "rx"
   refine bx (n:="tuple") rfl (b:=false) (by decide) ?_
   walk_at "rx"
   refine bx (n:="tuple") rfl (b:=false) (by decide) ?_
   walk_at "rx"
   refine bx (n:="tuple") rfl (b:=false) (by decide) ?_
   walk_at "rx"
   refine bx (n:="tuple") rfl (b:=true) (by decide) ?_
   walk_at "rx"
   refine bx (n:="tuple") rfl (b:=true) (by decide) ?_
   walk_at "rx"
   refine lH (λ h=>absurd rfl h) (λ _=>?_)
   walk_at "rx"
   refine bx (n:="tuple") rfl (b:=false) (by decide) ?_
   walk_at "rx"
   refine bx (n:="tuple") rfl (b:=false) (by decide) ?_
   walk_at "rx"
   refine lH (λ h=>absurd rfl h) (λ _=>?_)
   walk_at "rx"
   rw[hl]
   refine bh (λ _=>?_) (λ hl=>absurd rfl hl)
   walk_at "rx"
   refine⟨cv (by omega) (by omega),?_⟩
   rw[u4]
   refine eI (λ i acc M'=>M'=M/\acc=(List.replicate i true).map D.bl) ⟨rfl,rfl⟩ (λ i acc M' hi h=>?_) (λ i d acc M' hd h=>?_) (λ acc M' h=>?_)
   ·obtain⟨_,rfl⟩:=h
    rw[aV]at hi
    simp only[B4,l7]
    exact small (by omega)
   ·obtain⟨rfl,rfl⟩:=h
    obtain⟨hi,rfl⟩:=cu hd
    walk_at "rx"
    refine gx (lU (by omega)) ?_
    walk_at "rx"
    refine gx (lU hi) ?_
    refine⟨_,_,rfl,hs i _ _ (i8 (by omega)) (i8 hi),rfl,?_⟩
    rw[replicate_succ',B6]
    rfl
   ·obtain⟨rfl,rfl⟩:=h
    unfold xR
    rw[ny]
    show fin2 Q (.bl ((List.replicate _ true).all id)) _
    rw[qH]
    exact aA k
  ·have tp:mi M (.ref p)=some "list":=by show(aW M p).map (λ _=>"list")=_;unfold aW;rw[hp];rfl
   have tq:mi M (.ref q)=some "list":=by show(aW M q).map (λ _=>"list")=_;unfold aW;rw[hq];rfl
   walk_at "rx"
   refine gQ (by rw[tq];simp) ?_
   walk_at "rx"
   refine bx tq (b:=false) (by decide) ?_
   walk_at "rx"
   refine bx tp (b:=false) (by decide) ?_
   walk_at "rx"
   refine bx tq (b:=false) (by decide) ?_
   walk_at "rx"
   refine bx tq (b:=false) (by decide) ?_
   walk_at "rx"
   refine bx tq (b:=false) (by decide) ?_
   walk_at "rx"
   refine bx tp (b:=false) (by decide) ?_
   walk_at "rx"
   refine lH (λ h=>absurd rfl h) (λ _=>?_)
   walk_at "rx"
   refine bx tq (b:=true) (by decide) ?_
   walk_at "rx"
   refine bx tp (b:=true) (by decide) ?_
   walk_at "rx"
   refine lH (λ h=>absurd rfl h) (λ _=>?_)
   walk_at "rx"
   rw[hl]
   refine bh (λ _=>?_) (λ hl=>absurd rfl hl)
   walk_at "rx"
   refine⟨cv (by omega) (by omega),?_⟩
   rw[u4]
   refine eI (λ i acc M'=>M'=M/\acc=(List.replicate i true).map D.bl) ⟨rfl,rfl⟩ (λ i acc M' hi h=>?_) (λ i d acc M' hd h=>?_) (λ acc M' h=>?_)
   ·obtain⟨_,rfl⟩:=h
    rw[aV]at hi
    simp only[B4,l7]
    exact small (by omega)
   ·obtain⟨rfl,rfl⟩:=h
    obtain⟨hi,rfl⟩:=cu hd
    walk_at "rx"
    refine bW hp (lU (by omega)) ?_
    walk_at "rx"
    refine bW hq (lU hi) ?_
    refine⟨_,_,rfl,hs i _ _ (i8 (by omega)) (i8 hi),rfl,?_⟩
    rw[replicate_succ',B6]
    rfl
   ·obtain⟨rfl,rfl⟩:=h
    unfold xR
    rw[ny]
    show fin2 Q (.bl ((List.replicate _ true).all id)) _
    rw[qH]
    exact aA k
end
section
variable {P:Program}{w:World}{K:PySem.W.Frag}{mg:Str->Option Value}{base:Heap}
theorem gp:aK ["game","counts","told","h","heap","rest"] ["game","counts"] (ay (top 5)):=⟨rfl,rfl,rfl,by decide+kernel,rfl,by decide+kernel,by decide+kernel⟩
theorem Bt{f:Addr}{fd:FuncData}(F:gb K "moves" "moves" (top 5) f fd)(T:jw K mg)(vU:bM P w K mg base 1 "one_less" ["counts","heap"] Ad)(GX:bM P w K mg base 1 "added" ["one","other"] Hz):bS P w K mg base fc 2 f fd ["game","counts"] (cA K ly):=by
 refine jy F gp (λ ds M Q h=>?_) (λ cT A outer s H E ds M Q hr h=>?_)
 ·obtain⟨n,g,as,rfl,_⟩:=h
  rfl
 ·obtain⟨n,g,as,rfl,G,ha,k⟩:=h
  have hfew:=G.oR
  refine⟨_,(ag (aF (i:=2) gp.nd rfl (Or.inl rfl) (bT ae))
 (ag (dQ B0 rfl (iH rfl T.enumerate (aa (ar 0) ae)) (ic (n:=2) rfl (bK (bg (i:=3) gp.nd rfl (Or.inr rfl)) (bK (bg (i:=4) gp.nd rfl (Or.inl rfl)) fG)))
 (aq (cp (aS rZ (bE bo (ar 1) (ar 3) (λ _ _=>rfl)) aj (aR _))
 (ag (aF (i:=5) gp.nd rfl (Or.inr rfl) (aE vU (hr.mono (by decide)) (by rfl) (aa (ar 1) (aa (ar 3) ae))))
 (aq (cw (iI j0 PySem.F.slot_list_extend PySem.F.type_list_extend mP (ar 2) (aa (eX (tgs:=["k","option"]) (fr:=[3,5]) ⟨bA (by kernel_rfl),rfl,(λ _ _ h=>h),(iH rfl T.enumerate (aa (bE bo (ar 4) aj (λ _ _=>rfl)) ae)),(ff (λ _ _ _ _ _=>(il rfl (bX (aH (i:=0) (show(["k","option","h","rest"]:List Str).Nodup by decide+kernel) rfl (Or.inl rfl)) (bX (aH (i:=1) (show(["k","option","h","rest"]:List Str).Nodup by decide+kernel) rfl (Or.inl rfl)) fM)))) (by decide) (by decide)),(λ _ _ _ _ _=>bq),(λ _ _ _ _ _=>(bZ (aa (ar 2) (aa (ar 0) (aa (aE GX (hr.mono (by decide)) (by rfl) (aa (ar 3) (aa (ar 1) ae))) ae)))))⟩) ae)))))
 bp)))
 (aq (aJ (ar 2))))),?_⟩
  walk_at "rd"
  refine⟨by decide,λ p hp=>?_⟩
  walk_at "rd"
  refine fP (λ i δ M'=>∃(v1 v2 v3:Option D),δ=[some (cb g),some (row as),some (.ref p),v1,v2,v3]/\M' p=some (.lst (kT g as i))/\Ext M M') ⟨none,none,none,rfl,af,kU (λ b o e=>e) hp _⟩ (λ i d δ M' hd h=>?_) (λ δ M' h=>?_)
  ·obtain⟨v1,v2,v3,rfl,h3,hM⟩:=h
   obtain⟨hi,rfl⟩:=lS hd
   rw[B4]at hi
   rw[oO hi]
   have ko:i < n:=by rw[<- G.len];exact hi
   obtain⟨ho,Gx⟩:=G.at ko
   generalize qR:g.getD i ir=hp at*
   obtain⟨nm,os⟩:=hp
   have ho:os.length<=63:=ho
   have Gx:∀r∈os,r.length=n:=Gx
   have ml:=lM G as i (by omega)
   have step:kT g as (i+1)=kT g as i++opt as i (mM as i os os.length):=by
    show kT g as i++opt as i (mM as i (g.getD i ir).2 (g.getD i ir).2.length)=_
    rw[qR]
   walk_at "rd"
   refine gx (cN (by omega)) ?_
   walk_at "rd"
   refine bh (λ jO=>?_) (λ jO=>?_)
   ·have eo:opt as i (mM as i os os.length)=mM as i os os.length:=J4 jO
    walk_at "rd"
    refine⟨as,i,rfl,by omega,by omega,?_⟩
    walk_at "rd"
    refine⟨⟨rfl,_,h3⟩,?_⟩
    walk_at "rd"
    refine eI (λ j acc M2=>M2=M'/\acc=mM as i os j) ⟨rfl,rfl⟩ (λ j acc M2 hj h=>?_) (λ j d acc M2 hd h=>?_) (λ acc M2 h=>?_)
    ·obtain⟨_,rfl⟩:=h
     rw[dD,B4]at hj
     rw[iY]
     exact small (by have:=ho;show j<=10000;omega)
    ·obtain⟨rfl,rfl⟩:=h
     obtain⟨hj,rfl⟩:=lS hd
     rw[B4]at hj
     rw[tf hj]
     have hl:=Gx _ (getD_mem hj)
     walk_at "rd"
     refine⟨less as i,os.getD j [],rfl,by rw[gE (by omega)];omega,by rw[gE (by omega)];omega,?_⟩
     walk_at "rd"
     refine⟨by show 3<=sizeLine;decide,rfl,?_⟩
     rw[sk]
     rfl
    ·obtain⟨rfl,rfl⟩:=h
     rw[dD,B4]
     intro q hq
     have oM:p≠q:=λ z=>by subst z;rw[h3]at hq;cases hq
     walk_at "rd"
     refine uY (by rw[ah oM];exact h3) af ?_ ?_
     ·rw[iY]
      have ho:os.length<=63:=ho
      exact small (by omega)
     ·walk_at "rd"
      refine⟨_,_,_,rfl,?_,Ext.own (kU hM hq _) hp⟩
      rw[af,step,eo]
   ·have eo:opt as i (mM as i os os.length)=[]:=J5 jO
    walk_at "rd"
    refine⟨_,_,_,rfl,?_,hM⟩
    rw[step,eo,A3]
    exact h3
  ·obtain⟨v1,v2,v3,rfl,h3,hM⟩:=h
   rw[dD,B4,G.len]at h3
   walk_at "rd"
   exact aA (k p M' hp h3 hM)
end
section
variable {P:Program}{w:World}{K:PySem.W.Frag}{mg:Str->Option Value}{base:Heap}
theorem cj:aK ["_law_game_here","_law_counts_here","_law_found","_law_h","_law_heap","_law_k","_law_more","_law_later"] ["_law_game_here","_law_counts_here"] (ay (top 22)):=⟨rfl,rfl,rfl,by decide+kernel,rfl,by decide+kernel,by decide+kernel⟩
theorem yL{f:Addr}{fd:FuncData}(F:gb K "_law_moves" "_law_moves" (top 22) f fd)(T:jw K mg):bS P w K mg base fc 2 f fd ["_law_game_here","_law_counts_here"] (cA K ly):=by
 refine jy F cj (λ ds M Q h=>?_) (λ cT A outer s H E ds M Q hr h=>?_)
 ·obtain⟨n,g,as,rfl,_⟩:=h
  rfl
 ·obtain⟨n,g,as,rfl,G,ha,k⟩:=h
  have hfew:=G.oR
  refine⟨_,(ag (aF (i:=2) cj.nd rfl (Or.inl rfl) (bT ae))
 (ag (dQ B0 rfl (iH rfl T.enumerate (aa (ar 0) ae)) (ic (n:=2) rfl (bK (bg (i:=3) cj.nd rfl (Or.inl rfl)) (bK (bg (i:=4) cj.nd rfl (Or.inl rfl)) fG)))
 (aq (dQ B0 rfl (iH rfl T.enumerate (aa (bE bo (ar 4) aj (λ _ _=>rfl)) ae)) (ic (n:=2) rfl (bK (bg (i:=5) cj.nd rfl (Or.inl rfl)) (bK (bg (i:=6) cj.nd rfl (Or.inl rfl)) fG)))
 (aq (cp (aS rZ (bE bo (ar 1) (ar 3) (λ _ _=>rfl)) aj (aR _))
 (ag (dw (i:=7) cj.nd rfl (Or.inl rfl) (tgs:=["_law_a","_law_b"]) (fr:=[]) ⟨bA (by kernel_rfl),rfl,(λ _ _ h=>h),(wt rfl T.zip (aa (ar 1) (aa (ar 6) ae))),(ff (λ _ _ _ _ _=>(il rfl (bX (aH (i:=0) (show(["_law_a","_law_b"]:List Str).Nodup by decide+kernel) rfl (Or.inl rfl)) (bX (aH (i:=1) (show(["_law_a","_law_b"]:List Str).Nodup by decide+kernel) rfl (Or.inl rfl)) fM)))) (by decide) (by decide)),(λ _ _ _ _ _=>bq),(λ _ _ _ _ _=>(aY aQ (ar 0) (ar 1)))⟩)
 (ag (dy (aY oB (bE bo (ar 7) (ar 3) (λ _ _=>rfl)) aj) (eW (ar 7) (ar 3) j_))
 (aq (cw (iI j0 i7 i9 cM (ar 2) (aa (bZ (aa (ar 3) (aa (ar 5) (aa (eN dX (by rfl) T.tuple (by decide+kernel) (aa (ar 7) ae)) ae)))) ae))))))
 bp)))))
 (aq (aJ (ar 2))))),?_⟩
  walk_at "rd"
  refine⟨by decide,λ p hp=>?_⟩
  walk_at "rd"
  refine fP (λ i δ M'=>∃(v1 v2 v3 v4 v5:Option D),δ=[some (cb g),some (row as),some (.ref p),v1,v2,v3,v4,v5]/\M' p=some (.lst (kT g as i))/\Ext M M') ⟨none,none,none,none,none,rfl,af,kU (λ b o e=>e) hp _⟩ (λ i d δ M' hd h=>?_) (λ δ M' h=>?_)
  ·obtain⟨v1,v2,v3,v4,v5,rfl,h3,hM⟩:=h
   obtain⟨hi,rfl⟩:=lS hd
   rw[B4]at hi
   rw[oO hi]
   have ko:i < n:=by rw[<- G.len];exact hi
   obtain⟨ho,Gx⟩:=G.at ko
   generalize qR:g.getD i ir=hp at*
   obtain⟨nm,os⟩:=hp
   have ho:os.length<=63:=ho
   have Gx:∀r∈os,r.length=n:=Gx
   have ml:=lM G as i (by omega)
   have step:kT g as (i+1)=kT g as i++opt as i (mM as i os os.length):=by
    show kT g as i++opt as i (mM as i (g.getD i ir).2 (g.getD i ir).2.length)=_
    rw[qR]
   walk_at "rd"
   refine fP (λ j δ M'=>∃(v3 v4 v5:Option D),δ=[some (cb g),some (row as),some (.ref p),some (.int (i:Int)),some (gJ (nm,os)),v3,v4,v5]/\M' p=some (.lst (kT g as i++opt as i (mM as i os j)))/\Ext M M') ⟨_,_,_,rfl,?_,hM⟩ (λ j d δ M1 hd h=>?_) (λ δ M1 h=>?_)
   ·have:opt as i (mM as i os 0)=[]:=by unfold opt mM;split <;> rfl
    rw[this,A3]
    exact h3
   ·obtain⟨v3,v4,v5,rfl,h3,hM⟩:=h
    obtain⟨hj,rfl⟩:=lS hd
    rw[B4]at hj
    rw[tf hj]
    have hl:=Gx _ (getD_mem hj)
    walk_at "rd"
    refine gx (cN (by omega)) ?_
    walk_at "rd"
    refine bh (λ jO=>?_) (λ jO=>?_)
    ·have eo:opt as i (mM as i os (j+1))=opt as i (mM as i os j)++[SA as i (os.getD j []) j]:=by
      unfold opt
      rw[J4 jO,J4 jO,sk]
     have W0:(opt as i (mM as i os j)).length=j:=by
      unfold opt
      rw[J4 jO,iY]
     walk_at "rd"
     generalize os.getD j []=o at*
     refine Md (as:=as) (bs:=o) (λ p=>D.int (p.1+p.2)) (by omega) (λ _ x N hx hN=>?_) ?_
     ·walk_at "rd"
      exact hN
     rw[Bg]
     intro q hq
     have hpl:(plus as o).length=n:=by unfold plus;rw[length_zipWith];omega
     have oM:p≠q:=λ z=>by subst z;rw[h3]at hq;cases hq
     walk_at "rd"
     refine bW af (cN (by omega)) ?_
     walk_at "rd"
     refine AA af (by rw[B4];exact Ls (by omega) (by omega)) ?_
     rw[cF]
     walk_at "rd"
     refine⟨⟨rfl,_,by rw[ah oM];exact h3⟩,?_⟩
     walk_at "rd"
     refine jF af ?_
     walk_at "rd"
     refine⟨by show 3<=sizeLine;decide,?_⟩
     walk_at "rd"
     refine eB (by rw[ah oM];exact h3) (by rw[p5,W0];exact p9 (show _<=10000 by omega) (by decide)) ?_
     walk_at "rd"
     refine⟨_,_,_,rfl,?_,Ext.own (kU hM hq _) hp⟩
     rw[af,eo,u4]
     have e:((plus as o).map D.int).set i (.int ((plus as o).getD i 0 - 1))=(plus (less as i) o).map D.int:=by
      rw[<- yG (by omega) (by omega),map_set]
     rw[e,u7]
     rfl
    ·walk_at "rd"
     refine⟨_,_,_,rfl,?_,hM⟩
     have eo:∀l,opt as i l=[]:=λ l=>J5 jO
     rw[eo]at h3 ⊢
     exact h3
   ·obtain⟨v3,v4,v5,rfl,h3,hM⟩:=h
    rw[dD,B4]at h3
    walk_at "rd"
    exact⟨_,_,_,_,_,rfl,by rw[step];exact h3,hM⟩
  ·obtain⟨v1,v2,v3,v4,v5,rfl,h3,hM⟩:=h
   rw[dD,B4,G.len]at h3
   walk_at "rd"
   exact aA (k p M' hp h3 hM)
end
def Ab:eK:=λ ds M Q=>∃as:Row,ds=[row as]/\as.length<=1000/\∀m,M m=none->Q (.tup [.int as.sum,.ref m]) (ak M m (.lst ((as.map λ a=>0 - a).map D.int)))
def Hx:eK:=λ ds M Q=>∃(l:Addr) (rs:List Row),ds=[.ref l]/\M l=some (.lst (rs.map row))/\rs.length < 1000000/\(∀r∈rs,r.length<=1000)/\∀(p:Addr) (out:List Row),M p=none->out.Perm rs->out.Pairwise Iw->Q (.ref p) (ak M p (.lst (out.map row)))
section
variable {P:Program}{w:World}{K:PySem.W.Frag}{mg:Str->Option Value}{base:Heap}
theorem pv:aK ["counts"] ["counts"] (ay (top 2)):=⟨rfl,rfl,rfl,by decide+kernel,rfl,by decide+kernel,by decide+kernel⟩
theorem FL{f:Addr}{fd:FuncData}(F:gb K "order_key" "order_key" (top 2) f fd)(T:jw K mg):bS P w K mg base fc 1 f fd ["counts"] (cA K Ab):=by
 refine jy F pv (λ ds M Q h=>?_) (λ cT A outer s H E ds M Q hr h=>?_)
 ·obtain⟨a,rfl,_⟩:=h
  rfl
 ·obtain⟨as,rfl,hz,k⟩:=h
  refine⟨_,(aq (aJ (bZ (aa (aO (xV rfl) (by rfl) T.sum (by decide+kernel) (aa (ar 0) ae)) (aa (eX (tgs:=["many"]) (fr:=[]) ⟨bA (by kernel_rfl),rfl,(λ _ _ h=>h),(cO (ar 0)),(aX (λ _ _ _ _ _=>(aH (i:=0) (show(["many"]:List Str).Nodup by decide+kernel) rfl (Or.inl rfl))) (by decide)),(λ _ _ _ _ _=>bq),(λ _ _ _ _ _=>(RA Na (ar 0)))⟩) ae))))),?_⟩
  walk_at "rd"
  refine wI ?_
  walk_at "rd"
  refine eI (λ i acc M'=>M'=M/\acc=((as.map λ a=>0 - a).take i).map D.int) ⟨rfl,by simp⟩ (λ i acc M' hi h=>?_) (λ i d acc M' hd h=>?_) (λ acc M' h=>?_)
  ·obtain⟨_,rfl⟩:=h
   rw[B4,A0]
   rw[B4]at hi
   exact small (by omega)
  ·obtain⟨rfl,rfl⟩:=h
   rw[r9]at hd
   cases e:as[i]? with
   |none=>rw[e]at hd;cases hd
   |some a=>
    rw[e]at hd
    cases hd
    walk_at "rd"
    refine⟨rfl,?_⟩
    rw[take_snoc (a:=0 - a) (by simp[e]),B6,Int.zero_sub]
    rfl
  ·obtain⟨rfl,rfl⟩:=h
   intro p hp
   walk_at "rd"
   refine⟨by show 2<=sizeLine;decide,aA ?_⟩
   have e:(as.map λ a=>0 - a).take (as.map D.int).length=as.map λ a=>0 - a:=by rw[B4];exact j7 (by simp)
   rw[e]
   exact k p hp
theorem rF:aK ["sums"] ["sums"] (ay (top 3)):=⟨rfl,rfl,rfl,by decide+kernel,rfl,by decide+kernel,by decide+kernel⟩
theorem KS{f:Addr}{fd:FuncData}(F:gb K "in_order" "in_order" (top 3) f fd)(T:jw K mg)(tM:bM P w K mg base 1 "order_key" ["counts"] Ab):bS P w K mg base fc 4 f fd ["sums"] (cA K Hx):=by
 refine jy F rF (λ ds M Q h=>?_) (λ cT A outer s H E ds M Q hr h=>?_)
 ·obtain⟨a,rs,rfl,_⟩:=h
  rfl
 ·obtain⟨l,rs,rfl,hM,uC,hz,k⟩:=h
  refine⟨_,(aq (aJ (jB tM (hr.mono (by decide)) (by rfl) T.sorted (by rfl) (ar 0)))),?_⟩
  walk_at "rd"
  refine⟨l,rs.map row,false,λ cK M'=>(∀b o,M b=some o->M' b=some o)/\cK.length<=rs.length/\∀i k,cK[i]?=some k->wj false M' k (vG (rs.getD i [])),λ i=>vG (rs.getD i []),rfl,hM,by rw[B4];exact uC,⟨λ b o e=>e,E3 _,λ i k e=>by simp at e⟩,?_,?_⟩
  ·rintro cK M' e ⟨h1,h2,h3⟩ he
   rw[r9]at he
   cases er:rs[cK.length]? with
   |none=>rw[er]at he;cases he
   |some r=>
    rw[er]at he
    cases he
    have fO:cK.length < rs.length:=(i5.mp er).1
    refine⟨r,rfl,hz r (m5 er),λ m hm=>⟨λ b o e=>?_,?_,λ i k e=>?_⟩⟩
    ·rw[ah (λ z=>by rw[<- z,h1 b o e]at hm;cases hm)]
     exact h1 b o e
    ·rw[p5,k9];omega
    ·by_cases hi:i < cK.length
     ·rw[g9 hi]at e
      obtain⟨m',e1,e2⟩:=h3 i k e
      exact⟨m',e1,by rw[ah (λ z=>by rw[z,hm]at e2;cases e2)];exact e2⟩
     ·rw[e7 (by omega)]at e
      have GD:i - cK.length=0:=by
       have:=(i5.mp e).1
       simp at this
       omega
      rw[GD]at e
      have e:D.tup [.int r.sum,.ref m]=k:=by simpa using e
      have OZ:i=cK.length:=by omega
      subst OZ
      refine⟨m,?_,?_⟩
      ·rw[<- e,e9,er];rfl
      ·rw[af,e9,er];rfl
  ·rintro cK M' ⟨h1,h2,h3⟩ hl
   refine⟨h3,λ p outD hp ho=>?_⟩
   obtain⟨out,rfl,o1,o2⟩:=rX ho
   have eL:M p=none:=by
    cases e:M p with
    |none=>rfl
    |some o=>rw[h1 p o e]at hp;cases hp
   refine⟨ak M p (.lst (out.map row)),λ a o e=>?_,k p out eL o1 o2⟩
   by_cases ha:a=p
   ·subst ha
    rw[af]at e ⊢
    exact e
   ·rw[ah ha]at e ⊢
    exact h1 a o e
end
def lL(g:List bB)(n:Nat):Row->List Row:=λ b=>qP g b n
def Hw:eK:=λ ds M Q=>∃(n:Nat) (g:List bB) (as:Row),ds=[cb g,row as]/\fR n g/\as.length=n/\∀(p:Addr) (rs:List Row) (M':Mem),M p=none->M' p=some (.lst (rs.map row))->(∀r,r∈rs↔r∈qP g as n)->rs.length<=756->Ext M M'->Q (.ref p) M'
def zZ:eK:=λ ds M Q=>∃(n:Nat) (g:List bB) (as:Row) (U:List Row),ds=[cb g,row as]/\fR n g/\as.length=n/\U.length<=5000/\as∈U/\(∀b∈U,b.length=n)/\(∀b∈U,∀c∈lL g n b,c∈U)/\∀(p:Addr) (kvs:List (Row×D)) (M':Mem),M p=none->M' p=some (.dr true (gU kvs))->Ext M M'->(∀r,r∈kvs.map (·.1)↔ju (lL g n) as r)->(kvs.map (·.1)).Nodup->(∀r∈kvs.map (·.1),r∈U)->Q (.ref p) M'
def PJ(n:Nat)(g:List bB)(as:Row)(U:List Row)(u w:Addr)(M:Mem)(m:Nat)(δ:dq)(M':Mem):Prop:=∃(v:Option D) (kvs:List (Row×D)) (ws:List Row),δ=[some (cb g),some (row as),some (.ref u),some (.ref w),v]/\M' u=some (.dr true (gU kvs))/\M' w=some (.lst (ws.map row))/\Ext M M'/\Wk (lL g n) as U (kvs.map (·.1)) ws/\m=(U.length - kvs.length)*757+ws.length
def wF:eK:=λ ds M Q=>∃(n:Nat) (g:List bB) (as:Row) (U:List Row),ds=[cb g,row as]/\fR n g/\as.length=n/\U.length<=5000/\as∈U/\(∀b∈U,b.length=n)/\(∀b∈U,∀c∈lL g n b,c∈U)/\∀(p:Addr) (l:List Row) (M':Mem),M p=none->M' p=some (.lst (l.map row))->Ext M M'->nX n (ju (lL g n) as) l->Q (.ref p) M'
section
variable {P:Program}{w:World}{K:PySem.W.Frag}{mg:Str->Option Value}{base:Heap}
theorem jE:aK ["game","counts","unlike","move"] ["game","counts"] (ay (top 7)):=⟨rfl,rfl,rfl,by decide+kernel,rfl,by decide+kernel,by decide+kernel⟩
theorem yM{f:Addr}{fd:FuncData}(F:gb K "led_to" "led_to" (top 7) f fd)(T:jw K mg)(GW:bM P w K mg base 2 "moves" ["game","counts"] ly):bS P w K mg base fc 3 f fd ["game","counts"] (cA K Hw):=by
 refine jy F jE (λ ds M Q h=>?_) (λ cT A outer s H E ds M Q hr h=>?_)
 ·obtain⟨n,g,as,rfl,_⟩:=h
  rfl
 ·obtain⟨n,g,as,rfl,G,ha,k⟩:=h
  have oR:=pQ G as
  refine⟨_,(ag (aF (i:=2) jE.nd rfl (Or.inl rfl) (zR true))
 (ag (dQ B0 rfl (cO (aE GW (hr.mono (by decide)) (by rfl) (aa (ar 0) (aa (ar 1) ae)))) (bg (i:=3) jE.nd rfl (Or.inl rfl))
 (aq (dy rg (eW (ar 2) (bE (Hm hr.units) (ar 3) aj (λ _ _=>rfl)) (uS hr.units)))))
 (aq (aJ (eN (qC hr.hd) (by rfl) T.list (by decide+kernel) (aa (ar 2) ae)))))),?_⟩
  walk_at "rd"
  intro u hu
  have e0:Ext M (ak M u (.dr true [])):=kU (λ b o e=>e) hu _
  walk_at "rd"
  refine⟨n,g,as,rfl,G,ha,λ q M1 hq lR hE=>?_⟩
  have HU:u≠q:=aZ af hq
  walk_at "rd"
  refine CJ (ds:=kT g as n) (λ i δ M'=>∃(v:Option D) (rs:List Row),δ=[some (cb g),some (row as),some (.ref u),v]/\M' u=some (.dr true (gU (yes rs)))/\M' q=some (.lst (kT g as n))/\Ext M M'/\(∀r,r∈rs↔r∈(qP g as n).take i)/\rs.length<=i) ⟨none,[],rfl,hE _ _ af,lR,e0.trans hE,λ r=>by simp,E1 _⟩ (λ i δ M' hi h=>?_) (λ i d δ M' hd h=>?_) (λ δ M' h=>?_)
  ·obtain⟨v,rs,rfl,h1,h2,_⟩:=h
   exact h2
  ·obtain⟨v,rs,rfl,h1,h2,h3,h4,h5⟩:=h
   have hi:=(i5.mp hd).1
   obtain⟨a1,a2,b,rfl,hb⟩:=vq g as n i d hd
   rw[<- dH]at hi
   walk_at "rd"
   refine Ey ?_
   walk_at "rd"
   refine pH h1 (eQ b) (by rw[jn,yes,B4];exact p9 (show rs.length<=1000 by omega) (by decide)) ?_
   walk_at "rd"
   have tk:=take_snoc hb
   by_cases ko:b∈rs
   ·rw[Fg (.bl true) (by rw[fe];exact ko) DH]
    refine⟨_,rs,rfl,af,by rw[ah (J3 HU)];exact h2,h3.own hu,λ r=>?_,by omega⟩
    rw[tk,B5,q9,<- h4 r]
    exact⟨.inl,λ z=>z.elim id λ z=>by rw[z];exact ko⟩
   ·rw[pK (.bl true) (by rw[fe];exact ko),qV]
    refine⟨_,rs++[b],rfl,af,by rw[ah (J3 HU)];exact h2,h3.own hu,λ r=>?_,by rw[p5,k9];omega⟩
    rw[tk,B5,B5,<- h4 r]
  ·obtain⟨v,rs,rfl,h1,h2,h3,h4,h5⟩:=h
   rw[<- dH,y8]at h4
   rw[<- dH]at h5
   walk_at "rd"
   refine mE h1 λ p hp=>?_
   walk_at "rd"
   refine aA (k p rs _ (h3.free hp) ?_ h4 (by omega) (h3.new hp _))
   rw[af,nh,fe]
theorem lG:aK ["game","counts","laters","waiting","here"] ["game","counts"] (ay (top 8)):=⟨rfl,rfl,rfl,by decide+kernel,rfl,by decide+kernel,by decide+kernel⟩
theorem FH{f:Addr}{fd:FuncData}(F:gb K "walk" "walk" (top 8) f fd)(T:jw K mg)(CU:bM P w K mg base 3 "led_to" ["game","counts"] Hw):bS P w K mg base fc 4 f fd ["game","counts"] (cA K zZ):=by
 refine jy F lG (λ ds M Q h=>?_) (λ cT A outer s H E ds M Q hr h=>?_)
 ·obtain⟨n,g,as,U,rfl,_⟩:=h
  rfl
 ·obtain⟨n,g,as,U,rfl,G,ha,Rc,h0,O9,hU,k⟩:=h
  refine⟨_,(ag (aF (i:=2) lG.nd rfl (Or.inr rfl) (zR true))
 (ag (aF (i:=3) lG.nd rfl (Or.inl rfl) (bT (aa (ar 1) ae)))
 (ag (iG B0 (aS (w_ hr.units) (ar 3) (bT ae) (aR _))
 (ag (aF (i:=4) lG.nd rfl (Or.inl rfl) (zS j0 PySem.F.slot_list_pop PySem.F.type_list_pop HM (ar 3)))
 (aq (cp (aS (mK hr.units) (ar 4) (ar 2) rfl)
 (ag (dy (aE CU (hr.mono (by decide)) (by rfl) (aa (ar 0) (aa (ar 4) ae))) (eW (ar 2) (ar 4) (uS hr.units)))
 (aq (cw (iI j0 PySem.F.slot_list_extend PySem.F.type_list_extend mP (ar 3) (aa (eX (tgs:=["later"]) (fr:=[2]) ⟨bA (by kernel_rfl),rfl,(λ _ _ h=>h),(cO (bE (Hm hr.units) (ar 2) (ar 4) (λ _ _=>rfl))),(aX (λ _ _ _ _ _=>(aH (i:=0) (show(["later","laters"]:List Str).Nodup by decide+kernel) rfl (Or.inl rfl))) (by decide)),(λ _ _ _ _ _=>(lq (aS (mK hr.units) (ar 0) (ar 1) rfl))),(λ _ _ _ _ _=>(ar 0))⟩) ae)))))
 bp))))
 (aq (aJ (ar 2)))))),?_⟩
  walk_at "rd"
  intro u hu
  have e0:Ext M (ak M u (.dr true [])):=kU (λ b o e=>e) hu _
  walk_at "rd"
  refine⟨by show 1<=sizeLine;decide,λ w hw=>?_⟩
  have Gr:u≠w:=aZ af hw
  have OM:=e0.free hw
  walk_at "rd"
  refine iP ⟨PJ n g as U u w M,⟨_,none,[],[as],rfl,by rw[ah Gr];exact af,af,e0.new hw _,Wk.start h0,rfl⟩,?_⟩
  rintro m δ M' ⟨v,kvs,ws,rfl,h1,h2,h3,h4,rfl⟩
  have hfew:=h4.oR
  rw[B4]at hfew
  walk_at "rd"
  refine⟨by decide,λ t ht=>?_⟩
  have SX:=aZ h1 ht
  have SR:=aZ h2 ht
  have h3:=h3.new ht (.lst [])
  have h1:ak M' t (.lst []) u=some (.dr true (gU kvs)):=by rw[ah SX];exact h1
  have h2:ak M' t (.lst []) w=some (.lst (ws.map row)):=by rw[ah SR];exact h2
  refine rN h2 af (λ e=>?_) (λ zQ x e=>?_)
  ·subst e
   walk_at "rd"
   exact aA (k u kvs _ hu h1 h3 h4.done h4.nd λ r hr=>(h4.ku r hr).1)
  ·subst e
   generalize ak M' t (.lst [])=M1 at*
   have hx:=h4.wu x (by simp)
   have SQ:=O9 x hx.1
   have OL:=h4.wl
   rw[B4,p5,k9]at OL
   refine wM ⟨λ δ' M2=>∃m',m' < (U.length - kvs.length)*757+(zQ++[x]).length/\PJ n g as U u w M m' δ' M2,λ _ _ h=>h,?_⟩
   walk_at "rd"
   refine⟨⟨rfl,_,h2⟩,?_⟩
   walk_at "rd"
   refine AB (ds:=zQ.map row) (y:=row x) (by rw[h2,B6];rfl) ?_
   have h3:=h3.own OM (x:=.lst (zQ.map row))
   have h1:ak M1 w (.lst (zQ.map row)) u=some (.dr true (gU kvs)):=by rw[ah Gr];exact h1
   have h2:ak M1 w (.lst (zQ.map row)) w=some (.lst (zQ.map row)):=af
   generalize ak M1 w (.lst (zQ.map row))=M2 at*
   walk_at "rd"
   refine jG h1 (eQ x) ?_
   rw[jb]
   by_cases ko:x∈kvs.map (·.1)
   ·rw[B8 ko]
    walk_at "rd"
    exact⟨_,by rw[p5,k9];omega,_,kvs,zQ,rfl,h1,h2,h3,h4.old ko,rfl⟩
   ·rw[A6 ko]
    walk_at "rd"
    refine⟨n,g,x,rfl,G,SQ,λ q rs M3 hq lR VI XI hE=>?_⟩
    have HU:=aZ h1 hq
    have Us:=aZ h2 hq
    have h1:=hE _ _ h1
    have h2:=hE _ _ h2
    have h3:=h3.trans hE
    have fO:kvs.length < U.length:=by
     have:=(h4.new (rs:=(lL g n x).filter λ r=>decide (r∉kvs.map (·.1)++[x])) hU ko (λ r=>by rw[mem_filter,s9]) (D9 (length_filter_le ..) (pQ G x))).oR
     rw[p5,B4,k9]at this
     exact this
    walk_at "rd"
    refine pH h1 (eQ x) (by rw[jn];exact p9 (show kvs.length<=5000 by omega) (by decide)) ?_
    rw[pK (.ref q) ko]
    have h3:=h3.own hu (x:=.dr true (gU (kvs++[(x,.ref q)])))
    have lR:ak M3 u (.dr true (gU (kvs++[(x,.ref q)]))) q=some (.lst (rs.map row)):=by rw[ah (J3 HU)];exact lR
    have h2:ak M3 u (.dr true (gU (kvs++[(x,.ref q)]))) w=some (.lst (zQ.map row)):=by rw[ah (J3 Gr)];exact h2
    have h1:ak M3 u (.dr true (gU (kvs++[(x,.ref q)]))) u=some (.dr true (gU (kvs++[(x,.ref q)]))):=af
    generalize ak M3 u (.dr true (gU (kvs++[(x,.ref q)])))=M4 at*
    walk_at "rd"
    refine⟨⟨rfl,_,h2⟩,?_⟩
    walk_at "rd"
    refine Jw h1 (eQ x) (yU ko) ?_
    walk_at "rd"
    have ek:(kvs++[(x,D.ref q)]).map (·.1)=kvs.map (·.1)++[x]:=by rw[B6];rfl
    refine tZ (ds:=rs.map row) (λ i acc M'=>M'=M4/\∃os:List Row,acc=os.map row/\(∀r,r∈os↔r∈rs.take i/\r∉kvs.map (·.1)++[x])/\os.length<=i) ⟨rfl,[],rfl,λ r=>by simp,E1 _⟩ (λ i acc M' hi h=>?_) (λ i acc M' hi h=>?_) (λ i d acc M' hd h=>?_) (λ acc M' h=>?_)
    ·obtain⟨rfl,_⟩:=h
     exact lR
    ·obtain⟨rfl,os,rfl,o1,o2⟩:=h
     rw[B4]at hi ⊢
     exact small (by omega)
    ·obtain⟨rfl,os,rfl,o1,o2⟩:=h
     rw[r9]at hd
     cases e:rs[i]? with
     |none=>rw[e]at hd;cases hd
     |some r=>
      rw[e]at hd
      cases hd
      have tk:=take_snoc e
      walk_at "rd"
      refine jG h1 (eQ r) ?_
      rw[jb,ek]
      by_cases hr:r∈kvs.map (·.1)++[x]
      ·rw[B8 hr]
       walk_at "rd"
       refine⟨rfl,os,rfl,λ c=>?_,by omega⟩
       have ma:c∈rs.take i++[r]↔c∈rs.take i\/c=r:=by rw[B5,q9]
       rw[o1 c,tk,ma]
       exact⟨λ z=>⟨.inl z.1,z.2⟩,λ z=>⟨z.1.elim id λ y=>absurd (by rw[y];exact hr) z.2,z.2⟩⟩
      ·rw[A6 hr]
       walk_at "rd"
       refine⟨rfl,os++[r],by rw[B6];rfl,λ c=>?_,by rw[p5,k9];omega⟩
       have ma:c∈rs.take i++[r]↔c∈rs.take i\/c=r:=by rw[B5,q9]
       rw[B5,q9,o1 c,tk,ma]
       exact⟨λ z=>z.elim (λ z=>⟨.inl z.1,z.2⟩) λ z=>⟨.inr z,by rw[z];exact hr⟩,λ z=>z.1.elim (λ y=>.inl ⟨y,z.2⟩) .inr⟩
    ·obtain⟨rfl,os,rfl,o1,o2⟩:=h
     rw[B4,y8]at o1
     rw[B4]at o2
     intro p hp
     have VA:=aZ h2 hp
     have VD:=aZ h1 hp
     have h3:=h3.new hp (.lst (os.map row))
     walk_at "rd"
     refine uY (by rw[ah VA];exact h2) af (by rw[B4,B4];exact D9 (show zQ.length+os.length<=5000000 by omega) (by decide)) ?_
     walk_at "rd"
     have h5:=h4.new hU ko (rs:=os) (λ r=>by rw[o1 r,VI r];rfl) (by omega)
     refine⟨_,?_,_,kvs++[(x,.ref q)],zQ++os,rfl,by rw[ah Gr,ah VD];exact h1,by rw[af,B6],h3.own OM,by rw[ek];exact h5,rfl⟩
     simp only[p5,k9]
     omega
theorem uQ:aK ["game","counts"] ["game","counts"] (ay (top 9)):=⟨rfl,rfl,rfl,by decide+kernel,rfl,by decide+kernel,by decide+kernel⟩
theorem vo{f:Addr}{fd:FuncData}(F:gb K "reached" "reached" (top 9) f fd)(T:jw K mg)(LZ:bM P w K mg base 4 "walk" ["game","counts"] zZ)(vY:bM P w K mg base 4 "in_order" ["sums"] Hx):bS P w K mg base fc 5 f fd ["game","counts"] (cA K wF):=by
 refine jy F uQ (λ ds M Q h=>?_) (λ cT A outer s H E ds M Q hr h=>?_)
 ·obtain⟨n,g,as,U,rfl,_⟩:=h
  rfl
 ·obtain⟨n,g,as,U,rfl,G,ha,Rc,h0,O9,hU,k⟩:=h
  refine⟨_,(aq (aJ (aE vY (hr.mono (by decide)) (by rfl) (aa (eN (qC hr.hd) (by rfl) T.list (by decide+kernel) (aa (aE LZ (hr.mono (by decide)) (by rfl) (aa (ar 0) (aa (ar 1) ae))) ae)) ae)))),?_⟩
  walk_at "rd"
  refine⟨n,g,as,U,rfl,G,ha,Rc,h0,O9,hU,λ p kvs M1 hp h1 hE hr nd hk=>?_⟩
  walk_at "rd"
  refine mE h1 λ q hq=>?_
  have US:=hE.new hq (.lst ((gU kvs).map (·.1)))
  have hl:(kvs.map (·.1)).length<=U.length:=List.Nodup.length_le_of_subset nd hk
  have hfew:=G.oR
  walk_at "rd"
  refine⟨q,kvs.map (·.1),rfl,by rw[af,nh],p9 (show _<=5000 by omega) (by decide),λ r h=>by rw[O9 r (hk r h)];omega,λ p2 out gT o1 o2=>?_⟩
  walk_at "rd"
  exact aA (k p2 out _ (US.free gT) af (US.new gT _) (nX.of hr nd (λ r h=>O9 r (hk r h)) o1 o2))
end
theorem ju.len {n:Nat}{g:List bB}(G:fR n g){as r:Row}(ha:as.length=n)(h:ju (lL g n) as r):r.length=n:=h.closed ha λ b c hb hc=>xc G hb n (E1 _) c hc
def Ah:eK:=λ ds M Q=>∃(n:Nat) (g:List bB) (as:Row) (m:Nat),ds=[cb g,row as,.int m]/\fR n g/\as.length=n/\m<=400/\1<=m/\(∀M',Ext M M'->(∃h,h < n/\0 < as.getD h 0)->Q .bj M')/\∀(p:Addr) (l:List Row) (M':Mem),M p=none->M' p=some (.lst (l.map row))->Ext M M'->nX n (ju (lL g n) as) l->l.length<=m->Q (.ref p) M'
def PR(n:Nat)(g:List bB)(as:Row)(m u w:Nat)(M:Mem)(mm:Nat)(δ:dq)(M':Mem):Prop:=∃(v5 v6 v7:Option D) (rs ls:List Row),δ=[some (cb g),some (row as),some (.int m),some (.ref u),some (.ref w),v5,v6,v7]/\M' u=some (.dr true (gU (yes rs)))/\M' w=some (.lst (ls.map row))/\Ext M M'/\Al (lL g n) as rs ls/\rs.length<=1156/\mm=2*(1157 - rs.length)+ls.length
section
variable {P:Program}{w:World}{K:PySem.W.Frag}{mg:Str->Option Value}{base:Heap}
theorem dA:aK ["_law_game_here","_law_counts_here","_law_most","_law_met","_law_line","_law_h","_law_k","_law_later"] ["_law_game_here","_law_counts_here","_law_most"] (ay (top 25)):=⟨rfl,rfl,rfl,by decide+kernel,rfl,by decide+kernel,by decide+kernel⟩
theorem KU{f:Addr}{fd:FuncData}(F:gb K "_law_all" "_law_all" (top 25) f fd)(T:jw K mg)(tN:bM P w K mg base 2 "_law_moves" ["_law_game_here","_law_counts_here"] ly)(ft:bM P w K mg base 1 "_law_key" ["_law_counts_here"] oy):bS P w K mg base fc 5 f fd ["_law_game_here","_law_counts_here","_law_most"] (cA K Ah):=by
 refine jy F dA (λ ds M Q h=>?_) (λ cT A outer s H E ds M Q hr h=>?_)
 ·obtain⟨n,g,as,m,rfl,_⟩:=h
  rfl
 ·obtain⟨n,g,as,m,rfl,G,ha,hm,bR,kN,kL⟩:=h
  have hfew:=G.oR
  refine⟨_,(ag (aF (i:=3) dA.nd rfl (Or.inl rfl) (DK hr.units (ar 1) rg))
 (ag (aF (i:=4) dA.nd rfl (Or.inl rfl) (bT (aa (ar 1) ae)))
 (ag (iG B0 (lZ (aS (w_ hr.units) (ar 4) (bT ae) (aR _)) (iF (aS Ss (aO Dj (by rfl) T.len (by decide+kernel) (aa (ar 3) ae)) (ar 2) (aR _)))).pt
 (aq (dQ B0 rfl (cO (aE tN (hr.mono (by decide)) (by rfl) (aa (ar 0) (aa (zS j0 PySem.F.slot_list_pop PySem.F.type_list_pop HM (ar 4)) ae)))) (ic (n:=3) rfl (bK (bg (i:=5) dA.nd rfl (Or.inl rfl)) (bK (bg (i:=6) dA.nd rfl (Or.inl rfl)) (bK (bg (i:=7) dA.nd rfl (Or.inl rfl)) fG))))
 (aq (cp (aS (mK hr.units) (ar 7) (ar 3) rfl)
 (ag (dy rg (eW (ar 3) (ar 7) (uS hr.units)))
 (aq (cw (iI j0 i7 i9 cM (ar 4) (aa (ar 7) ae)))))
 bp)))))
 (ag (cp (aS rZ (aO Dj (by rfl) T.len (by decide+kernel) (aa (ar 3) ae)) (ar 2) (aR _))
 (aq (aJ rf))
 bp)
 (aq (aJ (jB ft (hr.mono (by decide)) (by rfl) T.sorted (by rfl) (eN (qC hr.hd) (by rfl) T.list (by decide+kernel) (aa (ar 3) ae))))))))),?_⟩
  walk_at "rd"
  intro u hu
  walk_at "rd"
  refine⟨af,eQ as,?_⟩
  rw[cF]
  have e1:Ext M (ak M u (.dr true [(row as,.bl true)])):=kU (λ b o e=>e) hu _
  have h1:ak M u (.dr true [(row as,.bl true)]) u=some (.dr true (gU (yes [as]))):=af
  generalize ak M u (.dr true [(row as,.bl true)])=M1 at*
  walk_at "rd"
  refine⟨by show 1<=sizeLine;decide,λ w hw=>?_⟩
  have Gr:=aZ h1 hw
  have OM:=e1.free hw
  walk_at "rd1"
  with_reducible refine gy (λ δ' M'=>∃(v5 v6 v7:Option D) (rs ls:List Row),δ'=[some (cb g),some (row as),some (.int m),some (.ref u),some (.ref w),v5,v6,v7]/\M' u=some (.dr true (gU (yes rs)))/\Ext M M'/\Al (lL g n) as rs ls/\(ls=[]\/m < rs.length)) (λ N hN=>?_) ?_
  ·refine iP ⟨PR n g as m u w M,⟨_,none,none,none,[as],[as],rfl,by rw[ah Gr];exact h1,af,e1.new hw _,Al.start _ _,by show 1<=1156;decide,rfl⟩,?_⟩
   rintro mm δ M' ⟨v5,v6,v7,rs,ls,rfl,h1,h2,h3,h4,h5,rfl⟩
   walk_at "rd"
   refine⟨by decide,λ t ht=>?_⟩
   have SX:=aZ h1 ht
   have SR:=aZ h2 ht
   have h3:=h3.new ht (.lst [])
   have h1:ak M' t (.lst []) u=some (.dr true (gU (yes rs))):=by rw[ah SX];exact h1
   have h2:ak M' t (.lst []) w=some (.lst (ls.map row)):=by rw[ah SR];exact h2
   refine rN h2 af (λ e=>?_) (λ BN x e=>?_)
   ·subst e
    walk_at "rd"
    exact hN _ _ ⟨_,_,_,rs,[],rfl,h1,h3,h4,.inl rfl⟩
   ·subst e
    generalize ak M' t (.lst [])=M1 at*
    walk_at "rd"
    refine wL h1 ?_
    rw[jn,yes,B4]
    walk_at "rd"
    refine bh (λ hle=>?_) (λ hle=>?_)
    ·have SQ:=ju.len G ha (h4.ru x (h4.lu x (by simp)))
     have oR:=pQ G x
     refine⟨λ δ' M2=>∃m',m' < 2*(1157 - rs.length)+(BN++[x]).length/\PR n g as m u w M m' δ' M2,λ _ _ h=>h,?_⟩
     walk_at "rd"
     refine⟨⟨rfl,_,h2⟩,?_⟩
     walk_at "rd"
     refine AB (ds:=BN.map row) (y:=row x) (by rw[h2,B6];rfl) ?_
     have h3:=h3.own OM (x:=.lst (BN.map row))
     have h1:ak M1 w (.lst (BN.map row)) u=some (.dr true (gU (yes rs))):=by rw[ah Gr];exact h1
     have h2:ak M1 w (.lst (BN.map row)) w=some (.lst (BN.map row)):=af
     generalize ak M1 w (.lst (BN.map row))=M2 at*
     walk_at "rd"
     refine⟨n,g,x,rfl,G,SQ,λ q M3 hq lR hE=>?_⟩
     have HU:=aZ h1 hq
     have Us:=aZ h2 hq
     have XN:=h3.free hq
     walk_at "rd"
     refine CJ (ds:=kT g x n) (λ i δ M'=>∃(v5 v6 v7:Option D) (nw:List Row),δ=[some (cb g),some (row as),some (.int m),some (.ref u),some (.ref w),v5,v6,v7]/\M' u=some (.dr true (gU (yes (rs++nw))))/\M' w=some (.lst ((BN++nw).map row))/\M' q=some (.lst (kT g x n))/\Ext M M'/\nw.length<=i/\(rs++nw).Nodup/\(∀c∈(qP g x n).take i,c∈rs++nw)/\(∀c∈nw,c∈qP g x n)) ⟨_,_,_,[],rfl,by rw[A3];exact hE _ _ h1,by rw[A3];exact hE _ _ h2,lR,h3.trans hE,E1 _,by rw[A3];exact h4.nd,λ c hc=>by simp at hc,λ c hc=>by cases hc⟩ (λ i δ M' hi h=>?_) (λ i d δ M' hd h=>?_) (λ δ M' h=>?_)
     ·obtain⟨_,_,_,nw,rfl,_,_,h,_⟩:=h
      exact h
     ·obtain⟨v5,v6,v7,nw,rfl,g1,g2,g3,g4,g5,g6,g7,g8⟩:=h
      have hi:=(i5.mp hd).1
      obtain⟨a1,a2,b,rfl,hb⟩:=vq g x n i d hd
      rw[<- dH]at hi
      have tk:=take_snoc hb
      have UI:=h4.ll
      rw[p5,k9]at UI
      walk_at "rd"
      refine jG g1 (eQ b) ?_
      rw[jb,fe]
      by_cases ko:b∈rs++nw
      ·rw[B8 ko]
       walk_at "rd"
       refine⟨_,_,_,nw,rfl,g1,g2,g3,g4,by omega,g6,λ c hc=>?_,g8⟩
       rw[tk]at hc
       rcases B5.mp hc with z|z
       ·exact g7 c z
       ·rw[q9.mp z];exact ko
      ·rw[A6 ko]
       walk_at "rd"
       refine pH g1 (eQ b) (by rw[jn,yes,B4,p5];exact p9 (show _<=5000 by omega) (by decide)) ?_
       rw[pK (.bl true) (by rw[fe];exact ko),qV]
       have g2:ak M' u (.dr true (gU (yes (rs++nw++[b])))) w=some (.lst ((BN++nw).map row)):=by rw[ah (J3 Gr)];exact g2
       walk_at "rd"
       refine⟨⟨rfl,_,g2⟩,?_⟩
       walk_at "rd"
       refine eB g2 (by rw[B4,p5];exact p9 (show _<=5000 by omega) (by decide)) ?_
       walk_at "rd"
       refine⟨_,_,_,nw++[b],rfl,by rw[ah Gr,af,u7],by rw[af,<- u7,B6 (l₁:=BN++nw)];rfl,by rw[ah (J3 Us),ah (J3 HU)];exact g3,(g4.own hu).own OM,by rw[p5,k9];omega,?_,λ c hc=>?_,λ c hc=>?_⟩
       ·rw[<- u7]
        exact nodup_append.mpr ⟨g6,by simp,λ a ha b' oN z=>ko (by rw[<- q9.mp oN,<- z];exact ha)⟩
       ·rw[<- u7]
        rw[tk]at hc
        rcases B5.mp hc with z|z
        ·exact m6 _ (g7 c z)
        ·exact k8 _ z
       ·rcases B5.mp hc with z|z
        ·exact g8 c z
        ·rw[q9.mp z];exact m5 hb
     ·obtain⟨v5,v6,v7,nw,rfl,g1,g2,g3,g4,g5,g6,g7,g8⟩:=h
      rw[<- dH]at g5 g7
      rw[y8]at g7
      walk_at "rd"
      refine⟨_,?_,_,_,_,rs++nw,BN++nw,rfl,g1,g2,g4,h4.next g6 g7 g8,by rw[p5];omega,rfl⟩
      simp only[p5,k9]
      omega
    ·exact hN _ _ ⟨_,_,_,rs,_,rfl,h1,h3,h4,.inr (by omega)⟩
  ·rintro δ' M' ⟨v5,v6,v7,rs,ls,rfl,h1,h3,h4,LD⟩
   walk_at "rd"
   refine wL h1 ?_
   rw[jn,yes,B4]
   walk_at "rd"
   refine bh (λ CD=>?_) (λ CD=>?_)
   ·walk_at "rd"
    refine aA (kN M' h3 ?_)
    rcases h4.on with e|e
    ·rw[e]at CD
     simp at CD
     omega
    ·exact xf n e
   ·have V1:ls=[]:=LD.elim id λ z=>by omega
    subst V1
    walk_at "rd"
    refine mE h1 λ q hq=>?_
    have h3:=h3.new hq (.lst ((gU (yes rs)).map (·.1)))
    have hl:∀r∈rs,r.length=n:=λ r hr=>ju.len G ha (h4.ru r hr)
    walk_at "rd"
    refine rM (rs:=rs) (by rw[af,nh,fe]) (by omega) (λ r hr=>by rw[hl r hr];omega) λ p out hp o1 o2=>?_
    walk_at "rd"
    exact aA (kL p out _ (h3.free hp) af (h3.new hp _) (nX.of h4.done h4.nd hl o1 o2) (by rw[o1.length_eq];omega))
end
def dot(as bs:List Int):Int:=(List.zipWith (·*·) as bs).sum
def qO(aU:List (List (List Int))):Nat->List Int
 |0=>[]
 |i+1=>qO aU i++[gZ 0 ((aU.getD i []).map λ o=>1+dot o (qO aU i))]
theorem pM(aU:List (List (List Int))):∀i,(qO aU i).length=i
 |0=>rfl
 |i+1=>by show(qO aU i++[_]).length=_;rw[p5,pM aU i];rfl
structure qK(aU:List (List (List Int))):Prop where
 oR:aU.length<=12
 opts:∀i,i < aU.length->(aU.getD i []).length<=63/\∀o∈aU.getD i [],(∀x∈o,0<=x)/\o.sum<=4/\o.length<=1000
theorem xg{b:Int}:∀{ns:List Int},0<=b->(∀x∈ns,x<=b)->gZ 0 ns<=b:=λ{ns} hb h=>by
 cases ns with
 |nil=>exact hb
 |cons n ns=>
  rcases(foldl_max ns n).2.2 with e|e
  ·show ns.foldl max n<=b
   rw[e];exact h n (o8 ..)
  ·exact h _ (m3 _ e)
theorem F'{ns:List Int}{x:Int}(h:x∈ns):x<=gZ 0 ns:=by
 cases ns with
 |nil=>cases h
 |cons n ns=>
  show x<=ns.foldl max n
  rcases C7.mp h with rfl|h
  ·exact(foldl_max ns x).1
  ·exact(foldl_max ns n).2.1 x h
theorem sH{ns:List Int}(h:∀x∈ns,0<=x):0<=gZ 0 ns:=by
 cases ns with
 |nil=>exact Int.le_refl _
 |cons n ns=>exact Int.le_trans (h n (o8 ..)) (F' (o8 ..))
theorem xF(as:List Int):dot as []=0:=by unfold dot;rw[zipWith_nil_right];rfl
theorem tH(a b:Int)(as bs:List Int):dot (a::as) (b::bs)=a*b+dot as bs:=by unfold dot;rw[zipWith_cons_cons,sum_cons]
theorem xE:∀{as bs:List Int},(∀x∈as,0<=x)->(∀x∈bs,0<=x)->0<=dot as bs
 |[],bs,_,_=>by unfold dot;simp
 |a::as,[],_,_=>by rw[xF];exact Int.le_refl _
 |a::as,b::bs,h,q=>by
  rw[tH]
  have:=xE (as:=as) (bs:=bs) (λ x hx=>h x (m3 _ hx)) (λ x hx=>q x (m3 _ hx))
  have:=Int.mul_nonneg (h a (o8 ..)) (q b (o8 ..))
  omega
theorem CO{B:Int}(hB:0<=B):∀{as bs:List Int},(∀x∈as,0<=x)->(∀x∈bs,x<=B)->dot as bs<=as.sum*B
 |[],bs,_,_=>by unfold dot;simp
 |a::as,[],h,_=>by
  rw[xF]
  refine Int.mul_nonneg ?_ hB
  have:∀l:List Int,(∀x∈l,0<=x)->0<=l.sum:=λ l=>by
   induction l with
   |nil=>intro _;simp
   |cons x l ih=>intro h;rw[sum_cons];have:=ih λ y hy=>h y (m3 _ hy);have:=h x (o8 ..);omega
  exact this _ h
 |a::as,b::bs,h,q=>by
  rw[tH,sum_cons,Int.add_mul]
  have h1:=CO hB (as:=as) (bs:=bs) (λ x hx=>h x (m3 _ hx)) (λ x hx=>q x (m3 _ hx))
  have h2:=Int.mul_le_mul_of_nonneg_left (q b (o8 ..)) (h a (o8 ..))
  omega
theorem HG{aU:List (List (List Int))}(G:qK aU):∀i,i<=aU.length->∀x∈qO aU i,0<=x/\x<=5^i
 |0,_,x,hx=>by cases hx
 |i+1,hi,x,hx=>by
  have ih:=HG G i (by omega)
  have XR:(0:Int) < 5^i:=Int.pow_pos (by decide)
  have e5:(5:Int)^(i+1)=5*5^i:=by rw[Int.pow_succ,Int.mul_comm]
  have hx:x∈qO aU i++[gZ 0 ((aU.getD i []).map λ o=>1+dot o (qO aU i))]:=hx
  rcases B5.mp hx with q|q
  ·have:=ih x q
   omega
  ·have e:x=gZ 0 ((aU.getD i []).map λ o=>1+dot o (qO aU i)):=by simpa using q
   have ho:=(G.opts i (by omega)).2
   subst e
   constructor
   ·refine sH λ y hy=>?_
    obtain⟨o,Lz,rfl⟩:=D4.mp hy
    have:=xE (ho o Lz).1 λ z hz=>(ih z hz).1
    omega
   ·refine xg (by omega) λ y hy=>?_
    obtain⟨o,Lz,rfl⟩:=D4.mp hy
    have h1:=CO (B:=5^i) (by omega) (ho o Lz).1 λ z hz=>(ih z hz).2
    have h2:=(ho o Lz).2.1
    have h3:o.sum*5^i<=4*5^i:=Int.mul_le_mul_of_nonneg_right h2 (by omega)
    omega
theorem Sn{i:Nat}(h:i<=12):(5:Int)^i<=1000000000:=by
 have:∀j:Fin 13,(5:Int)^(j:Nat)<=1000000000:=by decide
 exact this ⟨i,by omega⟩
theorem Bi{aU:List (List (List Int))}(G:qK aU){i:Nat}(hi:i<=aU.length):∀x∈qO aU i,0<=x/\x<=1000000000:=λ x hx=>by
 have h:=HG G i hi x hx
 have:=Sn (i:=i) (by have:=G.oR;omega)
 omega
def gB(os:List (List Int)):D:=.tup (os.map row)
def Ae:eK:=λ ds M Q=>∃(q:Addr) (aU:List (List (List Int))),ds=[.ref q]/\M q=some (.lst (aU.map gB))/\qK aU/\∀(p:Addr) (M':Mem),M p=none->M' p=some (.lst ((qO aU aU.length).map D.int))->Ext M M'->Q (.ref p) M'
theorem CP(o ps:List Int):((o.take ps.length).zipIdx).map (λ p=>D.int (p.1*ps.getD p.2 0))=(List.zipWith (·*·) o ps).map D.int:=by
 refine ext_getElem? λ i=>?_
 rw[r9,r9,getElem?_zipIdx,getElem?_zipWith,getElem?_take]
 by_cases hi:i < ps.length
 ·rw[J4 hi,i8 hi]
  cases o[i]? with
  |none=>rfl
  |some x=>simp[e9,hi]
 ·rw[J5 hi,l8 (show ps.length<=i by omega)]
  cases o[i]? <;> rfl
section
variable {P:Program}{w:World}{K:PySem.W.Frag}{mg:Str->Option Value}{base:Heap}
theorem cV:aK ["_law_options_here","_law_found","_law_sums","_law_lasting"] ["_law_options_here"] (ay (top 19)):=⟨rfl,rfl,rfl,by decide+kernel,rfl,by decide+kernel,by decide+kernel⟩
theorem FQ{f:Addr}{fd:FuncData}(F:gb K "_law_lengths" "_law_lengths" (top 19) f fd)(T:jw K mg):bS P w K mg base fc 1 f fd ["_law_options_here"] (cA K Ae):=by
 refine jy F cV (λ ds M Q h=>?_) (λ cT A outer s H E ds M Q hr h=>?_)
 ·obtain⟨q,aU,rfl,_⟩:=h
  rfl
 ·obtain⟨q,aU,rfl,hq,G,k⟩:=h
  have hfew:=G.oR
  refine⟨_,(ag (aF (i:=1) cV.nd rfl (Or.inr rfl) (bT ae))
 (ag (dQ B0 rfl (cO (ar 0)) (bg (i:=2) cV.nd rfl (Or.inl rfl))
 (ag (dw (i:=3) cV.nd rfl (Or.inl rfl) (tgs:=["_law_counts_here"]) (fr:=[1]) ⟨bA (by kernel_rfl),rfl,(λ _ _ h=>h),(cO (ar 2)),(aX (λ _ _ _ _ _=>(aH (i:=0) (show(["_law_counts_here","_law_found"]:List Str).Nodup by decide+kernel) rfl (Or.inl rfl))) (by decide)),(λ _ _ _ _ _=>bq),(λ _ _ _ _ _=>(uJ (xV rfl) wz (by rfl) T.sum (by decide+kernel) (tgs:=["_law_h","_law_n"]) (fr:=[1]) ⟨bA (by kernel_rfl),rfl,(λ _ _ h=>h),(iH rfl T.enumerate (aa (fH my (ar 0) fF (fE (aO gO (by rfl) T.len (by decide+kernel) (aa (ar 1) ae)))) ae)),(ff (λ _ _ _ _ _=>(il rfl (bX (aH (i:=0) (show(["_law_h","_law_n","_law_found"]:List Str).Nodup by decide+kernel) rfl (Or.inl rfl)) (bX (aH (i:=1) (show(["_law_h","_law_n","_law_found"]:List Str).Nodup by decide+kernel) rfl (Or.inl rfl)) fM)))) (by decide) (by decide)),(λ _ _ _ _ _=>bq),(λ _ _ _ _ _=>(aY eC (ar 1) (bE bo (ar 2) (ar 0) (λ _ _=>rfl))))⟩))⟩)
 (aq (cw (iI j0 i7 i9 cM (ar 1) (aa (IC rfl (by rfl) T.max (tgs:=["_law_play"]) (fr:=[]) ⟨bA (by kernel_rfl),rfl,(λ _ _ h=>h),(cO (ar 3)),(aX (λ _ _ _ _ _=>(aH (i:=0) (show(["_law_play"]:List Str).Nodup by decide+kernel) rfl (Or.inl rfl))) (by decide)),(λ _ _ _ _ _=>bq),(λ _ _ _ _ _=>(aY aQ (ar 0) aj))⟩) ae))))))
 (aq (aJ (ar 1))))),?_⟩
  walk_at "rd"
  refine⟨by decide,λ p hp=>?_⟩
  have oM:q≠p:=λ z=>by subst z;rw[hq]at hp;cases hp
  have e0:Ext M (ak M p (.lst [])):=kU (λ b o e=>e) hp _
  have XQ:=e0 _ _ hq
  walk_at "rd"
  refine CJ (ds:=aU.map gB) (λ i δ M'=>∃(v1 v2:Option D),δ=[some (.ref q),some (.ref p),v1,v2]/\M' p=some (.lst ((qO aU i).map D.int))/\Ext M M') ⟨none,none,rfl,af,e0⟩ (λ i δ M' hi h=>?_) (λ i d δ M' hd h=>?_) (λ δ M' h=>?_)
  ·obtain⟨v1,v2,rfl,h3,hM⟩:=h
   exact hM _ _ hq
  ·obtain⟨v1,v2,rfl,h3,hM⟩:=h
   rw[r9]at hd
   have hi:i < aU.length:=by
    refine y0 λ z=>?_
    rw[l8 z]at hd
    cases hd
   have jf:d=gB (aU.getD i []):=by
    rw[i8 hi]at hd
    rw[e9,i8 hi]
    exact(A9 hd).symm
   subst jf
   obtain⟨ho,Gx⟩:=G.opts i hi
   have Gz:=Bi G (i:=i) (by omega)
   have hpl:=pM aU i
   have step:qO aU (i+1)=qO aU i++[gZ 0 ((aU.getD i []).map λ o=>1+dot o (qO aU i))]:=rfl
   generalize aU.getD i []=os at*
   generalize qO aU i=ps at*
   unfold gB
   walk_at "rd"
   refine eT (xs:=os) (enc:=row) (λ o=>D.int (dot o ps)) (by omega) (λ j o N ho hN=>?_) ?_
   ·have HW:=(Gx o (m5 ho)).2.2
    walk_at "rd"
    refine mC (by omega) ?_
    rw[u4,B4,<- map_take]
    walk_at "rd"
    refine Ha (xs:=o.take ps.length) (enc:=D.int) (λ p=>D.int (p.1*ps.getD p.2 0)) (by rw[A0];omega) (λ l x N2 hx Wg=>?_) ?_
    ·have hl:=(i5.mp hx).1
     rw[A0]at hl
     walk_at "rd"
     refine bW h3 (cN (i:=l) (by omega)) ?_
     have hb:=Gz (ps.getD l 0) (by rw[e9,i8 (by omega)];exact A1 _)
     exact dO (v_ (by omega) (by omega)) Wg
    ·rw[CP]
     exact wJ hN
   ·intro r hr
    have TB:=kU hM hr (.lst (os.map λ o=>D.int (dot o ps)))
    have VO:p≠r:=λ z=>by subst z;rw[h3]at hr;cases hr
    have TJ:ak M' r (.lst (os.map λ o=>D.int (dot o ps))) p=some (.lst (ps.map D.int)):=by rw[ah VO];exact h3
    walk_at "rd"
    refine⟨⟨rfl,_,TJ⟩,?_⟩
    walk_at "rd"
    refine gX (xs:=os) (λ o=>D.int (dot o ps)) (λ o=>D.int (1+dot o ps)) (by omega) af (λ j o N _ hN=>?_) ?_
    ·walk_at "rd"
     rw[Int.add_comm]
     exact hN
    ·refine⟨os.map λ o=>1+dot o ps,by rw[D8];rfl,?_⟩
     walk_at "rd"
     refine eB TJ (by rw[B4,hpl];exact p9 (show i<=1000 by omega) (by decide)) ?_
     walk_at "rd"
     refine⟨_,_,rfl,?_,Ext.own TB hp⟩
     rw[af,step,B6]
     rfl
  ·obtain⟨v1,v2,rfl,h3,hM⟩:=h
   rw[B4]at h3
   walk_at "rd"
   exact aA (k p M' hp h3 hM)
end
def Aa:eK:=λ ds M Q=>∃(a c o:Addr) (aU:List (List Row)) (n:Nat) (dp:Int),ds=[.ref a,.ref o,.int n,.int dp]/\Flow M a c/\o≠a/\M o=some (.lst (aU.map gB))/\aU.length<=n/\n<=12/\(∀i os,aU[i]?=some os->os.length<=20/\∀r∈os,hG n i r)/\∀(os:List Row) (M':Mem),os.length<=20->(∀r∈os,hG n aU.length r)->Fl a c M M'->Q (gB os) M'
theorem Fz{aU:List (List Row)}{n:Nat}(hl:aU.length<=n)(hn:n<=12)(h:∀i os,aU[i]?=some os->os.length<=20/\∀r∈os,hG n i r):qK aU:=by
 refine⟨by omega,λ i hi=>?_⟩
 obtain⟨h1,h2⟩:=h i _ (i8 hi)
 have e:aU.getD i []=aU[i]:=by rw[e9,i8 hi];rfl
 rw[e]
 exact⟨by omega,λ o ho=>⟨(h2 o ho).pos,(h2 o ho).sum,by rw[(h2 o ho).len];omega⟩⟩
theorem Ext.fl {M M':Mem}{f c:Addr}(h:Ext M M')(F:Flow M f c):Fl f c M M':=by
 obtain⟨ns,p,b,sd,ct,h1,h2,h3⟩:=F.ex
 exact⟨⟨ns,p,b,sd,ct,h _ _ h1,h _ _ h2,h3⟩,λ b o _ e=>h b o e⟩
section
variable {P:Program}{w:World}{K:PySem.W.Frag}{mg:Str->Option Value}{base:Heap}
theorem bu:aK ["_law_flow_here","_law_ahead","_law_many","_law_deep","_law_at","_law_form","_law_rows","_law_lasting","_law_sums","_law_k"] ["_law_flow_here","_law_ahead","_law_many","_law_deep"] (ay (top 20)):=⟨rfl,rfl,rfl,by decide+kernel,rfl,by decide+kernel,by decide+kernel⟩
theorem FK{f:Addr}{fd:FuncData}(F:gb K "_law_options" "_law_options" (top 20) f fd)(T:jw K mg)(aw:bM P w K mg base 1 "_law_pick" ["_law_flow_here","_law_many"] eY)(nS:bM P w K mg base 1 "_law_lengths" ["_law_options_here"] Ae)(dk:bM P w K mg base 1 "_law_counts" ["_law_heaps","_law_many"] iL)(eF:bM P w K mg base 4 "_law_in_order" ["_law_sums"] pj):bS P w K mg base fc 5 f fd ["_law_flow_here","_law_ahead","_law_many","_law_deep"] (cA K Aa):=by
 refine jy F bu (λ ds M Q h=>?_) (λ cT A outer s H E ds M Q hr h=>?_)
 ·obtain⟨a,cc,o,aU,n,dp,rfl,_⟩:=h
  rfl
 ·obtain⟨a,cc,o,aU,n,dp,rfl,hF,GC,Rh,hl,hn,qR,k⟩:=h
  refine⟨_,(ag (aF (i:=4) bu.nd rfl (Or.inr rfl) (aO gO (by rfl) T.len (by decide+kernel) (aa (ar 1) ae)))
 (ag (aF (i:=5) bu.nd rfl (Or.inl rfl) (aE aw (hr.mono (by decide)) (by rfl) (aa (ar 0) (aa aj ae))))
 (ag (aF (i:=6) bu.nd rfl (Or.inl rfl) (bT ae))
 (ag (cp (aS (eO hr.units) (ar 5) aj (aR _))
 (aq (aJ (bZ ae)))
 bp)
 (ag (cp (lZ (aS (eO hr.units) (ar 5) aj (aR _)) (iF (aS rZ (ar 4) aj (aR _)))).pt
 (aq (aJ (bE bo (ar 1) (aE aw (hr.mono (by decide)) (by rfl) (aa (ar 0) (aa (ar 4) ae))) (λ _ _=>rfl))))
 bp)
 (ag (cp (aS KZ (ar 5) aj (aR _))
 (ag (aF (i:=6) bu.nd rfl (Or.inl rfl) (aY aQ (bT (aa (bT ae) ae)) (eX (tgs:=["_law_h"]) (fr:=[]) ⟨bA (by kernel_rfl),rfl,(λ _ _ h=>h),(bf rfl T.range (aa (ar 4) ae)),(aX (λ _ _ _ _ _=>(aH (i:=0) (show(["_law_h"]:List Str).Nodup by decide+kernel) rfl (Or.inl rfl))) (by decide)),(λ _ _ _ _ _=>bq),(λ _ _ _ _ _=>(bT (aa (ar 0) ae)))⟩)))
 (aq (aF (i:=6) bu.nd rfl (Or.inl rfl) (fH my (ar 6) fF (fE (aY aQ aj (aE aw (hr.mono (by decide)) (by rfl) (aa (ar 0) (aa (aY aQ (ar 4) aj) ae)))))))))
 (aq (dQ B0 rfl (bf rfl T.range (aa (aY aQ aj (aE aw (hr.mono (by decide)) (by rfl) (aa (ar 0) (aa aj ae)))) ae)) (bg (i:=9) bu.nd rfl (Or.inl rfl))
 (aq (cw (iI j0 i7 i9 cM (ar 6) (aa (eX (tgs:=["_law_j"]) (fr:=[0,4]) ⟨bA (by kernel_rfl),rfl,(λ _ _ h=>h),(bf rfl T.range (aa (aY eC (aO (Dh rfl) (by rfl) T.min (by decide+kernel) (aa (ar 4) (aa aj ae))) (aE aw (hr.mono (by decide)) (by rfl) (aa (ar 0) (aa aj ae)))) ae)),(aX (λ _ _ _ _ _=>(aH (i:=0) (show(["_law_j","_law_flow_here","_law_at"]:List Str).Nodup by decide+kernel) rfl (Or.inl rfl))) (by decide)),(λ _ _ _ _ _=>bq),(λ _ _ _ _ _=>(aE aw (hr.mono (by decide)) (by rfl) (aa (ar 1) (aa (ar 2) ae))))⟩) ae)))))))
 (ag (aF (i:=7) bu.nd rfl (Or.inr rfl) (aE nS (hr.mono (by decide)) (by rfl) (aa (ar 1) ae)))
 (ag (dw (i:=8) bu.nd rfl (Or.inl rfl) (tgs:=["_law_row"]) (fr:=[2,3,7]) ⟨bA (by kernel_rfl),rfl,(λ _ _ h=>h),(cO (ar 6)),(aX (λ _ _ _ _ _=>(aH (i:=0) (show(["_law_row","_law_many","_law_deep","_law_lasting"]:List Str).Nodup by decide+kernel) rfl (Or.inl rfl))) (by decide)),(λ _ _ _ _ _=>(lq (aS KZ (uJ (xV rfl) wz (by rfl) T.sum (by decide+kernel) (tgs:=["_law_h"]) (fr:=[3]) ⟨bA (by kernel_rfl),rfl,(λ _ _ h=>h),(cO (ar 0)),(aX (λ _ _ _ _ _=>(aH (i:=0) (show(["_law_h","_law_lasting"]:List Str).Nodup by decide+kernel) rfl (Or.inl rfl))) (by decide)),(λ _ _ _ _ _=>bq),(λ _ _ _ _ _=>(bE bo (ar 1) (ar 0) (λ _ _=>rfl)))⟩) (ar 2) (aR _)))),(λ _ _ _ _ _=>(aE dk (hr.mono (by decide)) (by rfl) (aa (ar 0) (aa (ar 1) ae))))⟩)
 (aq (aJ (aE eF (hr.mono (by decide)) (by rfl) (aa (ar 8) ae)))))))))))),?_⟩
  walk_at "rd"
  rw[B4]
  refine⟨a,cc,8,rfl,hF,by decide,by decide,λ d1 o1 d0 d8 uB=>?_⟩
  have F1:Fl a cc M _:=Fl.pick uB
  generalize ak M a o1=M1 at*
  walk_at "rd"
  refine⟨by decide,λ p hp=>?_⟩
  have F2:=F1.trans (Fl.put (o:=.lst []) F1.aI hp)
  have uw:=(F1.aI.ne hp).1
  have VQ:M p=none:=by
   cases z:M p with
   |none=>rfl
   |some u=>rw[F1.mv p u uw z]at hp;cases hp
  have eL:ak M1 p (.lst []) p=some (.lst (([]:List Addr).map D.ref)):=af
  generalize ak M1 p (.lst [])=M2 at*
  walk_at "rd"
  refine bh (λ e=>?_) (λ e=>?_)
  ·walk_at "rd"
   exact⟨E3 _,aA (k [] _ (by decide) (λ r h=>by cases h) F2)⟩
  ·walk_at "rd1"
   with_reducible refine gy (λ δ' M'=>δ'=[some (.ref a),some (.ref o),some (.int n),some (.int dp),some (.int (aU.length:Nat)),some (.int d1),some (.ref p),none,none,none]/\M'=M2) (λ N hN=>?_) ?_
   ·walk_at "rd"
    refine bh (λ e1=>?_) (λ e1=>?_)
    ·walk_at "rd"
     refine bh (λ e2=>?_) (λ e2=>?_)
     ·walk_at "rd"
      refine⟨a,cc,aU.length,rfl,F2.aI,by omega,by omega,λ d2 o2 Mb MT zf=>?_⟩
      have F3:=F2.trans (Fl.pick zf)
      obtain⟨j,rfl⟩:∃j:Nat,d2=(j:Int):=⟨d2.toNat,by omega⟩
      have hj:j < aU.length:=by omega
      obtain⟨g1,g2⟩:=qR j _ (i8 hj)
      refine bW (F3.mv o _ GC Rh) (cz (by rw[r9,i8 hj];rfl)) ?_
      walk_at "rd"
      exact aA (k _ _ g1 (λ r hr=>(g2 r hr).mono (by omega)) F3)
     ·walk_at "rd"
      exact hN _ _ ⟨rfl,rfl⟩
    ·walk_at "rd"
     exact hN _ _ ⟨rfl,rfl⟩
   ·rintro δ' M' ⟨rfl,rfl⟩
    with_reducible refine gy (λ δ' M'=>∃(v6:Addr) (qs:List Addr) (v9:Option D),δ'=[some (.ref a),some (.ref o),some (.int n),some (.int dp),some (.int (aU.length:Nat)),some (.int d1),some (.ref v6),none,none,v9]/\M' v6=some (.lst (qs.map D.ref))/\qs.length<=20/\cL a aU.length M' qs/\Fl a cc M M') (λ N hN=>?_) ?_
    ·walk_at "rd"
     refine bh (λ e1=>?_) (λ e1=>?_)
     ·walk_at "rd"
      refine⟨E3 _,λ p0 ir=>?_⟩
      have Wv:=(F2.aI.ne ir).1
      have F3:=F2.trans (Fl.put (o:=.lst []) F2.aI ir)
      have g0:ak M' p0 (.lst []) p0=some (.lst (([]:List Int).map D.int)):=af
      generalize ak M' p0 (.lst [])=M3 at*
      walk_at "rd"
      refine⟨by show 1<=sizeLine;decide,λ p1 MJ=>?_⟩
      have F4:=F3.trans (Fl.put (o:=.lst [.ref p0]) F3.aI MJ)
      have XZ:=(F3.aI.ne MJ).1
      have g1:ak M3 p1 (.lst [.ref p0]) p1=some (.lst [.ref p0]):=af
      have g0:ak M3 p1 (.lst [.ref p0]) p0=some (.lst (([]:List Int).map D.int)):=by rw[ah (aZ g0 MJ)];exact g0
      generalize ak M3 p1 (.lst [.ref p0])=M4 at*
      walk_at "rd"
      refine⟨cv (by omega) (by omega),?_⟩
      rw[u4]
      refine qv (xs:=List.range aU.length) (enc:=HB) D.ref (λ qs M'=>Fl a cc M M'/\cL a aU.length M' (p0::qs)/\M' p1=some (.lst [.ref p0])) (by simp;omega) ⟨F4,cL.add cL.nil Wv g0 (by decide) (λ x h=>by cases h),g1⟩ (λ i x ys M' N hx hy h hN=>?_) (λ qs M' hl h=>?_)
      ·obtain⟨G1,G2,G3⟩:=h
       have hi:=(i5.mp hx).1
       have Lw:x=i:=by rw[n0 (by simpa using hi)]at hx;exact(A9 hx).symm
       subst Lw
       rw[w6]at hi
       walk_at "rd"
       refine⟨by show 1<=sizeLine;decide,λ q hq=>hN q _ ⟨G1.trans (Fl.put G1.aI hq),?_,by rw[ah (aZ G3 hq)];exact G3⟩⟩
       refine cL.add (qs:=p0::ys) (G2.new hq) (G1.aI.ne hq).1 (hs:=[(x:Int)]) ?_ (by show 1<=4;decide) λ y hy=>?_
       ·rw[af,Aw]
        rfl
       ·rw[q9.mp hy]
        omega
      ·obtain⟨G1,G2,G3⟩:=h
       rw[w6]at hl
       intro p2 gT
       have G1:=G1.trans (Fl.put (o:=.lst (qs.map D.ref)) G1.aI gT)
       have G2:=G2.new gT (o:=.lst (qs.map D.ref))
       have G3:ak M' p2 (.lst (qs.map D.ref)) p1=some (.lst [.ref p0]):=by rw[ah (aZ G3 gT)];exact G3
       walk_at "rd"
       refine AR G3 af (by rw[B4,k9];exact small (by omega)) λ p3 HV=>?_
       generalize ak M' p2 (.lst (qs.map D.ref))=M5 at*
       have U6:=G1.trans (Fl.put (o:=.lst ([.ref p0]++qs.map D.ref)) G1.aI HV)
       have G2:=G2.new HV (o:=.lst ([.ref p0]++qs.map D.ref))
       have G4:ak M5 p3 (.lst ([.ref p0]++qs.map D.ref)) p3=some (.lst ((p0::qs).map D.ref)):=af
       have Wq:=(G1.aI.ne HV).1
       generalize ak M5 p3 (.lst ([.ref p0]++qs.map D.ref))=M6 at*
       walk_at "rd"
       refine⟨a,cc,aU.length+1,rfl,U6.aI,by omega,by omega,λ d2 o2 Mb MT zf=>?_⟩
       have G1:=U6.trans (Fl.pick zf)
       have G2:=G2.keep (Fl.pick zf).mv
       have G4:=(Fl.pick zf).mv _ _ Wq G4
       generalize ak M6 a o2=M7 at*
       walk_at "rd"
       refine yz G4 (by omega) λ p4 UA=>?_
       walk_at "rd"
       exact hN _ _ ⟨p4,(p0::qs).take (1+d2).toNat,none,rfl,by rw[af,map_take],by rw[A0,x9];omega,(G2.take _).new UA,G1.trans (Fl.put G1.aI UA)⟩
     ·walk_at "rd"
      refine⟨a,cc,4,rfl,F2.aI,by decide,by decide,λ d2 o2 Mb U1 zf=>?_⟩
      have F3:=F2.trans (Fl.pick zf)
      have GJ:ak M' a o2 p=some (.lst (([]:List Addr).map D.ref)):=by rw[ah uw];exact eL
      generalize ak M' a o2=M3 at*
      walk_at "rd"
      refine⟨cv (by omega) (by omega),?_⟩
      refine fP (λ j δ M'=>∃(v9:Option D) (qs:List Addr),δ=[some (.ref a),some (.ref o),some (.int n),some (.int dp),some (.int (aU.length:Nat)),some (.int d1),some (.ref p),none,none,v9]/\M' p=some (.lst (qs.map D.ref))/\qs.length=j/\cL a aU.length M' qs/\Fl a cc M M') ⟨none,[],rfl,GJ,rfl,cL.nil,F3⟩ (λ j d δ M' hd h=>?_) (λ δ M' h=>?_)
      ·obtain⟨v9,qs,rfl,h3,Uy,hR,F4⟩:=h
       obtain⟨hj,rfl⟩:=cu hd
       walk_at "rd"
       refine⟨⟨rfl,_,h3⟩,?_⟩
       walk_at "rd"
       refine⟨a,cc,3,rfl,F4.aI,by decide,by decide,λ d o h0 h1 td=>?_⟩
       have F5:=F4.trans (Fl.pick td)
       have hR:=hR.keep (Fl.pick td).mv
       have h3:=(Fl.pick td).mv _ _ uw h3
       generalize ak M' a o=M5 at*
       have LC:(if(1:Int) < (aU.length:Int)then(1:Int)else(aU.length:Int))=if 1<=aU.length then 1 else 0:=by
        split <;> split <;> omega
       rw[LC]
       refine dO (nu (by split <;> omega) (by split <;> omega)) ?_
       have hle:(if 1<=aU.length then(1:Int)else 0)*d<=2/\0<=(if 1<=aU.length then(1:Int)else 0)*d/\(aU.length=0->(if 1<=aU.length then(1:Int)else 0)*d=0):=by
        split
        ·rw[Int.one_mul];exact⟨by omega,h0,λ z=>by omega⟩
        ·rw[Int.zero_mul];exact⟨by omega,by omega,λ _=>rfl⟩
       generalize(if 1<=aU.length then(1:Int)else 0)*d=c2 at hle ⊢
       obtain⟨c1,c0,cn⟩:=hle
       refine⟨cv (by omega) (by omega),?_⟩
       refine qv (xs:=List.range c2.toNat) (enc:=HB) D.int (λ ns M'=>Fl a cc M M'/\M' p=some (.lst (qs.map D.ref))/\cL a aU.length M' qs/\∀x∈ns,0<=x/\x < (aU.length:Int)) (by simp;omega) ⟨F5,h3,hR,λ x h=>by cases h⟩ (λ jj x ys M' N hx hy h hN=>?_) (λ ns M' hl h=>?_)
       ·obtain⟨F2,h3,hR,h2⟩:=h
        have hi:=(i5.mp hx).1
        rw[w6]at hi
        have hn:aU.length≠0:=λ z=>by have:=cn z;omega
        walk_at "rd"
        refine⟨a,cc,aU.length,rfl,F2.aI,by omega,by omega,λ d2 o2 Pa TJ CG=>hN _ _ ⟨F2.trans (Fl.pick CG),(Fl.pick CG).mv _ _ uw h3,hR.keep (Fl.pick CG).mv,λ x hx=>?_⟩⟩
        rcases B5.mp hx with q|q
        ·exact h2 x q
        ·have:x=d2:=by simpa using q
         omega
       ·obtain⟨F2,h3,hR,h2⟩:=h
        rw[w6]at hl
        intro p2 gT
        have Uz:=aZ h3 gT
        have Wr:=(F2.aI.ne gT).1
        have hR:=hR.new gT (o:=.lst (ns.map D.int))
        have F3:=F2.trans (Fl.put (o:=.lst (ns.map D.int)) F2.aI gT)
        have h3:ak M' p2 (.lst (ns.map D.int)) p=some (.lst (qs.map D.ref)):=by rw[ah Uz];exact h3
        have h4:ak M' p2 (.lst (ns.map D.int)) p2=some (.lst (ns.map D.int)):=af
        generalize ak M' p2 (.lst (ns.map D.int))=M8 at*
        walk_at "rd"
        refine eB h3 (by rw[B4];exact p9 (show qs.length<=12 by omega) (by decide)) ?_
        walk_at "rd"
        refine⟨_,qs++[p2],rfl,by rw[af,B6];rfl,by rw[p5,k9];omega,(hR.put h3).add Wr (by rw[ah (J3 Uz)];exact h4) (by omega) h2,?_⟩
        exact Fl.own F3 hF VQ
      ·obtain⟨v9,qs,rfl,h3,Uy,hR,F4⟩:=h
       rw[aV]at Uy
       exact hN _ _ ⟨p,qs,v9,rfl,h3,by omega,hR,F4⟩
    ·rintro δ' M' ⟨p,qs,v9,rfl,eL,XM,hR,F3⟩
     walk_at "rd"
     refine⟨o,aU,rfl,F3.mv o _ GC Rh,Fz hl hn qR,λ l M4 UI Wh hE=>?_⟩
     have F4:=F3.trans (hE.fl F3.aI)
     have hR:=hR.keep (M':=M4) λ b u _ e=>hE b u e
     have eL:=hE _ _ eL
     walk_at "rd"
     refine tZ (ds:=qs.map D.ref) (λ i acc M'=>M'=M4/\∃os:List Row,acc=os.map row/\os.length<=i/\∀r∈os,hG n aU.length r) ⟨rfl,[],rfl,E1 _,λ r h=>by cases h⟩ (λ i acc M' hi h=>?_) (λ i acc M' hi h=>?_) (λ i d acc M' hd h=>?_) (λ acc M' h=>?_)
     ·obtain⟨rfl,_⟩:=h
      exact eL
     ·obtain⟨rfl,os,rfl,o1,_⟩:=h
      rw[B4]at hi ⊢
      exact small (by omega)
     ·obtain⟨rfl,os,rfl,o1,o2⟩:=h
      rw[r9]at hd
      cases e:qs[i]? with
      |none=>rw[e]at hd;cases hd
      |some q=>
       rw[e]at hd
       cases hd
       obtain⟨Gy,hs,lR,hh,hx⟩:=hR q (m5 e)
       walk_at "rd"
       refine gX (xs:=hs) D.int (λ x=>D.int ((qO aU aU.length).getD x.toNat 0)) (by omega) lR (λ j x N HS hN=>?_) ?_
       ·have XF:=hx x (m5 HS)
        obtain⟨m,rfl⟩:∃m:Nat,x=(m:Int):=⟨x.toNat,by omega⟩
        walk_at "rd"
        refine bW Wh (cN (by rw[pM];omega)) ?_
        rw[u4]at hN
        exact hN
       ·rw[show(hs.map λ x=>D.int ((qO aU aU.length).getD x.toNat 0))=(hs.map λ x=>(qO aU aU.length).getD x.toNat 0).map D.int by rw[D8];rfl]
        refine wJ ?_
        walk_at "rd"
        refine bh (λ _=>?_) (λ _=>?_)
        ·walk_at "rd"
         refine⟨q,hs,n,rfl,lR,by omega,rfl,os++[jo hs n],by rw[B6];rfl,by rw[p5,k9];omega,λ r hr=>?_⟩
         rcases B5.mp hr with z|z
         ·exact o2 r z
         ·rw[q9.mp z];exact rY hh hx
        ·exact⟨rfl,os,rfl,by omega,o2⟩
     ·obtain⟨rfl,os,rfl,o1,o2⟩:=h
      rw[B4]at o1
      intro p2 gT
      walk_at "rd"
      refine⟨_,os,rfl,.inr ⟨p2,rfl,af⟩,by omega,λ r hr=>by rw[(o2 r hr).len];omega,λ out ho HW=>?_⟩
      exact aA (k out _ (by omega) (λ r hr=>o2 r (ho r hr)) (F4.trans (Fl.put F4.aI gT)))
end
def Af:eK:=λ ds M Q=>∃(a c:Addr) (m:Nat) (dp:Int),ds=[.ref a,.int m,.int dp]/\Flow M a c/\1<=m/\m<=12/\∀(n:Nat) (g:List bB) (M':Mem),n<=12->fR n g->Fl a c M M'->Q (cb g) M'
theorem xC{n:Nat}{zs:List Str}{aU:List (List Row)}(hn:n<=12)(hz:zs.length=n)(ho:aU.length=n)(h:∀i os,aU[i]?=some os->os.length<=20/\∀r∈os,hG n i r):fR n (zs.zip aU):=by
 refine⟨by rw[length_zip];omega,hn,λ i hi=>?_⟩
 have e:(zs.zip aU).getD i ir=(zs[i]'(by omega),aU[i]'(by omega)):=by
  rw[e9,i8 (by rw[length_zip];omega)]
  simp
 rw[e]
 have:=h i _ (i8 (by omega))
 exact⟨by have:=this.1;show(aU[i]'_).length<=63;omega,this.2⟩
theorem qT{zs:List Str}{aU:List (List Row)}{n:Nat}(hz:zs.length=n)(ho:aU.length=n):(List.range n).map (λ i=>gJ (zs.getD i (Str.ofString ""),aU.getD i []))=(zs.zip aU).map gJ:=by
 refine ext_getElem? λ i=>?_
 by_cases hi:i < n
 ·rw[r9,r9,n0 hi,i8 (by rw[length_zip];omega)]
  simp[e9,hz,ho,hi]
 ·rw[l8 (by simpa using hi),l8 (by rw[B4,length_zip];omega)]
theorem wZ{aU:List (List Row)}{os:List Row}{n:Nat}(h:∀i os,aU[i]?=some os->os.length<=20/\∀r∈os,hG n i r)(h1:os.length<=20)(h2:∀r∈os,hG n aU.length r):∀i HJ,(aU++[os])[i]?=some HJ->HJ.length<=20/\∀r∈HJ,hG n i r:=λ i HJ e=>by
 by_cases fO:i < aU.length
 ·rw[g9 fO]at e
  exact h i HJ e
 ·rw[e7 (by omega)]at e
  have GD:i - aU.length=0:=by
   have:=(i5.mp e).1
   simp at this
   omega
  rw[GD]at e
  have e:os=HJ:=by simpa using e
  subst e
  have:i=aU.length:=by omega
  subst this
  exact⟨h1,h2⟩
section
variable {P:Program}{w:World}{K:PySem.W.Frag}{mg:Str->Option Value}{base:Heap}
theorem dN:aK ["_law_flow_here","_law_most","_law_deep","_law_many","_law_names_here","_law_options_here","_law_h"] ["_law_flow_here","_law_most","_law_deep"] (ay (top 21)):=⟨rfl,rfl,rfl,by decide+kernel,rfl,by decide+kernel,by decide+kernel⟩
theorem FR{f:Addr}{fd:FuncData}(F:gb K "_law_game" "_law_game" (top 21) f fd)(T:jw K mg)(aw:bM P w K mg base 1 "_law_pick" ["_law_flow_here","_law_many"] eY)(dP:bM P w K mg base 3 "_law_names" ["_law_flow_here","_law_many"] lx)(nR:bM P w K mg base 5 "_law_options" ["_law_flow_here","_law_ahead","_law_many","_law_deep"] Aa):bS P w K mg base fc 6 f fd ["_law_flow_here","_law_most","_law_deep"] (cA K Af):=by
 refine jy F dN (λ ds M Q h=>?_) (λ cT A outer s H E ds M Q hr h=>?_)
 ·obtain⟨a,cc,m,dp,rfl,_⟩:=h
  rfl
 ·obtain⟨a,cc,m,dp,rfl,hF,bR,hm,k⟩:=h
  refine⟨_,(ag (aF (i:=3) dN.nd rfl (Or.inl rfl) (aY aQ aj (aE aw (hr.mono (by decide)) (by rfl) (aa (ar 0) (aa (ar 1) ae)))))
 (ag (aF (i:=4) dN.nd rfl (Or.inr rfl) (aE dP (hr.mono (by decide)) (by rfl) (aa (ar 0) (aa (ar 3) ae))))
 (ag (aF (i:=5) dN.nd rfl (Or.inr rfl) (bT ae))
 (ag (dQ B0 rfl (bf rfl T.range (aa (ar 3) ae)) (bg (i:=6) dN.nd rfl (Or.inl rfl))
 (aq (cw (iI j0 i7 i9 cM (ar 5) (aa (aE nR (hr.mono (by decide)) (by rfl) (aa (ar 0) (aa (ar 5) (aa (ar 3) (aa (ar 2) ae))))) ae)))))
 (aq (aJ (jA dX dY (by rfl) T.tuple (by decide+kernel) (tgs:=["_law_h"]) (fr:=[4,5]) ⟨bA (by kernel_rfl),rfl,(λ _ _ h=>h),(bf rfl T.range (aa (ar 3) ae)),(aX (λ _ _ _ _ _=>(aH (i:=0) (show(["_law_h","_law_names_here","_law_options_here"]:List Str).Nodup by decide+kernel) rfl (Or.inl rfl))) (by decide)),(λ _ _ _ _ _=>bq),(λ _ _ _ _ _=>(bZ (aa (bE bo (ar 1) (ar 0) (λ _ _=>rfl)) (aa (bE bo (ar 2) (ar 0) (λ _ _=>rfl)) ae))))⟩))))))),?_⟩
  walk_at "rd"
  refine⟨a,cc,m,rfl,hF,by omega,by omega,λ d o h0 h1 uB=>?_⟩
  have F1:Fl a cc M _:=Fl.pick uB
  generalize ak M a o=M1 at*
  obtain⟨n,en⟩:∃n:Nat,1+d=(n:Int):=⟨(1+d).toNat,by omega⟩
  walk_at "rd"
  rw[en]
  refine⟨a,cc,n,rfl,F1.aI,by omega,λ p zs M2 hz hp eL F2=>?_⟩
  have F3:=F1.trans F2
  have uw:=(F1.aI.ne hp).1
  walk_at "rd"
  refine⟨by decide,λ o GB=>?_⟩
  have GC:=(F3.aI.ne GB).1
  have F4:=F3.trans (Fl.put (o:=.lst []) F3.aI GB)
  have UC:=aZ eL GB
  have eL:ak M2 o (.lst []) p=some (.lst (zs.map D.str)):=by rw[ah UC];exact eL
  have Rh:ak M2 o (.lst []) o=some (.lst (([]:List (List Row)).map gB)):=af
  have Q7:M o=none:=by
   cases z:M o with
   |none=>rfl
   |some u=>rw[F3.mv o u GC z]at GB;cases GB
  generalize ak M2 o (.lst [])=M3 at*
  walk_at "rd"
  refine⟨cv (by omega) (by omega),?_⟩
  rw[u4]
  refine fP (λ j δ M'=>∃(v6:Option D) (aU:List (List Row)),δ=[some (.ref a),some (.int m),some (.int dp),some (.int n),some (.ref p),some (.ref o),v6]/\M' p=some (.lst (zs.map D.str))/\M' o=some (.lst (aU.map gB))/\aU.length=j/\(∀i os,aU[i]?=some os->os.length<=20/\∀r∈os,hG n i r)/\Fl a cc M M') ⟨none,[],rfl,eL,Rh,rfl,λ i os h=>by simp at h,F4⟩ (λ j d δ M' hd h=>?_) (λ δ M' h=>?_)
  ·obtain⟨v6,aU,rfl,h1,h2,h3,h4,h5⟩:=h
   obtain⟨hj,rfl⟩:=cu hd
   walk_at "rd"
   refine⟨⟨rfl,_,h2⟩,?_⟩
   walk_at "rd"
   refine⟨a,cc,o,aU,n,dp,rfl,h5.aI,GC,h2,by omega,by omega,h4,λ os M5 g1 g2 g3=>?_⟩
   have h2:=g3.mv _ _ GC h2
   have h1:=g3.mv _ _ uw h1
   walk_at "rd"
   refine eB h2 (by rw[B4];exact p9 (show aU.length<=12 by omega) (by decide)) ?_
   walk_at "rd"
   refine⟨_,aU++[os],rfl,by rw[ah UC];exact h1,by rw[af,B6];rfl,by rw[p5,k9,h3],wZ h4 g1 g2,Fl.own (h5.trans g3) hF Q7⟩
  ·obtain⟨v6,aU,rfl,h1,h2,h3,h4,h5⟩:=h
   rw[aV]at h3
   walk_at "rd"
   refine⟨cv (by omega) (by omega),?_⟩
   rw[u4]
   refine eT (xs:=List.range n) (enc:=HB) (λ i=>gJ (zs.getD i (Str.ofString ""),aU.getD i [])) (by simp;omega) (λ i x N hx hN=>?_) ?_
   ·have hi:=(i5.mp hx).1
    have Lw:x=i:=by rw[n0 (by simpa using hi)]at hx;exact(A9 hx).symm
    subst Lw
    rw[w6]at hi
    walk_at "rd"
    refine bW h1 (d:=.str (zs.getD x (Str.ofString ""))) (by rw[C9];exact cz (by rw[r9,i8 (by omega),e9,i8 (by omega)];rfl)) ?_
    walk_at "rd"
    refine bW h2 (d:=gB (aU.getD x [])) (by rw[C9];exact cz (by rw[r9,i8 (by omega),e9,i8 (by omega)];rfl)) ?_
    walk_at "rd"
    exact⟨by show 2<=sizeLine;decide,hN⟩
   ·rw[qT hz h3]
    walk_at "rd"
    exact aA (k n _ _ (by omega) (xC (by omega) hz h3 h4) h5)
end
def Hu:eK:=λ ds M Q=>∃(a c:Addr) (m:Nat),ds=[.ref a,.int m]/\Flow M a c/\1<=m/\m<=12/\∀(n:Nat) (g:List bB) (s:Addr) (M':Mem),n<=12->fR n g->Fl a c M M'->Q (.tup [cb g,.ref s]) M'
structure Nm(a c p s o:Addr)(zs:List Str)(jX:List Int)(aU:List (List Row))(M M':Mem):Prop where
 fl:Fl a c M M'
 np:M' p=some (.lst (zs.map D.str))
 sz:M' s=some (.lst (jX.map D.int))
 op:M' o=some (.lst (aU.map gB))
structure Nn(a p s o:Addr)(M:Mem):Prop where
 pa:p≠a
 sa:s≠a
 oa:o≠a
 ps:p≠s
 po:p≠o
 so:s≠o
 ms:M s=none
 mo:M o=none
section
variable {a c p s o q r:Addr}{zs:List Str}{jX:List Int}{aU:List (List Row)}{M M' M2:Mem}{x:MO}
theorem Nm.on (h:Nm a c p s o zs jX aU M M')(k:Nn a p s o M)(g:Fl a c M' M2):Nm a c p s o zs jX aU M M2:=⟨h.fl.trans g,g.mv _ _ k.pa h.np,g.mv _ _ k.sa h.sz,g.mv _ _ k.oa h.op⟩
theorem Nm.new (h:Nm a c p s o zs jX aU M M')(k:Nn a p s o M)(hq:M' q=none):Nm a c p s o zs jX aU M (ak M' q x):=h.on k (Fl.put h.fl.aI hq)
theorem Nm.free (h:Nm a c p s o zs jX aU M M')(hq:M' q=none):q≠a/\p≠q/\s≠q/\o≠q/\M q=none:=by
 have qa:=(h.fl.aI.ne hq).1
 refine⟨qa,aZ h.np hq,aZ h.sz hq,aZ h.op hq,?_⟩
 cases z:M q with
 |none=>rfl
 |some u=>rw[h.fl.mv q u qa z]at hq;cases hq
theorem Nm.own (h:Nm a c p s o zs jX aU M M')(hF:Flow M a c)(hr:r≠a/\p≠r/\s≠r/\o≠r/\M r=none):Nm a c p s o zs jX aU M (ak M' r x):=
 ⟨Fl.own h.fl hF hr.2.2.2.2,by rw[ah hr.2.1];exact h.np,by rw[ah hr.2.2.1];exact h.sz,by rw[ah hr.2.2.2.1];exact h.op⟩
end
section
variable {P:Program}{w:World}{K:PySem.W.Frag}{mg:Str->Option Value}{base:Heap}
theorem bQ:aK ["_law_flow_here","_law_most","_law_many","_law_names_here","_law_sizes","_law_options_here","_law_h","_law_size","_law_rows","_law_one","_law_some"] ["_law_flow_here","_law_most"] (ay (top 24)):=⟨rfl,rfl,rfl,by decide+kernel,rfl,by decide+kernel,by decide+kernel⟩
theorem KO{f:Addr}{fd:FuncData}(F:gb K "_law_nim" "_law_nim" (top 24) f fd)(T:jw K mg)(aw:bM P w K mg base 1 "_law_pick" ["_law_flow_here","_law_many"] eY)(dP:bM P w K mg base 3 "_law_names" ["_law_flow_here","_law_many"] lx)(dk:bM P w K mg base 1 "_law_counts" ["_law_heaps","_law_many"] iL)(eF:bM P w K mg base 4 "_law_in_order" ["_law_sums"] pj):bS P w K mg base fc 5 f fd ["_law_flow_here","_law_most"] (cA K Hu):=by
 refine jy F bQ (λ ds M Q h=>?_) (λ cT A outer s H E ds M Q hr h=>?_)
 ·obtain⟨a,cc,m,rfl,_⟩:=h
  rfl
 ·obtain⟨a,cc,m,rfl,hF,bR,hm,k⟩:=h
  refine⟨_,(ag (aF (i:=2) bQ.nd rfl (Or.inr rfl) (aY aQ aj (aE aw (hr.mono (by decide)) (by rfl) (aa (ar 0) (aa (ar 1) ae)))))
 (ag (aF (i:=3) bQ.nd rfl (Or.inr rfl) (aE dP (hr.mono (by decide)) (by rfl) (aa (ar 0) (aa (ar 2) ae))))
 (ag (aF (i:=4) bQ.nd rfl (Or.inr rfl) (bT ae))
 (ag (aF (i:=5) bQ.nd rfl (Or.inr rfl) (bT ae))
 (ag (dQ B0 rfl (bf rfl T.range (aa (ar 2) ae)) (bg (i:=6) bQ.nd rfl (Or.inl rfl))
 (ag (aF (i:=7) bQ.nd rfl (Or.inl rfl) (aO (Dh rfl) (by rfl) T.min (by decide+kernel) (aa aj (aa (aE aw (hr.mono (by decide)) (by rfl) (aa (ar 0) (aa (aY aQ aj (IB rfl (by rfl) T.max (ar 4))) ae))) ae))))
 (ag (aF (i:=8) bQ.nd rfl (Or.inl rfl) (aY eC (bT (aa (bT ae) ae)) (eN Me (by rfl) T.int (by decide+kernel) (aa (og rZ (ar 7) aj (aR _)) ae))))
 (ag (dQ B0 rfl (bf rfl T.range (aa (ar 7) ae)) (bg (i:=9) bQ.nd rfl (Or.inr rfl))
 (ag (dw (i:=10) bQ.nd rfl (Or.inl rfl) (tgs:=["_law_g"]) (fr:=[9,4]) ⟨bA (by kernel_rfl),rfl,(λ _ _ h=>h),(bf rfl T.range (aa (ar 6) ae)),(aX (λ _ _ _ _ _=>(aH (i:=0) (show(["_law_g","_law_one","_law_sizes"]:List Str).Nodup by decide+kernel) rfl (Or.inl rfl))) (by decide)),(λ _ _ _ _ _=>(lq (aS (eO hr.units) (bE bo (ar 2) (ar 0) (λ _ _=>rfl)) (ar 1) (aR _)))),(λ _ _ _ _ _=>(bT (aa (ar 0) ae)))⟩)
 (aq (cp (lZ (aS (Om hr.units) (ar 10) (bT ae) (aR _)) (iF (zP (aS rZ (ar 9) aj (aR _)) (uH (aS (eO hr.units) (aE aw (hr.mono (by decide)) (by rfl) (aa (ar 0) (aa aj ae))) aj (aR _)))).pt)).pt
 (aq (cw (iI j0 i7 i9 cM (ar 8) (aa (bE bo (ar 10) (aE aw (hr.mono (by decide)) (by rfl) (aa (ar 0) (aa (aO gO (by rfl) T.len (by decide+kernel) (aa (ar 10) ae)) ae))) (λ _ _=>rfl)) ae))))
 bp))))
 (ag (cw (iI j0 i7 i9 cM (ar 4) (aa (ar 7) ae)))
 (aq (cw (iI j0 i7 i9 cM (ar 5) (aa (aE eF (hr.mono (by decide)) (by rfl) (aa (eX (tgs:=["_law_row"]) (fr:=[2]) ⟨bA (by kernel_rfl),rfl,(λ _ _ h=>h),(cO (ar 8)),(aX (λ _ _ _ _ _=>(aH (i:=0) (show(["_law_row","_law_many"]:List Str).Nodup by decide+kernel) rfl (Or.inl rfl))) (by decide)),(λ _ _ _ _ _=>bq),(λ _ _ _ _ _=>(aE dk (hr.mono (by decide)) (by rfl) (aa (ar 0) (aa (ar 1) ae))))⟩) ae)) ae)))))))))
 (aq (aJ (bZ (aa (jA dX dY (by rfl) T.tuple (by decide+kernel) (tgs:=["_law_h"]) (fr:=[3,5]) ⟨bA (by kernel_rfl),rfl,(λ _ _ h=>h),(bf rfl T.range (aa (ar 2) ae)),(aX (λ _ _ _ _ _=>(aH (i:=0) (show(["_law_h","_law_names_here","_law_options_here"]:List Str).Nodup by decide+kernel) rfl (Or.inl rfl))) (by decide)),(λ _ _ _ _ _=>bq),(λ _ _ _ _ _=>(bZ (aa (bE bo (ar 1) (ar 0) (λ _ _=>rfl)) (aa (bE bo (ar 2) (ar 0) (λ _ _=>rfl)) ae))))⟩) (aa (ar 4) ae)))))))))),?_⟩
  walk_at "rd"
  refine⟨a,cc,m,rfl,hF,by omega,by omega,λ d o h0 h1 uB=>?_⟩
  have F1:Fl a cc M _:=Fl.pick uB
  generalize ak M a o=M1 at*
  obtain⟨n,en⟩:∃n:Nat,1+d=(n:Int):=⟨(1+d).toNat,by omega⟩
  walk_at "rd"
  rw[en]
  refine⟨a,cc,n,rfl,F1.aI,by omega,λ p zs M2 hz hp eL F2=>?_⟩
  have F3:=F1.trans F2
  have uw:=(F1.aI.ne hp).1
  walk_at "rd"
  refine⟨by decide,λ s hs=>?_⟩
  have Uv:=(F3.aI.ne hs).1
  have F4:=F3.trans (Fl.put (o:=.lst []) F3.aI hs)
  have Uw:M s=none:=by
   cases z:M s with
   |none=>rfl
   |some u=>rw[F3.mv s u Uv z]at hs;cases hs
  have Gz:=aZ eL hs
  have eL:ak M2 s (.lst []) p=some (.lst (zs.map D.str)):=by rw[ah Gz];exact eL
  have Tv:ak M2 s (.lst []) s=some (.lst (([]:List Int).map D.int)):=af
  generalize ak M2 s (.lst [])=M3 at*
  walk_at "rd"
  refine⟨by decide,λ o ho=>?_⟩
  have GC:=(F4.aI.ne ho).1
  have Q7:M o=none:=by
   cases z:M o with
   |none=>rfl
   |some u=>rw[F4.mv o u GC z]at ho;cases ho
  have GB:=aZ eL ho
  have Q5:=aZ Tv ho
  have NN:Nn a p s o M:=⟨uw,Uv,GC,Gz,GB,Q5,Uw,Q7⟩
  have N0:Nm a cc p s o zs [] [] M (ak M3 o (.lst [])):=⟨F4.trans (Fl.put F4.aI ho),by rw[ah GB];exact eL,by rw[ah Q5];exact Tv,af⟩
  generalize ak M3 o (.lst [])=M4 at*
  walk_at "rd"
  refine⟨cv (by omega) (by omega),?_⟩
  rw[u4]
  refine fP (λ j δ M'=>∃(v6 v7 v8 v9 v10:Option D) (jX:List Int) (aU:List (List Row)),δ=[some (.ref a),some (.int m),some (.int n),some (.ref p),some (.ref s),some (.ref o),v6,v7,v8,v9,v10]/\Nm a cc p s o zs jX aU M M'/\jX.length=j/\(∀x∈jX,0<=x/\x<=4)/\aU.length=j/\(∀i os,aU[i]?=some os->os.length<=20/\∀r∈os,hG n i r)) ⟨none,none,none,none,none,[],[],rfl,N0,rfl,(λ x h=>by cases h),rfl,(λ i os h=>by simp at h)⟩ (λ j d δ M' hd h=>?_) (λ δ M' h=>?_)
  ·obtain⟨v6,v7,v8,v9,v10,jX,aU,rfl,N1,MG,hsz,HW,qR⟩:=h
   obtain⟨hj,rfl⟩:=cu hd
   have XU:=xg (b:=4) (by decide) λ x hx=>(hsz x hx).2
   have VY:=sH λ x hx=>(hsz x hx).1
   have Tv:=N1.sz
   walk_at "rd"
   generalize gZ 0 jX=mx at*
   refine⟨a,cc,2+mx,rfl,N1.fl.aI,by omega,by omega,λ d1 o1 Rl Rk td=>?_⟩
   have N1:=N1.on NN (Fl.pick td)
   generalize ak M' a o1=M5 at*
   walk_at "rd"
   have SY:0<=(if d1 < 4 then d1 else 4)/\(if d1 < 4 then d1 else 4)<=4:=by split <;> omega
   generalize(if d1 < 4 then d1 else 4)=z at*
   refine⟨by decide,λ p0 ir=>?_⟩
   have f0:=N1.free ir
   have N1:=N1.new NN ir (x:=.lst [])
   have g0:ak M5 p0 (.lst []) p0=some (.lst (([]:List Int).map D.int)):=af
   generalize ak M5 p0 (.lst [])=M6 at*
   walk_at "rd"
   refine⟨by show 1<=sizeLine;decide,λ p1 MJ=>?_⟩
   have g1:=aZ g0 MJ
   have N1:=N1.new NN MJ (x:=.lst [.ref p0])
   have g0:ak M6 p1 (.lst [.ref p0]) p0=some (.lst (([]:List Int).map D.int)):=by rw[ah g1];exact g0
   have g1:ak M6 p1 (.lst [.ref p0]) p1=some (.lst [.ref p0]):=af
   generalize ak M6 p1 (.lst [.ref p0])=M7 at*
   walk_at "rd"
   have ht:(0:Int)<=(if decide (0 < z)=true then 1 else 0)/\(if decide (0 < z)=true then(1:Int)else 0)<=1:=by split <;> omega
   generalize(if decide (0 < z)=true then(1:Int)else 0)=t at*
   refine AE g1 (by omega) (by omega) λ r hr=>?_
   have fr:=N1.free hr
   have N1:=N1.new NN hr (x:=.lst (List.replicate t.toNat (.ref p0)))
   have gr:ak M7 r (.lst (List.replicate t.toNat (.ref p0))) r=some (.lst ((List.replicate t.toNat p0).map D.ref)):=by rw[af,map_replicate]
   have R0:cL a j (ak M7 r (.lst (List.replicate t.toNat (.ref p0)))) (List.replicate t.toNat p0):=λ q hq=>by
    rw[eq_of_mem_replicate hq]
    exact⟨f0.1,[],by rw[ah (aZ g0 hr)];exact g0,by decide,λ x h=>by cases h⟩
   have f1:∀q∈List.replicate t.toNat p0,q≠s:=λ q hq=>by rw[eq_of_mem_replicate hq];exact J3 f0.2.2.1
   have l0:(List.replicate t.toNat p0).length<=1:=by rw[l7];omega
   generalize List.replicate t.toNat p0=qs at*
   generalize ak M7 r (.lst (List.replicate t.toNat (.ref p0)))=M8 at*
   walk_at "rd"
   refine⟨cv (by omega) (by omega),?_⟩
   refine fP (λ i δ M'=>∃(v9 v10:Option D) (qs:List Addr),δ=[some (.ref a),some (.int m),some (.int n),some (.ref p),some (.ref s),some (.ref o),some (.int (0+(j:Nat))),some (.int z),some (.ref r),v9,v10]/\Nm a cc p s o zs jX aU M M'/\M' r=some (.lst (qs.map D.ref))/\cL a j M' qs/\(∀q∈qs,q≠s)/\qs.length<=1+i) ⟨v9,v10,qs,rfl,N1,gr,R0,f1,l0⟩ (λ i d δ M' hd h=>?_) (λ δ M' h=>?_)
   ·obtain⟨v9,v10,qs,rfl,N1,gr,R1,f1,l1⟩:=h
    obtain⟨hi,rfl⟩:=cu hd
    walk_at "rd"
    refine⟨cv (by omega) (by omega),?_⟩
    rw[show(0+(j:Int)).toNat=j by omega]
    refine eI (λ i acc M'=>∃gs:List Addr,acc=gs.map D.ref/\Nm a cc p s o zs jX aU M M'/\M' r=some (.lst (qs.map D.ref))/\cL a j M' qs/\cL a j M' gs/\(∀q∈gs,q≠r/\q≠s)/\gs.length<=i) ⟨[],rfl,N1,gr,R1,cL.nil,(λ q h=>by cases h),E1 _⟩ (λ i acc M' hi h=>?_) (λ y d acc M' hd h=>?_) (λ acc M' h=>?_)
    ·obtain⟨gs,rfl,N2,g2,R2,S2,ML,l2⟩:=h
     rw[aV]at hi
     rw[B4]
     exact small (by omega)
    ·obtain⟨gs,rfl,N2,g2,R2,S2,ML,l2⟩:=h
     obtain⟨hg,rfl⟩:=cu hd
     walk_at "rd"
     refine bW N2.sz (d:=.int (jX.getD y 0)) (by rw[C9];exact cN (by omega)) ?_
     walk_at "rd"
     refine bh (λ _=>?_) (λ _=>?_)
     ·walk_at "rd"
      refine⟨by show 1<=sizeLine;decide,λ q hq=>⟨gs++[q],by rw[B6];rfl,N2.new NN hq,by rw[ah (aZ g2 hq)];exact g2,R2.new hq,(S2.new hq).add (N2.free hq).1 (hs:=[(y:Int)]) ?_ (by show 1<=4;decide) (λ x hx=>?_),λ x hx=>?_,by rw[p5,k9];omega⟩⟩
      ·rw[af,C9]
       rfl
      ·rw[q9.mp hx]
       omega
      ·rcases B5.mp hx with e|e
       ·exact ML x e
       ·rw[q9.mp e]
        exact⟨J3 (aZ g2 hq),J3 (N2.free hq).2.2.1⟩
     ·exact⟨gs,rfl,N2,g2,R2,S2,ML,by omega⟩
    ·obtain⟨gs,rfl,N2,g2,R2,S2,ML,l2⟩:=h
     rw[aV]at l2
     intro t ht
     have OO:=(N2.free ht).1
     have N3:=N2.new NN ht (x:=.lst (gs.map D.ref))
     have g3:ak M' t (.lst (gs.map D.ref)) r=some (.lst (qs.map D.ref)):=by rw[ah (aZ g2 ht)];exact g2
     have R3:=R2.new ht (o:=.lst (gs.map D.ref))
     have S3:=S2.new ht (o:=.lst (gs.map D.ref))
     have gt:ak M' t (.lst (gs.map D.ref)) t=some (.lst (gs.map D.ref)):=af
     generalize ak M' t (.lst (gs.map D.ref))=M8 at*
     walk_at "rd"
     refine⟨by decide,λ u hu=>?_⟩
     have N4:=N3.new NN hu (x:=.lst [])
     have g4:ak M8 u (.lst []) r=some (.lst (qs.map D.ref)):=by rw[ah (aZ g3 hu)];exact g3
     have R4:=R3.new hu (o:=.lst [])
     have S4:=S3.new hu (o:=.lst [])
     have gt:ak M8 u (.lst []) t=some (.lst (gs.map D.ref)):=by rw[ah (aZ gt hu)];exact gt
     refine Jq gt af (λ q hq=>let⟨_,hs,h,_⟩:=S4 q hq;⟨hs,h⟩) ?_
     generalize ak M8 u (.lst [])=M9 at*
     cases gs with
     |nil=>
      walk_at "rd"
      exact⟨_,_,qs,rfl,N4,g4,R4,f1,by omega⟩
     |cons q0 gs=>
      walk_at "rd"
      refine bh (λ _=>?_) (λ _=>?_)
      ·walk_at "rd"
       refine⟨⟨rfl,_,g4⟩,?_⟩
       walk_at "rd"
       rw[B4]
       refine⟨a,cc,((q0::gs).length:Nat),rfl,N4.fl.aI,by rw[x9];omega,by omega,λ d2 o2 Mb MT LK=>?_⟩
       have P6:=Fl.pick LK
       have N4:=N4.on NN P6
       have R4:=R4.keep P6.mv
       have S4:=S4.keep P6.mv
       have g4:=P6.mv _ _ fr.1 g4
       have gt:=P6.mv _ _ OO gt
       generalize ak M9 a o2=U4 at*
       obtain⟨y,rfl⟩:∃y:Nat,d2=(y:Int):=⟨d2.toNat,by omega⟩
       have hy:y < (q0::gs).length:=by omega
       have hm:(q0::gs)[y]∈q0::gs:=A1 hy
       obtain⟨qa,hs,hq,hh,hx⟩:=S4 _ hm
       have OT:=ML _ hm
       refine bW gt (d:=.ref (q0::gs)[y]) (cz (by rw[r9,i8 hy];rfl)) ?_
       generalize(q0::gs)[y]=q at*
       walk_at "rd"
       refine eB g4 (by rw[B4];exact p9 (show qs.length<=100 by omega) (by decide)) ?_
       walk_at "rd"
       exact⟨_,_,qs++[q],rfl,N4.own hF fr,by rw[af,B6];rfl,(R4.put g4).add qa (by rw[ah OT.1];exact hq) hh hx,(λ x hx=>(B5.mp hx).elim (f1 x) λ e=>by rw[q9.mp e];exact OT.2),by rw[p5,k9];omega⟩
      ·walk_at "rd"
       refine⟨a,cc,2,rfl,N4.fl.aI,by decide,by decide,λ d3 o3 W5 W4 Wi=>?_⟩
       have P7:=Fl.pick Wi
       have N4:=N4.on NN P7
       have R4:=R4.keep P7.mv
       have S4:=S4.keep P7.mv
       have g4:=P7.mv _ _ fr.1 g4
       have gt:=P7.mv _ _ OO gt
       generalize ak M9 a o3=M9 at*
       walk_at "rd"
       refine bh (λ _=>?_) (λ _=>?_)
       ·walk_at "rd"
        refine⟨⟨rfl,_,g4⟩,?_⟩
        walk_at "rd"
        rw[B4]
        refine⟨a,cc,((q0::gs).length:Nat),rfl,N4.fl.aI,by rw[x9];omega,by omega,λ d2 o2 Mb MT LK=>?_⟩
        have P6:=Fl.pick LK
        have N4:=N4.on NN P6
        have R4:=R4.keep P6.mv
        have S4:=S4.keep P6.mv
        have g4:=P6.mv _ _ fr.1 g4
        have gt:=P6.mv _ _ OO gt
        generalize ak M9 a o2=U4 at*
        obtain⟨y,rfl⟩:∃y:Nat,d2=(y:Int):=⟨d2.toNat,by omega⟩
        have hy:y < (q0::gs).length:=by omega
        have hm:(q0::gs)[y]∈q0::gs:=A1 hy
        obtain⟨qa,hs,hq,hh,hx⟩:=S4 _ hm
        have OT:=ML _ hm
        refine bW gt (d:=.ref (q0::gs)[y]) (cz (by rw[r9,i8 hy];rfl)) ?_
        generalize(q0::gs)[y]=q at*
        walk_at "rd"
        refine eB g4 (by rw[B4];exact p9 (show qs.length<=100 by omega) (by decide)) ?_
        walk_at "rd"
        exact⟨_,_,qs++[q],rfl,N4.own hF fr,by rw[af,B6];rfl,(R4.put g4).add qa (by rw[ah OT.1];exact hq) hh hx,(λ x hx=>(B5.mp hx).elim (f1 x) λ e=>by rw[q9.mp e];exact OT.2),by rw[p5,k9];omega⟩
       ·walk_at "rd"
        exact⟨_,_,qs,rfl,N4,g4,R4,f1,by omega⟩
   ·obtain⟨v9,v10,qs,rfl,N1,gr,R1,f1,l1⟩:=h
    rw[aV]at l1
    walk_at "rd"
    refine⟨⟨rfl,_,N1.sz⟩,?_⟩
    walk_at "rd"
    refine eB N1.sz (by rw[B4];exact p9 (show jX.length<=100 by omega) (by decide)) ?_
    have N2:Nm a cc p s o zs (jX++[z]) aU M (ak M' s (.lst (jX.map D.int++[.int z]))):=⟨Fl.own N1.fl hF Uw,by rw[ah Gz];exact N1.np,by rw[af,B6];rfl,by rw[ah (J3 Q5)];exact N1.op⟩
    have R2:cL a j (ak M' s (.lst (jX.map D.int++[.int z]))) qs:=λ q hq=>by
     obtain⟨qa,hs,h,h2⟩:=R1 q hq
     exact⟨qa,hs,by rw[ah (f1 q hq)];exact h,h2⟩
    have gr:ak M' s (.lst (jX.map D.int++[.int z])) r=some (.lst (qs.map D.ref)):=by rw[ah (J3 fr.2.2.1)];exact gr
    generalize ak M' s (.lst (jX.map D.int++[.int z]))=M9 at*
    walk_at "rd"
    refine⟨⟨rfl,_,N2.op⟩,?_⟩
    walk_at "rd"
    refine tZ (ds:=qs.map D.ref) (λ i acc M'=>M'=M9/\∃os:List Row,acc=os.map row/\os.length<=i/\∀r∈os,hG n j r) ⟨rfl,[],rfl,E1 _,λ r h=>by cases h⟩ (λ i acc M' hi h=>?_) (λ i acc M' hi h=>?_) (λ i d acc M' hd h=>?_) (λ acc M' h=>?_)
    ·obtain⟨rfl,_⟩:=h
     exact gr
    ·obtain⟨rfl,os,rfl,o1,_⟩:=h
     rw[B4]at hi ⊢
     exact small (by omega)
    ·obtain⟨rfl,os,rfl,o1,o2⟩:=h
     rw[r9]at hd
     cases e:qs[i]? with
     |none=>rw[e]at hd;cases hd
     |some q=>
      rw[e]at hd
      cases hd
      obtain⟨Gy,hs,lR,hh,hx⟩:=R2 q (m5 e)
      walk_at "rd"
      refine⟨q,hs,n,rfl,lR,by omega,rfl,os++[jo hs n],by rw[B6];rfl,by rw[p5,k9];omega,λ r hr=>?_⟩
      rcases B5.mp hr with z|z
      ·exact o2 r z
      ·rw[q9.mp z];exact rY hh hx
    ·obtain⟨rfl,os,rfl,o1,o2⟩:=h
     rw[B4]at o1
     intro p2 gT
     have N3:=N2.new NN gT (x:=.lst (os.map row))
     walk_at "rd"
     refine⟨_,os,rfl,.inr ⟨p2,rfl,af⟩,by omega,λ r hr=>by rw[(o2 r hr).len];omega,λ out ho VR=>?_⟩
     generalize ak M' p2 (.lst (os.map row))=X7 at*
     walk_at "rd"
     refine eB N3.op (by rw[B4];exact p9 (show aU.length<=100 by omega) (by decide)) ?_
     walk_at "rd"
     refine⟨_,_,_,_,_,jX++[z],aU++[out],rfl,⟨Fl.own N3.fl hF Q7,by rw[ah GB];exact N3.np,by rw[ah Q5];exact N3.sz,by rw[af,B6];rfl⟩,by rw[p5,k9,MG],λ x hx=>?_,by rw[p5,k9,HW],wZ qR (by omega) λ r hr=>by rw[HW];exact o2 r (ho r hr)⟩
     rcases B5.mp hx with e|e
     ·exact hsz x e
     ·rw[q9.mp e];exact SY
  ·obtain⟨v6,v7,v8,v9,v10,jX,aU,rfl,N1,MG,hsz,HW,qR⟩:=h
   rw[aV]at HW
   walk_at "rd"
   refine⟨cv (by omega) (by omega),?_⟩
   rw[u4]
   refine eT (xs:=List.range n) (enc:=HB) (λ i=>gJ (zs.getD i (Str.ofString ""),aU.getD i [])) (by simp;omega) (λ i x N hx hN=>?_) ?_
   ·have hi:=(i5.mp hx).1
    have Lw:x=i:=by rw[n0 (by simpa using hi)]at hx;exact(A9 hx).symm
    subst Lw
    rw[w6]at hi
    walk_at "rd"
    refine bW N1.np (d:=.str (zs.getD x (Str.ofString ""))) (by rw[C9];exact cz (by rw[r9,i8 (by omega),e9,i8 (by omega)];rfl)) ?_
    walk_at "rd"
    refine bW N1.op (d:=gB (aU.getD x [])) (by rw[C9];exact cz (by rw[r9,i8 (by omega),e9,i8 (by omega)];rfl)) ?_
    walk_at "rd"
    exact⟨by show 2<=sizeLine;decide,hN⟩
   ·rw[qT hz HW]
    walk_at "rd"
    exact⟨by show 2<=sizeLine;decide,aA (k n _ _ _ (by omega) (xC (by omega) hz HW qR) N1.fl)⟩
end
def Ht:eK:=λ ds M Q=>∃(a c:Addr) (n:Nat) (g:List bB) (m most:Nat),ds=[.ref a,cb g,.int m,.int most]/\Flow M a c/\fR n g/\m<=4/\1<=most/\most<=400/\∀(as:Row) (p:Addr) (l:List Row) (M':Mem),as.length=n->p≠a->M' p=some (.lst (l.map row))->nX n (ju (lL g n) as) l->l.length<=most->(∀x∈as,0<=x)->Fl a c M M'->Q (.tup [row as,.ref p]) M'
theorem BQ{as:Row}{h:Nat}(hh:h < as.length):(less as h).sum=as.sum - 1:=by
 have e:as.take h++[as.getD h 0]++as.drop (h+1)=as:=by
  rw[e9,i8 hh,u7]
  show as.take h++as[h]::as.drop (h+1)=as
  rw[<- i4 hh,take_append_drop]
 have e2:as.sum=(as.take h++[as.getD h 0]++as.drop (h+1)).sum:=by rw[e]
 rw[e2]
 unfold less
 simp only[sum_append,sum_cons,sum_nil]
 omega
theorem wB:∀{as:Row},(∀x∈as,0<=x)->0<=as.sum
 |[],_=>Int.le_refl _
 |a::as,h=>by
  rw[sum_cons]
  have:=wB λ x hx=>h x (m3 _ hx)
  have:=h a (o8 ..)
  omega
def P0(a c:Addr)(n:Nat)(g:List bB)(m most:Nat)(M:Mem)(mm:Nat)(δ:dq)(M':Mem):Prop:=∃(as:Row) (fd:D) (v6 v7:Option D),δ=[some (.ref a),some (cb g),some (.int m),some (.int most),some (row as),some fd,v6,v7]/\as.length=n/\(∀x∈as,0<=x)/\Fl a c M M'/\mm=as.sum.toNat/\((fd=.bj/\∃h,h < n/\0 < as.getD h 0)\/∃p l,fd=.ref p/\p≠a/\M' p=some (.lst (l.map row))/\nX n (ju (lL g n) as) l/\l.length<=most)
section
variable {P:Program}{w:World}{K:PySem.W.Frag}{mg:Str->Option Value}{base:Heap}
theorem bH:aK ["_law_flow_here","_law_game_here","_law_many","_law_most","_law_counts_here","_law_found","_law_there","_law_h"] ["_law_flow_here","_law_game_here","_law_many","_law_most"] (ay (top 26)):=⟨rfl,rfl,rfl,by decide+kernel,rfl,by decide+kernel,by decide+kernel⟩
theorem KN{f:Addr}{fd:FuncData}(F:gb K "_law_walkable" "_law_walkable" (top 26) f fd)(T:jw K mg)(aw:bM P w K mg base 1 "_law_pick" ["_law_flow_here","_law_many"] eY)(nj:bM P w K mg base 2 "_law_some_sum" ["_law_flow_here","_law_many","_law_most"] z_)(oV:bM P w K mg base 5 "_law_all" ["_law_game_here","_law_counts_here","_law_most"] Ah):bS P w K mg base fc 6 f fd ["_law_flow_here","_law_game_here","_law_many","_law_most"] (cA K Ht):=by
 refine jy F bH (λ ds M Q h=>?_) (λ cT A outer s H E ds M Q hr h=>?_)
 ·obtain⟨a,cc,n,g,m,most,rfl,_⟩:=h
  rfl
 ·obtain⟨a,cc,n,g,m,most,rfl,hF,G,hm,bR,Q8,k⟩:=h
  have hfew:=G.oR
  refine⟨_,(ag (aF (i:=4) bH.nd rfl (Or.inr rfl) (aE nj (hr.mono (by decide)) (by rfl) (aa (ar 0) (aa (aO gO (by rfl) T.len (by decide+kernel) (aa (ar 1) ae)) (aa (ar 2) ae)))))
 (ag (aF (i:=5) bH.nd rfl (Or.inl rfl) (aE oV (hr.mono (by decide)) (by rfl) (aa (ar 1) (aa (ar 4) (aa (ar 3) ae)))))
 (ag (iG B0 (aS Bz (ar 5) rf (aR _))
 (ag (dw (i:=6) bH.nd rfl (Or.inl rfl) (tgs:=["_law_h"]) (fr:=[4]) ⟨bA (by kernel_rfl),rfl,(λ _ _ h=>h),(bf rfl T.range (aa (aO gO (by rfl) T.len (by decide+kernel) (aa (ar 4) ae)) ae)),(aX (λ _ _ _ _ _=>(aH (i:=0) (show(["_law_h","_law_counts_here"]:List Str).Nodup by decide+kernel) rfl (Or.inl rfl))) (by decide)),(λ _ _ _ _ _=>(lq (aS rZ (bE bo (ar 1) (ar 0) (λ _ _=>rfl)) aj (aR _)))),(λ _ _ _ _ _=>(ar 0))⟩)
 (ag (aF (i:=7) bH.nd rfl (Or.inl rfl) (bE bo (ar 6) (aE aw (hr.mono (by decide)) (by rfl) (aa (ar 0) (aa (aO gO (by rfl) T.len (by decide+kernel) (aa (ar 6) ae)) ae))) (λ _ _=>rfl)))
 (ag (aF (i:=4) bH.nd rfl (Or.inr rfl) (aY aQ (aY aQ (fH my (ar 4) fF (fE (ar 7))) (bZ (aa (aY oB (bE bo (ar 4) (ar 7) (λ _ _=>rfl)) aj) ae))) (fH my (ar 4) (fE (aY aQ (ar 7) aj)) fF)))
 (aq (aF (i:=5) bH.nd rfl (Or.inl rfl) (aE oV (hr.mono (by decide)) (by rfl) (aa (ar 1) (aa (ar 4) (aa (ar 3) ae))))))))))
 (aq (aJ (bZ (aa (ar 4) (aa (ar 5) ae)))))))),?_⟩
  walk_at "rd"
  refine Ex ?_
  rw[G.len]
  walk_at "rd"
  refine⟨a,cc,n,m,rfl,hF,by omega,by omega,by omega,λ ns M1 Ta hx F1=>?_⟩
  walk_at "rd"
  have el:=tY ns n
  have fin:∀(M1:Mem) (as:Row) (N:bD),Fl a cc M M1->as.length=n->(∀fd M2,Fl a cc M M2->((fd=.bj/\∃h,h < n/\0 < as.getD h 0)\/∃p l,fd=.ref p/\p≠a/\M2 p=some (.lst (l.map row))/\nX n (ju (lL g n) as) l/\l.length<=most)->N fd M2)->Ah [cb g,row as,.int most] M1 N:=λ M1 as N F1 ha hN=>
   ⟨n,g,as,most,rfl,G,ha,Q8,bR,λ M2 hE h=>hN _ _ (F1.trans (hE.fl F1.aI)) (.inl ⟨rfl,h⟩),λ p l M2 hp hM hE hS hl=>hN _ _ (F1.trans (hE.fl F1.aI)) (.inr ⟨p,l,rfl,(F1.aI.ne hp).1,hM,hS,hl⟩)⟩
  refine fin _ _ _ F1 el λ fd M2 F2 O3=>?_
  walk_at "rd"
  refine iP ⟨P0 a cc n g m most M,⟨_,_,fd,none,none,rfl,el,tX,F2,rfl,O3⟩,?_⟩
  rintro mm δ M' ⟨as,fd,v6,v7,rfl,ha,jO,F3,rfl,O3⟩
  walk_at "rd"
  rcases O3 with⟨rfl,hh⟩|⟨p,l,rfl,uw,eL,hS,hl⟩
  ·refine mF ?_
   walk_at "rd"
   refine⟨λ δ' M2=>∃m',m' < as.sum.toNat/\P0 a cc n g m most M m' δ' M2,λ _ _ h=>h,?_⟩
   walk_at "rd"
   rw[B4,ha]
   refine⟨cv (by omega) (by omega),?_⟩
   rw[u4]
   refine eI (λ i acc M2=>M2=M'/\∃hs:List Int,acc=hs.map D.int/\hs.length<=i/\(∀x∈hs,∃h:Nat,x=(h:Int)/\h < n/\0 < as.getD h 0)/\(∀h:Nat,h < i->0 < as.getD h 0->(h:Int)∈hs)) ⟨rfl,[],rfl,E1 _,(λ x h=>by cases h),(λ h q=>absurd q (by omega))⟩ (λ i acc M2 hi h=>?_) (λ i d acc M2 hd h=>?_) (λ acc M2 h=>?_)
   ·obtain⟨rfl,hs,rfl,l1,_⟩:=h
    rw[aV]at hi
    rw[B4]
    exact small (by omega)
   ·obtain⟨rfl,hs,rfl,l1,l2,l3⟩:=h
    obtain⟨hi,rfl⟩:=cu hd
    walk_at "rd"
    refine gx (d:=.int (as.getD i 0)) (by rw[C9];exact cN (by omega)) ?_
    walk_at "rd"
    refine bh (λ hp=>?_) (λ hp=>?_)
    ·walk_at "rd"
     refine⟨rfl,hs++[(i:Int)],by rw[B6,C9];rfl,by rw[p5,k9];omega,λ x hx=>?_,λ h hh h2=>?_⟩
     ·rcases B5.mp hx with e|e
      ·exact l2 x e
      ·exact⟨i,q9.mp e,hi,hp⟩
     ·by_cases e:h < i
      ·exact m6 _ (l3 h e h2)
      ·have:h=i:=by omega
       subst this
       exact k8 _ (by simp)
    ·refine⟨rfl,hs,rfl,by omega,l2,λ h hh h2=>?_⟩
     by_cases e:h < i
     ·exact l3 h e h2
     ·have:h=i:=by omega
      subst this
      exact absurd h2 hp
   ·obtain⟨rfl,hs,rfl,l1,l2,l3⟩:=h
    rw[aV]at l1 l3
    intro t ht
    have OO:=(F3.aI.ne ht).1
    have F4:=F3.trans (Fl.put (o:=.lst (hs.map D.int)) F3.aI ht)
    have f_:0 < hs.length:=by
     obtain⟨h,h1,h2⟩:=hh
     exact length_pos_of_mem (l3 h h1 h2)
    have gt:ak M2 t (.lst (hs.map D.int)) t=some (.lst (hs.map D.int)):=af
    generalize ak M2 t (.lst (hs.map D.int))=M5 at*
    walk_at "rd"
    rw[B4]
    refine⟨a,cc,(hs.length:Nat),rfl,F4.aI,by omega,by omega,λ d o d0 d1 td=>?_⟩
    have F5:=F4.trans (Fl.pick td)
    have gt:=(Fl.pick td).mv _ _ OO gt
    generalize ak M5 a o=M6 at*
    obtain⟨y,rfl⟩:∃y:Nat,d=(y:Int):=⟨d.toNat,by omega⟩
    obtain⟨h,eh,hn,hp⟩:=l2 (hs.getD y 0) (by rw[e9,i8 (by omega)];exact A1 _)
    refine bW gt (cN (by omega)) ?_
    rw[eh]
    walk_at "rd"
    refine mC (by omega) ?_
    walk_at "rd"
    refine gx (cN (by omega)) ?_
    walk_at "rd"
    refine⟨by show 1<=sizeLine;decide,?_⟩
    walk_at "rd"
    refine iQ (by simp only[A0,B4,k9];exact small (by omega)) ?_
    walk_at "rd"
    refine mD (by omega) ?_
    refine iQ (by simp only[p5,A0,y6,B4,k9];exact small (by omega)) ?_
    have e:D.tup ((as.map D.int).take (h:Int).toNat++[D.int (as.getD h 0 - 1)]++(as.map D.int).drop ((h:Int)+1).toNat)=row (less as h):=by
     rw[u4,show((h:Int)+1).toNat=h+1 by omega]
     unfold row less
     simp[map_take,map_drop]
    rw[e]
    walk_at "rd"
    refine fin _ _ _ F5 (by rw[gE (by omega),ha]) λ fd M7 F7 O3=>?_
    walk_at "rd"
    refine⟨_,?_,_,fd,_,_,rfl,by rw[gE (by omega),ha],sO jO hp,F7,rfl,O3⟩
    have s1:=BQ (as:=as) (h:=h) (by omega)
    have s2:=wB (sO jO hp)
    omega
  ·refine gQ (by simp[mi,eL]) ?_
   walk_at "rd"
   exact⟨by show 2<=sizeLine;decide,aA (k as p l _ ha uw eL hS hl jO F3)⟩
end
def hW(z0 z1:Str)(w:Nat):List bB:=[(z0,[[0,0]]),(z1,[[(w:Int),0]])]
theorem BO(z0 z1:Str){w:Nat}(hw:w<=1):fR 2 (hW z0 z1 w):=by
 refine⟨rfl,by decide,λ i hi=>?_⟩
 have:i=0\/i=1:=by omega
 rcases this with rfl|rfl
 ·refine⟨by show 1<=63;decide,λ r hr=>?_⟩
  rw[show r=[0,0]from q9.mp hr]
  exact⟨rfl,by simp,by decide,λ j _=>by rcases j with _|_|j <;> rfl⟩
 ·refine⟨by show 1<=63;decide,λ r hr=>?_⟩
  rw[show r=[(w:Int),0]from q9.mp hr]
  refine⟨rfl,by simp,by simp;omega,λ j hj=>?_⟩
  match j,hj with
  |1,_=>rfl
  |j+2,_=>rfl
def LU(w s0 s1:Nat)(r:Row):Prop:=∃a b:Nat,r=[(a:Int),(b:Int)]/\b<=s1/\a<=s0+(s1 - b)*w
def dS(w s0 s1:Nat):Nat->List Row
 |0=>[]
 |b+1=>dS w s0 s1 b++(List.range (s0+(s1 - b)*w+1)).map λ a:Nat=>[(a:Int),(b:Int)]
theorem iq{w s0 s1:Nat}:∀(k:Nat) (r:Row),r∈dS w s0 s1 k↔∃a b:Nat,r=[(a:Int),(b:Int)]/\b < k/\a<=s0+(s1 - b)*w
 |0,r=>Iff.intro (λ h=>by cases h) λ h=>by
  obtain⟨a,b,_,h,_⟩:=h
  exact absurd h (Nat.not_lt_zero _)
 |k+1,r=>by
  show r∈dS w s0 s1 k++_↔_
  rw[B5,iq k r,D4]
  constructor
  ·rintro(⟨a,b,h1,h2,h3⟩|⟨a,h1,rfl⟩)
   ·exact⟨a,b,h1,by omega,h3⟩
   ·exact⟨a,k,rfl,by omega,by have:=mem_range.mp h1;omega⟩
  ·rintro⟨a,b,h1,h2,h3⟩
   by_cases e:b < k
   ·exact .inl ⟨a,b,h1,e,h3⟩
   ·have:b=k:=by omega
    subst this
    exact .inr ⟨a,mem_range.mpr (by omega),h1.symm⟩
theorem HN{w s0 s1:Nat}:∀k:Nat,(dS w s0 s1 k).Nodup
 |0=>nodup_nil
 |k+1=>by
  refine nodup_append.mpr ⟨HN k,?_,λ a ha b hb e=>?_⟩
  ·refine pairwise_map.mpr (List.Pairwise.imp ?_ nodup_range)
   intro a b zH e
   have:(a:Int)=b:=(List.cons.inj e).1
   exact zH (by omega)
  ·subst e
   obtain⟨x,y,rfl,h2,_⟩:=(iq k a).mp ha
   obtain⟨z,_,e⟩:=D4.mp hb
   have:(k:Int)=y:=by simpa using(List.cons.inj (List.cons.inj e).2).1
   omega
theorem pW{w s0 s1 N:Nat}(h:∀b,s0+(s1 - b)*w+1<=N):∀k:Nat,(dS w s0 s1 k).length<=k*N
 |0=>E3 _
 |k+1=>by
  have h1:=pW h k
  have h2:=h k
  show(dS w s0 s1 k++_).length<=_
  rw[p5,B4,w6,Nat.succ_mul]
  omega
theorem pR(z0 z1:Str)(w a b:Nat):lL (hW z0 z1 w) 2 [(a:Int),(b:Int)]=(if 0 < (a:Int)then[[(a:Int) - 1,(b:Int)]]else[])++if 0 < (b:Int)then[[(a:Int)+w,(b:Int) - 1]]else[]:=by
 have e1:plus (less [(a:Int),(b:Int)] 0) [0,0]=[(a:Int) - 1,(b:Int)]:=by simp[plus,less]
 have e2:plus (less [(a:Int),(b:Int)] 1) [(w:Int),0]=[(a:Int)+w,(b:Int) - 1]:=by simp[plus,less]
 show([]++if 0 < (a:Int)then[plus (less [(a:Int),(b:Int)] 0) [0,0]]else[])++(if 0 < (b:Int)then[plus (less [(a:Int),(b:Int)] 1) [(w:Int),0]]else[])=_
 rw[e1,e2,A4]
theorem mG{z0 z1:Str}{w s0 s1:Nat}(hw:w<=1)(r:Row):ju (lL (hW z0 z1 w) 2) [(s0:Int),(s1:Int)] r↔LU w s0 s1 r:=by
 have hw:w=0\/w=1:=by omega
 constructor
 ·refine λ h=>h.closed ⟨s0,s1,rfl,E1 _,by omega⟩ ?_
  rintro _ c ⟨a,b,rfl,h1,h2⟩ hc
  rw[pR]at hc
  rcases B5.mp hc with q|q
  ·split at q
   ·rw[q9.mp q]
    exact⟨a - 1,b,by rw[show((a - 1:Nat):Int)=(a:Int) - 1 by omega],h1,by omega⟩
   ·cases q
  ·split at q
   ·rw[q9.mp q]
    refine⟨a+w,b - 1,by rw[show((b - 1:Nat):Int)=(b:Int) - 1 by omega,show((a+w:Nat):Int)=(a:Int)+w by omega],by omega,?_⟩
    rcases hw with rfl|rfl <;> simp at*<;> omega
   ·cases q
 ·rintro⟨a,b,rfl,h1,h2⟩
  have one:∀k:Nat,k<=s1->ju (lL (hW z0 z1 w) 2) [(s0:Int),(s1:Int)] [((s0+k*w:Nat):Int),((s1 - k:Nat):Int)]:=by
   intro k
   induction k with
   |zero=>intro _;simpa using ju.base
   |succ k ih=>
    intro hk
    refine .step (ih (by omega)) ?_
    rw[pR]
    refine k8 _ ?_
    rw[J4 (by omega),q9,show((s1 - (k+1):Nat):Int)=((s1 - k:Nat):Int) - 1 by omega,Nat.succ_mul]
    congr 1
    omega
  have two:∀k x:Nat,k<=x->ju (lL (hW z0 z1 w) 2) [(s0:Int),(s1:Int)] [(x:Int),(b:Int)]->ju (lL (hW z0 z1 w) 2) [(s0:Int),(s1:Int)] [((x - k:Nat):Int),(b:Int)]:=by
   intro k
   induction k with
   |zero=>intro x _ h;exact h
   |succ k ih=>
    intro x hk h
    refine .step (ih x (by omega) h) ?_
    rw[pR]
    refine m6 _ ?_
    rw[J4 (by omega),q9,show((x - (k+1):Nat):Int)=((x - k:Nat):Int) - 1 by omega]
  have h3:=one (s1 - b) (by omega)
  rw[show s1 - (s1 - b)=b by omega]at h3
  have h4:=two (s0+(s1 - b)*w - a) _ (by omega) h3
  rwa [show s0+(s1 - b)*w - (s0+(s1 - b)*w - a)=a by omega]at h4
theorem nX.congr {n:Nat}{U V:Row->Prop}{l:List Row}(h:nX n U l)(e:∀r,U r↔V r):nX n V l:=⟨λ r=>(h.mem r).trans (e r),h.nd,h.up,h.len⟩
def GR(w:Nat)(r:Row):D:=.tup [row r,.int (r.getD 0 0+(1+(w:Int))*r.getD 1 0)]
def Ac:eK:=λ ds M Q=>∃(a c:Addr),ds=[.ref a]/\Flow M a c/\∀(z0 z1:Str) (w s0 s1:Nat) (p:Addr) (l:List Row) (M':Mem),w<=1->(s0+s1*w+1)*(s1+1)<=5000->p≠a->M' p=some (.lst (l.map (GR w)))->nX 2 (LU w s0 s1) l->l.length<=5000->Fl a c M M'->Q (.tup [cb (hW z0 z1 w),row [(s0:Int),(s1:Int)],.ref p]) M'
theorem Fl.free {f c:Addr}{M M':Mem}(h:Fl f c M M'){p:Addr}(hp:M' p=none):M p=none:=by
 cases z:M p with
 |none=>rfl
 |some u=>rw[h.mv p u (h.aI.ne hp).1 z]at hp;cases hp
section
variable {P:Program}{w:World}{K:PySem.W.Frag}{mg:Str->Option Value}{base:Heap}
theorem b_:aK ["_law_flow_here","_law_way","_law_names_here","_law_game_here","_law_some","_law_found","_law_b"] ["_law_flow_here"] (ay (top 27)):=⟨rfl,rfl,rfl,by decide+kernel,rfl,by decide+kernel,by decide+kernel⟩
theorem FO{f:Addr}{fd:FuncData}(F:gb K "_law_long" "_law_long" (top 27) f fd)(T:jw K mg)(aw:bM P w K mg base 1 "_law_pick" ["_law_flow_here","_law_many"] eY)(dP:bM P w K mg base 3 "_law_names" ["_law_flow_here","_law_many"] lx)(ft:bM P w K mg base 1 "_law_key" ["_law_counts_here"] oy):bS P w K mg base fc 4 f fd ["_law_flow_here"] (cA K Ac):=by
 refine jy F b_ (λ ds M Q h=>?_) (λ cT A outer s H E ds M Q hr h=>?_)
 ·obtain⟨a,cc,rfl,_⟩:=h
  rfl
 ·obtain⟨a,cc,rfl,hF,k⟩:=h
  refine⟨_,(ag (aF (i:=1) b_.nd rfl (Or.inr rfl) (aE aw (hr.mono (by decide)) (by rfl) (aa (ar 0) (aa aj ae))))
 (ag (aF (i:=2) b_.nd rfl (Or.inl rfl) (aE dP (hr.mono (by decide)) (by rfl) (aa (ar 0) (aa aj ae))))
 (ag (aF (i:=3) b_.nd rfl (Or.inl rfl) (bZ (aa (bZ (aa (bE bo (ar 2) aj (λ _ _=>rfl)) (aa (bZ (aa (bZ (aa aj (aa aj ae))) ae)) ae))) (aa (bZ (aa (bE bo (ar 2) aj (λ _ _=>rfl)) (aa (bZ (aa (bE bo (bT (aa (bZ (aa aj (aa aj ae))) (aa (bZ (aa aj (aa aj ae))) ae))) (ar 1) (λ _ _=>rfl)) ae)) ae))) ae))))
 (ag (aF (i:=4) b_.nd rfl (Or.inl rfl) (bT (aa (aE aw (hr.mono (by decide)) (by rfl) (aa (ar 0) (aa aj ae))) (aa (aE aw (hr.mono (by decide)) (by rfl) (aa (ar 0) (aa (aY oB aj (aY eC aj (ar 1))) ae))) ae))))
 (ag (cp (aS (eO hr.units) (aE aw (hr.mono (by decide)) (by rfl) (aa (ar 0) (aa aj ae))) aj (aR _))
 (aq (aF (i:=4) b_.nd rfl (Or.inl rfl) (bT (aa (bE bo (bT (aa aj (aa (aE aw (hr.mono (by decide)) (by rfl) (aa (ar 0) (aa aj ae))) ae))) (aE aw (hr.mono (by decide)) (by rfl) (aa (ar 0) (aa aj ae))) (λ _ _=>rfl)) (aa aj ae)))))
 bp)
 (ag (aF (i:=5) b_.nd rfl (Or.inl rfl) (bT ae))
 (ag (dQ B0 rfl (bf rfl T.range (aa (aY aQ (bE bo (ar 4) aj (λ _ _=>rfl)) aj) ae)) (bg (i:=6) b_.nd rfl (Or.inr rfl))
 (aq (cw (iI j0 PySem.F.slot_list_extend PySem.F.type_list_extend mP (ar 5) (aa (eX (tgs:=["_law_a"]) (fr:=[6]) ⟨bA (by kernel_rfl),rfl,(λ _ _ h=>h),(bf rfl T.range (aa (aY aQ (aY aQ (bE bo (ar 4) aj (λ _ _=>rfl)) (aY eC (aY oB (bE bo (ar 4) aj (λ _ _=>rfl)) (ar 6)) (ar 1))) aj) ae)),(aX (λ _ _ _ _ _=>(aH (i:=0) (show(["_law_a","_law_b"]:List Str).Nodup by decide+kernel) rfl (Or.inl rfl))) (by decide)),(λ _ _ _ _ _=>bq),(λ _ _ _ _ _=>(bZ (aa (ar 0) (aa (ar 1) ae))))⟩) ae)))))
 (aq (aJ (bZ (aa (ar 3) (aa (eN dX (by rfl) T.tuple (by decide+kernel) (aa (ar 4) ae)) (aa (eX (tgs:=["_law_one"]) (fr:=[1]) ⟨bA (by kernel_rfl),rfl,(λ _ _ h=>h),(cO (jB ft (hr.mono (by decide)) (by rfl) T.sorted (by rfl) (ar 5))),(aX (λ _ _ _ _ _=>(aH (i:=0) (show(["_law_one","_law_way"]:List Str).Nodup by decide+kernel) rfl (Or.inl rfl))) (by decide)),(λ _ _ _ _ _=>bq),(λ _ _ _ _ _=>(bZ (aa (ar 0) (aa (aY aQ (bE bo (ar 0) aj (λ _ _=>rfl)) (aY eC (aY aQ aj (ar 1)) (bE bo (ar 0) aj (λ _ _=>rfl)))) ae))))⟩) ae))))))))))))),?_⟩
  walk_at "rd"
  refine⟨a,cc,2,rfl,hF,by decide,by decide,λ d1 o1 Rl Rk uB=>?_⟩
  have F1:Fl a cc M _:=Fl.pick uB
  generalize ak M a o1=M1 at*
  obtain⟨w,rfl⟩:∃w:Nat,d1=(w:Int):=⟨d1.toNat,by omega⟩
  have hw:w<=1:=by omega
  walk_at "rd"
  refine⟨a,cc,2,rfl,F1.aI,by decide,λ p zs M2 hz hp eL F2=>?_⟩
  have F3:=F1.trans F2
  have uw:=(F1.aI.ne hp).1
  obtain⟨z0,z1,rfl⟩:∃z0 z1,zs=[z0,z1]:=by
   match zs,hz with
   |[z0,z1],_=>exact⟨z0,z1,rfl⟩
  walk_at "rx"
  intro q hq
  have F4:=F3.trans (Fl.put (o:=.lst [D.tup [D.int 0,D.int 0],D.tup [D.int 1,D.int 0]]) F3.aI hq)
  have gq:ak M2 q (.lst [D.tup [D.int 0,D.int 0],D.tup [D.int 1,D.int 0]]) q=some (.lst [D.tup [D.int 0,D.int 0],D.tup [D.int 1,D.int 0]]):=af
  generalize ak M2 q (.lst [D.tup [D.int 0,D.int 0],D.tup [D.int 1,D.int 0]])=M3 at*
  walk_at "rx"
  refine bW gq (d:=.tup [.int w,.int 0]) (cz (by rcases(show w=0\/w=1 by omega)with rfl|rfl <;> rfl)) ?_
  walk_at "rx"
  refine⟨a,cc,41,rfl,F4.aI,by decide,by decide,λ d2 o2 Mb MT CG=>?_⟩
  have F5:=F4.trans (Fl.pick CG)
  generalize ak M3 a o2=M4 at*
  obtain⟨s0,rfl⟩:∃w:Nat,d2=(w:Int):=⟨d2.toNat,by omega⟩
  walk_at "rx"
  refine dO (nu (by decide) (by decide)) ?_
  walk_at "rx"
  refine⟨a,cc,41 - 11*(w:Int),rfl,F5.aI,by omega,by omega,λ d3 o3 W5 W4 zf=>?_⟩
  have F6:=F5.trans (Fl.pick zf)
  generalize ak M4 a o3=M5 at*
  obtain⟨s1,rfl⟩:∃w:Nat,d3=(w:Int):=⟨d3.toNat,by omega⟩
  walk_at "rx"
  intro sp zF
  have Lx:=(F6.aI.ne zF).1
  have F7:=F6.trans (Fl.put (o:=.lst [.int s0,.int s1]) F6.aI zF)
  have gs:ak M5 sp (.lst [.int s0,.int s1]) sp=some (.lst [.int s0,.int s1]):=af
  generalize ak M5 sp (.lst [.int s0,.int s1])=M6 at*
  refine pI ?_
  dsimp only
  with_reducible refine gy (λ δ' M'=>∃(sp:Addr) (s0 s1:Nat),δ'=[some (.ref a),some (.int w),some (.ref p),some (cb (hW z0 z1 w)),some (.ref sp),none,none]/\M' sp=some (.lst [.int s0,.int s1])/\sp≠a/\(s0+s1*w+1)*(s1+1)<=5000/\s0<=2000/\s1<=40/\Fl a cc M M') (λ N hN=>?_) ?_
  ·walk_at "rx"
   refine⟨a,cc,2,rfl,F7.aI,by decide,by decide,λ d4 o4 X6 X5 TF=>?_⟩
   have F8:=F7.trans (Fl.pick TF)
   have gs:ak M6 a o4 sp=some (.lst [.int s0,.int s1]):=by rw[ah Lx];exact gs
   generalize ak M6 a o4=M7 at*
   walk_at "rx"
   refine bh (λ e=>?_) (λ e=>?_)
   ·walk_at "rx"
    refine⟨a,cc,2000,rfl,F8.aI,by decide,by decide,λ d5 o5 X4 X3 td=>?_⟩
    have F9:=F8.trans (Fl.pick td)
    generalize ak M7 a o5=M8 at*
    obtain⟨t,rfl⟩:∃w:Nat,d5=(w:Int):=⟨d5.toNat,by omega⟩
    walk_at "rx"
    intro r hr
    have VL:=(F9.aI.ne hr).1
    have MX:=F9.trans (Fl.put (o:=.lst [.int 1999,.int t]) F9.aI hr)
    have gr:ak M8 r (.lst [.int 1999,.int t]) r=some (.lst [.int 1999,.int t]):=af
    generalize ak M8 r (.lst [.int 1999,.int t])=M9 at*
    walk_at "rx"
    refine⟨a,cc,2,rfl,MX.aI,by decide,by decide,λ d6 o6 X2 X1 LK=>?_⟩
    have Uc:=MX.trans (Fl.pick LK)
    have gr:ak M9 a o6 r=some (.lst [.int 1999,.int t]):=by rw[ah VL];exact gr
    generalize ak M9 a o6=U4 at*
    obtain⟨y,rfl⟩:∃w:Nat,d6=(w:Int):=⟨d6.toNat,by omega⟩
    obtain⟨v,hv,XG⟩:∃v:Nat,gY [D.int 1999,.int t] (y:Int)=some (.int v)/\v<=1999:=by
     rcases(show y=0\/y=1 by omega)with rfl|rfl
     ·exact⟨1999,rfl,by decide⟩
     ·exact⟨t,rfl,by omega⟩
    refine bW gr hv ?_
    walk_at "rx"
    intro x hx
    walk_at "rx"
    refine hN _ _ ⟨x,v,0,rfl,af,(Uc.aI.ne hx).1,by omega,by omega,by omega,Uc.trans (Fl.put Uc.aI hx)⟩
   ·walk_at "rx"
    refine hN _ _ ⟨sp,s0,s1,rfl,gs,Lx,?_,by omega,by omega,F8⟩
    rcases(show w=0\/w=1 by omega)with rfl|rfl
    ·exact D9 (Nat.mul_le_mul (show _<=41 by omega) (show _<=41 by omega)) (by decide)
    ·exact D9 (Nat.mul_le_mul (show _<=82 by omega) (show _<=41 by omega)) (by decide)
  ·rintro δ' M7 ⟨sp,s0,s1,rfl,gs,Lx,hN,h0,h1,F7⟩
   walk_at "rx"
   intro u hu
   have XH:=(F7.aI.ne hu).1
   have VE:=F7.free hu
   have MF:=aZ gs hu
   have F8:=F7.trans (Fl.put (o:=.lst []) F7.aI hu)
   have gs:ak M7 u (.lst []) sp=some (.lst [.int s0,.int s1]):=by rw[ah MF];exact gs
   have gu:ak M7 u (.lst []) u=some (.lst []):=af
   generalize ak M7 u (.lst [])=M8 at*
   walk_at "rx"
   refine⟨cv (by omega) (by omega),?_⟩
   rw[show((s1:Int)+1).toNat=s1+1 by omega]
   have oR:∀b,s0+(s1 - b)*w+1<=s0+s1*w+1:=λ b=>by
    have:=Nat.mul_le_mul_right w (Nat.sub_le s1 b)
    omega
   refine fP (λ i δ M'=>∃(v6:Option D),δ=[some (.ref a),some (.int w),some (.ref p),some (cb (hW z0 z1 w)),some (.ref sp),some (.ref u),v6]/\M' sp=some (.lst [.int s0,.int s1])/\M' u=some (.lst ((dS w s0 s1 i).map row))/\Fl a cc M M') ⟨_,rfl,gs,gu,F8⟩ (λ i d δ M' hd h=>?_) (λ δ M' h=>?_)
   ·obtain⟨v6,rfl,gs,gu,F9⟩:=h
    obtain⟨hi,rfl⟩:=cu hd
    walk_at "rx"
    refine⟨⟨rfl,_,gu⟩,?_⟩
    walk_at "rx"
    refine dO (v_ (by omega) (by omega)) ?_
    walk_at "rx"
    have e:(s0:Int)+((s1:Int) - (0+(i:Int)))*w+1=((s0+(s1 - i)*w+1:Nat):Int):=by
     rw[C9]
     push_cast [show i<=s1 by omega]
     rfl
    rw[e]
    have hb:=oR i
    have hm:(s0+s1*w+1)<=5000:=D9 (Nat.le_mul_of_pos_right _ (by omega)) hN
    refine⟨cv (by omega) (by omega),?_⟩
    rw[u4]
    refine eT (xs:=List.range (s0+(s1 - i)*w+1)) (enc:=HB) (λ x=>row [(x:Int),(i:Int)]) (by simp;omega) (λ j x N hx hN=>?_) ?_
    ·have hi:=(i5.mp hx).1
     have Lw:x=j:=by rw[n0 (by simpa using hi)]at hx;exact(A9 hx).symm
     subst Lw
     walk_at "rx"
     rw[Aw,C9]at*
     exact hN
    ·intro q hq
     have HU:=aZ gu hq
     have VF:=aZ gs hq
     have hl:=pW oR (w:=w) (s0:=s0) (s1:=s1) i
     have zb:i*(s0+s1*w+1)<=5000:=D9 (Nat.mul_le_mul_right _ (show i<=s1+1 by omega)) (by rw[Nat.mul_comm];exact hN)
     walk_at "rx"
     refine uY (by rw[ah HU];exact gu) af (by rw[B4,B4,w6];exact D9 (show _<=10000 by omega) (by decide)) ?_
     walk_at "rx"
     refine⟨_,rfl,?_,?_,?_⟩
     ·rw[ah MF,ah VF];exact gs
     ·rw[af]
      show _=some (MO.lst ((dS w s0 s1 i++_).map row))
      rw[B6,D8]
      rfl
     ·exact Fl.own (F9.trans (Fl.put F9.aI hq)) hF VE
   ·obtain⟨v6,rfl,gs,gu,F9⟩:=h
    rw[aV]at gu
    have hl:=pW oR (w:=w) (s0:=s0) (s1:=s1) (s1+1)
    have zb:(s1+1)*(s0+s1*w+1)<=5000:=by rw[Nat.mul_comm];exact hN
    walk_at "rx"
    refine jF gs ?_
    walk_at "rx"
    refine rM (rs:=dS w s0 s1 (s1+1)) gu (by omega) (λ r hr=>?_) λ q out hq o1 o2=>?_
    ·obtain⟨x,y,rfl,_⟩:=(iq _ _).mp hr
     show 2<=1000
     decide
    ·have MX:=F9.trans (Fl.put (o:=.lst (out.map row)) F9.aI hq)
     have gq:ak M' q (.lst (out.map row)) q=some (.lst (out.map row)):=af
     generalize ak M' q (.lst (out.map row))=M9 at*
     have OX:out.length<=5000:=by rw[o1.length_eq];omega
     walk_at "rx"
     refine gX row (GR w) (by omega) gq (λ j x N hx hN=>?_) ?_
     ·obtain⟨b,c,rfl,_⟩:=(iq _ _).mp (o1.mem_iff.mp (m5 hx))
      walk_at "rx"
      refine dO (nu (by omega) (by omega)) ?_
      walk_at "rx"
      exact hN
     ·intro v hv
      walk_at "rx"
      refine aA (k z0 z1 w s0 s1 v out _ hw hN (MX.aI.ne hv).1 af (nX.of (λ r=>?_) (HN _) (λ r hr=>?_) o1 o2) OX (MX.trans (Fl.put MX.aI hv)))
      ·rw[iq]
       exact⟨λ⟨a,b,h1,h2,h3⟩=>⟨a,b,h1,by omega,h3⟩,λ⟨a,b,h1,h2,h3⟩=>⟨a,b,h1,by omega,h3⟩⟩
      ·obtain⟨b,c,rfl,_⟩:=(iq _ _).mp hr
       rfl
end
def wG:eK:=λ ds M Q=>∃(a c:Addr),ds=[.ref a]/\Flow M a c/\∀(n:Nat) (g:List bB) (M':Mem),fR n g->Fl a c M M'->Q (cb g) M'
section
variable {P:Program}{w:World}{K:PySem.W.Frag}{mg:Str->Option Value}{base:Heap}
theorem pz:aK ["_law_flow_here"] ["_law_flow_here"] (ay (top 28)):=⟨rfl,rfl,rfl,by decide+kernel,rfl,by decide+kernel,by decide+kernel⟩
theorem Bv{f:Addr}{fd:FuncData}(F:gb K "_law_drawn" "_law_drawn" (top 28) f fd)(T:jw K mg)(aw:bM P w K mg base 1 "_law_pick" ["_law_flow_here","_law_many"] eY)(zk:bM P w K mg base 5 "_law_nim" ["_law_flow_here","_law_most"] Hu)(nk:bM P w K mg base 6 "_law_game" ["_law_flow_here","_law_most","_law_deep"] Af):bS P w K mg base fc 7 f fd ["_law_flow_here"] (cA K wG):=by
 refine jy F pz (λ ds M Q h=>?_) (λ cT A outer s H E ds M Q hr h=>?_)
 ·obtain⟨a,cc,rfl,_⟩:=h
  rfl
 ·obtain⟨a,cc,rfl,hF,k⟩:=h
  refine⟨_,(ag (cp (aS (eO hr.units) (aE aw (hr.mono (by decide)) (by rfl) (aa (ar 0) (aa aj ae))) aj (aR _))
 (aq (aJ (bE bo (aE zk (hr.mono (by decide)) (by rfl) (aa (ar 0) (aa aj ae))) aj (λ _ _=>rfl))))
 bp)
 (ag (cp (aS (eO hr.units) (aE aw (hr.mono (by decide)) (by rfl) (aa (ar 0) (aa aj ae))) aj (aR _))
 (aq (aJ (aE nk (hr.mono (by decide)) (by rfl) (aa (ar 0) (aa aj (aa aj ae))))))
 bp)
 (aq (aJ (aE nk (hr.mono (by decide)) (by rfl) (aa (ar 0) (aa aj (aa aj ae)))))))),?_⟩
  walk_at "rd"
  refine⟨a,cc,4,rfl,hF,by decide,by decide,λ d1 o1 _ _ uB=>?_⟩
  have F1:Fl a cc M _:=Fl.pick uB
  generalize ak M a o1=M1 at*
  walk_at "rd"
  refine bh (λ _=>?_) (λ _=>?_)
  ·walk_at "rd"
   refine⟨a,cc,5,rfl,F1.aI,by decide,by decide,λ n g s M2 hn G F2=>?_⟩
   walk_at "rd"
   exact aA (k n g _ G (F1.trans F2))
  ·walk_at "rd"
   refine⟨a,cc,6,rfl,F1.aI,by decide,by decide,λ d2 o2 _ _ CG=>?_⟩
   have F2:=F1.trans (Fl.pick CG)
   generalize ak M1 a o2=M2 at*
   walk_at "rd"
   refine bh (λ _=>?_) (λ _=>?_)
   ·walk_at "rd"
    refine⟨a,cc,12,3,rfl,F2.aI,by decide,by decide,λ n g M3 hn G F3=>?_⟩
    walk_at "rd"
    exact aA (k n g _ G (F2.trans F3))
   ·walk_at "rd"
    refine⟨a,cc,4,5,rfl,F2.aI,by decide,by decide,λ n g M3 hn G F3=>?_⟩
    walk_at "rd"
    exact aA (k n g _ G (F2.trans F3))
end
def Hv:eK:=λ ds M Q=>∃(a c:Addr),ds=[.ref a]/\Flow M a c/\∀(M':Mem),Fl a c M M'->Q (.bl true) M'
section
variable {P:Program}{w:World}{K:PySem.W.Frag}{mg:Str->Option Value}{base:Heap}
theorem cx:aK ["_law_flow_here","_law_game_here","_law_counts_here","_law_due"] ["_law_flow_here"] (ay (top 29)):=⟨rfl,rfl,rfl,by decide+kernel,rfl,by decide+kernel,by decide+kernel⟩
theorem KP{f:Addr}{fd:FuncData}(F:gb K "_law_long_right" "_law_long_right" (top 29) f fd)(T:jw K mg)(vW:bM P w K mg base 4 "_law_long" ["_law_flow_here"] Ac)(ef:bM P w K mg base 5 "reached" ["game","counts"] wF)(cf:bM P w K mg base 4 "_law_alike" ["_law_found","_law_due"] (rC 3)):bS P w K mg base fc 6 f fd ["_law_flow_here"] (cA K Hv):=by
 refine jy F cx (λ ds M Q h=>?_) (λ cT A outer s H E ds M Q hr h=>?_)
 ·obtain⟨a,cc,rfl,_⟩:=h
  rfl
 ·obtain⟨a,cc,rfl,hF,k⟩:=h
  refine⟨_,(ag (dy (aE vW (hr.mono (by decide)) (by rfl) (aa (ar 0) ae)) (ic (n:=3) rfl (bK (bg (i:=1) cx.nd rfl (Or.inl rfl)) (bK (bg (i:=2) cx.nd rfl (Or.inl rfl)) (bK (bg (i:=3) cx.nd rfl (Or.inl rfl)) fG)))))
 (aq (aJ (aE cf (hr.mono (by decide)) (by rfl) (aa (aE ef (hr.mono (by decide)) (by rfl) (aa (ar 1) (aa (ar 2) ae))) (aa (eX (tgs:=["_law_one","_law_left"]) (fr:=[]) ⟨bA (by kernel_rfl),rfl,(λ _ _ h=>h),(cO (ar 3)),(ff (λ _ _ _ _ _=>(il rfl (bX (aH (i:=0) (show(["_law_one","_law_left"]:List Str).Nodup by decide+kernel) rfl (Or.inl rfl)) (bX (aH (i:=1) (show(["_law_one","_law_left"]:List Str).Nodup by decide+kernel) rfl (Or.inl rfl)) fM)))) (by decide) (by decide)),(λ _ _ _ _ _=>bq),(λ _ _ _ _ _=>(ar 0))⟩) ae)))))),?_⟩
  walk_at "rd"
  refine⟨a,cc,rfl,hF,λ z0 z1 w s0 s1 p l M1 hw hN uw eL hS hl F1=>?_⟩
  walk_at "rd"
  have hU:∀r,r∈dS w s0 s1 (s1+1)↔LU w s0 s1 r:=λ r=>by
   rw[iq]
   exact⟨λ⟨a,b,h1,h2,h3⟩=>⟨a,b,h1,by omega,h3⟩,λ⟨a,b,h1,h2,h3⟩=>⟨a,b,h1,by omega,h3⟩⟩
  have Rc:(dS w s0 s1 (s1+1)).length<=5000:=by
   refine D9 (pW (N:=s0+s1*w+1) (λ b=>?_) _) (by rw[Nat.mul_comm];exact hN)
   have:=Nat.mul_le_mul_right w (Nat.sub_le s1 b)
   omega
  refine⟨2,hW z0 z1 w,[(s0:Int),(s1:Int)],dS w s0 s1 (s1+1),rfl,BO z0 z1 hw,rfl,Rc,(hU _).mpr ⟨s0,s1,rfl,E1 _,by omega⟩,λ b hb=>?_,λ b hb c hc=>?_,λ q l2 M2 hq lR hE Rf=>?_⟩
  ·obtain⟨a,b,rfl,_⟩:=(hU _).mp hb
   rfl
  ·exact(hU c).mpr ((mG hw c).mp (.step ((mG (z0:=z0) (z1:=z1) hw b).mpr ((hU b).mp hb)) hc))
  ·have e:l2=l:=(Rf.congr λ r=>mG hw r).eq hS
   subst e
   have eL:=hE _ _ eL
   have F2:=F1.trans (hE.fl F1.aI)
   walk_at "rd"
   refine gX (GR w) row (by omega) eL (λ i x N hx hN=>?_) ?_
   ·unfold GR
    walk_at "rd"
    exact hN
   ·intro t ht
    have F3:=F2.trans (Fl.put (o:=.lst (l2.map row)) F2.aI ht)
    have VM:=aZ lR ht
    walk_at "rd"
    refine⟨_,_,rfl,rH (by rw[ah VM];exact lR) af (by rw[B4];omega) λ d hd=>?_,?_⟩
    ·obtain⟨r,hr,rfl⟩:=D4.mp hd
     exact rG _ 0 (by rw[hS.len r hr];decide)
    ·walk_at "rd"
     exact aA (k _ F3)
end
theorem He{n:Nat}{g:List bB}(G:fR n g):fR n (g.map λ h=>(h.1,[])):=by
 refine⟨by rw[B4];exact G.len,G.oR,λ i hi=>?_⟩
 have e:((g.map λ h:bB=>((h.1,[]):bB)).getD i ir).2=[]:=by
  rw[e9,r9]
  cases g[i]? <;> rfl
 rw[e]
 exact⟨E3 _,λ r h=>by cases h⟩
theorem qE(g:List bB)(as:Row):∀i,qP (g.map λ h=>(h.1,[])) as i=[]
 |0=>rfl
 |i+1=>by
  show qP _ as i++_=[]
  rw[qE g as i]
  have e:((g.map λ h:bB=>((h.1,[]):bB)).getD i ir).2=[]:=by
   rw[e9,r9]
   cases g[i]? <;> rfl
  rw[e]
  split <;> rfl
section
variable {P:Program}{w:World}{K:PySem.W.Frag}{mg:Str->Option Value}{base:Heap}
theorem fK:aK ["_law_script","_law_flow_here","_law_game_here","_law_found","_law_bare","_law_one","_law_due","_law_other","_law_then"] ["_law_script"] (ay (top 30)):=⟨rfl,rfl,rfl,by decide+kernel,rfl,by decide+kernel,by decide+kernel⟩
theorem KQ{f:Addr}{fd:FuncData}(F:gb K "law" "law" (top 30) f fd)(T:jw K mg)(vX:bM P w K mg base 1 "_law_flow" ["_law_script"] Ag)(aw:bM P w K mg base 1 "_law_pick" ["_law_flow_here","_law_many"] eY)(jT:bM P w K mg base 6 "_law_long_right" ["_law_flow_here"] Hv)(tO:bM P w K mg base 7 "_law_drawn" ["_law_flow_here"] wG)(gM:bM P w K mg base 6 "_law_walkable" ["_law_flow_here","_law_game_here","_law_many","_law_most"] Ht)(ef:bM P w K mg base 5 "reached" ["game","counts"] wF)(cf:bM P w K mg base 4 "_law_alike" ["_law_found","_law_due"] (rC 3)):bS P w K mg base fc 8 f fd ["_law_script"] (cA K rB):=by
 refine jy F fK (λ ds M Q h=>?_) (λ cT A outer s H E ds M Q hr h=>?_)
 ·obtain⟨a,rfl,_⟩:=h
  rfl
 ·obtain⟨ns,rfl,k⟩:=h
  refine⟨_,(ag (aF (i:=1) fK.nd rfl (Or.inl rfl) (aE vX (hr.mono (by decide)) (by rfl) (aa (ar 0) ae)))
 (ag (cp (lZ (aS (eO hr.units) (aE aw (hr.mono (by decide)) (by rfl) (aa (ar 1) (aa aj ae))) aj (aR _)) (iF (uI (h_ (aE jT (hr.mono (by decide)) (by rfl) (aa (ar 1) ae)))))).pt
 (aq (aJ rg))
 bp)
 (ag (aF (i:=2) fK.nd rfl (Or.inl rfl) (aE tO (hr.mono (by decide)) (by rfl) (aa (ar 1) ae)))
 (ag (dy (aE gM (hr.mono (by decide)) (by rfl) (aa (ar 1) (aa (ar 2) (aa aj (aa aj ae))))) (ic (n:=2) rfl (bK (bg (i:=5) fK.nd rfl (Or.inl rfl)) (bK (bg (i:=6) fK.nd rfl (Or.inl rfl)) fG))))
 (ag (aF (i:=3) fK.nd rfl (Or.inl rfl) (aE ef (hr.mono (by decide)) (by rfl) (aa (ar 2) (aa (ar 5) ae))))
 (ag (cp (uI (h_ (aE cf (hr.mono (by decide)) (by rfl) (aa (ar 3) (aa (ar 6) ae)))))
 (aq (aJ rg))
 bp)
 (ag (cw (zS j0 PySem.F.slot_list_clear PySem.F.type_list_clear Gb (ar 3)))
 (ag (cw (iI j0 i7 i9 cM (ar 3) (aa rf ae)))
 (ag (dy (aE gM (hr.mono (by decide)) (by rfl) (aa (ar 1) (aa (ar 2) (aa aj (aa aj ae))))) (ic (n:=2) rfl (bK (bg (i:=7) fK.nd rfl (Or.inl rfl)) (bK (bg (i:=8) fK.nd rfl (Or.inl rfl)) fG))))
 (ag (cp (uI (h_ (aE cf (hr.mono (by decide)) (by rfl) (aa (aE ef (hr.mono (by decide)) (by rfl) (aa (ar 2) (aa (ar 7) ae))) (aa (ar 8) ae)))))
 (aq (aJ rg))
 bp)
 (ag (aF (i:=4) fK.nd rfl (Or.inl rfl) (jA dX dY (by rfl) T.tuple (by decide+kernel) (tgs:=["_law_name_here","_law_options_here"]) (fr:=[]) ⟨bA (by kernel_rfl),rfl,(λ _ _ h=>h),(cO (ar 2)),(ff (λ _ _ _ _ _=>(il rfl (bX (aH (i:=0) (show(["_law_name_here","_law_options_here"]:List Str).Nodup by decide+kernel) rfl (Or.inl rfl)) (bX (aH (i:=1) (show(["_law_name_here","_law_options_here"]:List Str).Nodup by decide+kernel) rfl (Or.inl rfl)) fM)))) (by decide) (by decide)),(λ _ _ _ _ _=>bq),(λ _ _ _ _ _=>(bZ (aa (ar 0) (aa (bZ ae) ae))))⟩))
 (aq (aJ (w_and (aE cf (hr.mono (by decide)) (by rfl) (aa (aE ef (hr.mono (by decide)) (by rfl) (aa (ar 4) (aa (ar 5) ae))) (aa (bT (aa (ar 5) ae)) ae))) (q_ (aE cf (hr.mono (by decide)) (by rfl) (aa (aE ef (hr.mono (by decide)) (by rfl) (aa (ar 2) (aa (ar 5) ae))) (aa (ar 6) ae)))))))))))))))))),?_⟩
  walk_at "rd"
  refine⟨ns,rfl,λ a cc M0 Wj=>?_⟩
  walk_at "rd1"
  with_reducible refine gy (λ δ' M'=>∃(v0:Option D),δ'=[v0,some (.ref a),none,none,none,none,none,none,none]/\Flow M' a cc) (λ N hN=>?_) ?_
  ·walk_at "rd"
   refine⟨a,cc,8,rfl,Wj,by decide,by decide,λ d1 o1 Rl Rk uB=>?_⟩
   generalize ak M0 a o1=M1 at*
   walk_at "rx"
   refine bh (λ e=>?_) (λ e=>?_)
   ·walk_at "rx"
    refine⟨a,cc,rfl,uB,λ M2 F2=>?_⟩
    walk_at "rx"
    exact hN _ _ ⟨_,rfl,F2.aI⟩
   ·walk_at "rx"
    exact hN _ _ ⟨_,rfl,uB⟩
  ·rintro δ' M1 ⟨v0,rfl,hF⟩
   walk_at "rx"
   refine⟨a,cc,rfl,hF,λ n g M2 G F2=>?_⟩
   have hfew:=G.oR
   have same:∀{as:Row} {l m:List Row},nX n (ju (lL g n) as) l->nX n (ju (lL g n) as) m->l=m:=λ h g=>h.eq g
   have RY:∀(M1:Mem) (as:Row) (l:List Row) (N:bD),as.length=n->nX n (ju (lL g n) as) l->l.length<=400->(∀(p:Addr) (M':Mem),M1 p=none->M' p=some (.lst (l.map row))->Ext M1 M'->N (.ref p) M')->wF [cb g,row as] M1 N:=λ M1 as l N ha hS hl hN=>
    ⟨n,g,as,l,rfl,G,ha,by omega,(hS.mem as).mpr .base,hS.len,λ b hb c hc=>(hS.mem c).mpr (.step ((hS.mem b).mp hb) hc),λ p l2 M' h1 h2 h3 h4=>by
     have e:=h4.eq hS
     subst e
     exact hN p M' h1 h2 h3⟩
   have Rm:∀(M1:Mem) (p q:Addr) (l:List Row) (N:bD),M1 p=some (.lst (l.map row))->M1 q=some (.lst (l.map row))->(∀r∈l,r.length=n)->l.length<=400->N (.bl true) M1->rC 3 [.ref p,.ref q] M1 N:=λ M1 p q l N h1 h2 h3 h4 hN=>
    ⟨_,_,rfl,rH h1 h2 (by rw[B4];omega) λ d hd=>by
     obtain⟨r,hr,rfl⟩:=D4.mp hd
     exact rG _ 0 (by rw[h3 r hr];omega),hN⟩
   walk_at "rx"
   refine⟨a,cc,n,g,4,400,rfl,F2.aI,G,by decide,by decide,by decide,λ as p l M3 ha uw eL hS hl _ F3=>?_⟩
   walk_at "rx"
   refine RY _ _ _ _ ha hS hl λ q M4 hq lR UR=>?_
   have oM:=aZ eL hq
   have eL:=UR _ _ eL
   have Gy:=(F3.aI.ne hq).1
   have VN:=(F3.aI.ne hq).2
   have F4:=F3.trans (UR.fl F3.aI)
   walk_at "rx"
   refine Rm _ _ _ _ _ lR eL hS.len hl ?_
   walk_at "rx"
   refine⟨⟨rfl,_,lR⟩,?_⟩
   refine AQ lR ?_
   have eL:ak M4 q (.lst []) p=some (.lst (l.map row)):=by rw[ah oM];exact eL
   walk_at "rx"
   refine⟨⟨rfl,_,af⟩,?_⟩
   walk_at "rx"
   refine eB af (by show 0 < sizeLine;decide) ?_
   have eL:ak (ak M4 q (.lst [])) q (.lst ([]++[D.bj])) p=some (.lst (l.map row)):=by rw[ah oM];exact eL
   have td:Flow (ak (ak M4 q (.lst [])) q (.lst ([]++[D.bj]))) a cc:=by
    obtain⟨ns,pp,b,sd,ct,e1,e2,e3⟩:=F4.aI
    exact⟨ns,pp,b,sd,ct,by rw[cF,ah (J3 Gy)];exact e1,by rw[cF,ah (J3 VN)];exact e2,e3⟩
   generalize ak (ak M4 q (.lst [])) q (.lst ([]++[D.bj]))=M5 at*
   walk_at "rx"
   refine⟨a,cc,n,g,3,400,rfl,td,G,by decide,by decide,by decide,λ Xy p2 l2 M6 Wd VP Tz Rf zb _ F6=>?_⟩
   have eL:=F6.mv _ _ uw eL
   walk_at "rx"
   refine RY _ _ _ _ Wd Rf zb λ q2 M7 DB Tx UQ=>?_
   walk_at "rx"
   refine Rm _ _ _ _ _ Tx (UQ _ _ Tz) Rf.len zb ?_
   have eL:=UQ _ _ eL
   walk_at "rx"
   refine eT (xs:=g) (enc:=gJ) (λ h=>.tup [.str h.1,.tup []]) (by rw[G.len];omega) (λ i x N hx hN=>?_) ?_
   ·unfold gJ
    walk_at "rx"
    exact hN
   ·have eb:D.tup (g.map λ h=>D.tup [.str h.1,.tup []])=cb (g.map λ h=>(h.1,[])):=by
     unfold cb
     rw[D8]
     rfl
    rw[eb]
    walk_at "rx"
    have hB:nX n (ju (lL (g.map λ h=>(h.1,[])) n) as) [as]:=by
     refine⟨λ r=>?_,by simp,by simp,λ r hr=>by rw[q9.mp hr];exact ha⟩
     rw[q9]
     refine⟨λ e=>by rw[e];exact .base,λ h=>h.closed (U:=λ r=>r=as) rfl λ b c e hc=>?_⟩
     unfold lL at hc
     rw[qE]at hc
     cases hc
    refine⟨n,g.map λ h=>(h.1,[]),as,[as],rfl,He G,ha,by show 1<=5000;decide,by simp,λ b hb=>by rw[q9.mp hb];exact ha,λ b _ c hc=>(by unfold lL at hc;rw[qE]at hc;cases hc),λ p3 l3 M8 HV GJ Wm Wf=>?_⟩
    have e3:=Wf.eq hB
    subst e3
    have eL:=Wm _ _ eL
    walk_at "rx"
    intro t ht
    walk_at "rx"
    refine Rm _ _ _ [as] _ (by rw[ah (aZ GJ ht)];exact GJ) af hB.len (by show 1<=400;decide) ?_
    have eL:ak M8 t (.lst [row as]) p=some (.lst (l.map row)):=by rw[ah (aZ eL ht)];exact eL
    walk_at "rx"
    refine RY _ _ _ _ ha hS hl λ q4 M9 XO Tw Wl=>?_
    walk_at "rx"
    refine Rm _ _ _ _ _ Tw (Wl _ _ eL) hS.len hl ?_
    walk_at "rx"
    exact aA (k _)
end
theorem Ci(K:PySem.W.Frag):fZ K "bool":=⟨by kernel_rfl,by kernel_rfl,by kernel_rfl,by kernel_rfl,by kernel_rfl,by kernel_rfl⟩
theorem Gn(K:PySem.W.Frag):fZ K "int":=⟨by kernel_rfl,by kernel_rfl,by kernel_rfl,by kernel_rfl,by kernel_rfl,by kernel_rfl⟩
theorem Cg(K:PySem.W.Frag):fZ K "list":=⟨by kernel_rfl,by kernel_rfl,by kernel_rfl,by kernel_rfl,by kernel_rfl,by kernel_rfl⟩
theorem Gm(K:PySem.W.Frag):fZ K "str":=⟨by kernel_rfl,by kernel_rfl,by kernel_rfl,by kernel_rfl,by kernel_rfl,by kernel_rfl⟩
theorem y'(K:PySem.W.Frag):fZ K "tuple":=⟨by kernel_rfl,by kernel_rfl,by kernel_rfl,by kernel_rfl,by kernel_rfl,by kernel_rfl⟩
theorem Lf{K:PySem.W.Frag}{H:Hp}{a:Addr}{ns:List Int}(hO:Hj H)(hS:du K H a (ns.map V.int)):cA K rB [.ref a] H (λ v _=>v=.bl true) λ _ _ _=>False:=by
 have Th:Iu K H a (ns.map V.int):=by
  rcases hS with(h|⟨o,h⟩)|h
  ·rcases hO a with z|⟨o,xs,z⟩
   ·rw[z]at h;cases h
   ·rw[z]at h;cases h
  ·exact .inl ⟨o,h⟩
  ·exact .inr h
 refine⟨[.fl (ns.map D.int)],λ _=>none,λ d _=>d=.bl true,aD.one (iw.mpr ⟨a,_,rfl,Th,jR ns⟩),λ a o e=>(by cases e),⟨ns,rfl,λ _=>rfl⟩,λ v H' d M' hd hm t e=>?_⟩
 subst e
 exact aN.mp hd
theorem nM{A:Type}{P:List A->Prop}(h:∀a,P [a]):∀us:List A,us.length=1->P us:=λ us e=>by
 match us,e with
 |[a],_=>exact h a
theorem kW{A:Type}{P:List A->Prop}(h:∀a b,P [a,b]):∀us:List A,us.length=2->P us:=λ us e=>by
 match us,e with
 |[a,b],_=>exact h a b
theorem Le{A:Type}{P:List A->Prop}(h:∀a b c,P [a,b,c]):∀us:List A,us.length=3->P us:=λ us e=>by
 match us,e with
 |[a,b,c],_=>exact h a b c
theorem OE{A:Type}{P:List A->Prop}(h:∀a b c d,P [a,b,c,d]):∀us:List A,us.length=4->P us:=λ us e=>by
 match us,e with
 |[a,b,c,d],_=>exact h a b c d
structure dm(K:PySem.W.Frag)(mg:Str->Option Value)(x:Str)(i:Nat)(f:Addr)(d:FuncData):Prop where
 m:mg x=some (.ref f)
 F:gb K x x (top i) f d
theorem all_mk{l:PySem.W.OpenLaw}{w:World}{K:PySem.W.Frag}{mg:Str->Option Value}{f0 f1 f2 f3 f4 f5 f6 f7 f8 f9 WY WX WV WU WR WQ WN WM WL WK WJ WH WD WC WB Wz Wy UT:Addr}{d0 d1 d2 d3 d4 d5 d6 d7 d8 d9 Rl Rk Xf Xe Xd Xc Xb Xa W' W_ Mb MT W9 W8 U1 W7 W6:FuncData}{kV dc pm cd ct:Value}{an:Option Addr}
  (T:jw K mg)
  (t0:dm K mg "added" 1 f0 d0)
  (t1:dm K mg "order_key" 2 f1 d1)
  (t2:dm K mg "in_order" 3 f2 d2)
  (t3:dm K mg "one_less" 4 f3 d3)
  (t4:dm K mg "moves" 5 f4 d4)
  (t5:dm K mg "led_to" 7 f5 d5)
  (t6:dm K mg "walk" 8 f6 d6)
  (t7:dm K mg "reached" 9 f7 d7)
  (t8:dm K mg "_law_flow" 11 f8 d8)
  (t9:dm K mg "_law_pick" 12 f9 d9)
  (Nj:dm K mg "_law_alike" 13 WY Rl)
  (Qt:dm K mg "_law_name" 14 WX Rk)
  (Qs:dm K mg "_law_names" 15 WV Xf)
  (Qr:dm K mg "_law_key" 16 WU Xe)
  (Qq:dm K mg "_law_counts" 17 WR Xd)
  (Qp:dm K mg "_law_in_order" 18 WQ Xc)
  (Qo:dm K mg "_law_lengths" 19 WN Xb)
  (Qn:dm K mg "_law_options" 20 WM Xa)
  (Qm:dm K mg "_law_game" 21 WL W')
  (Ql:dm K mg "_law_moves" 22 WK W_)
  (Qk:dm K mg "_law_some_sum" 23 WJ Mb)
  (Qj:dm K mg "_law_nim" 24 WH MT)
  (Qi:dm K mg "_law_all" 25 WD W9)
  (Qh:dm K mg "_law_walkable" 26 WC W8)
  (Qg:dm K mg "_law_long" 27 WB U1)
  (Qf:dm K mg "_law_drawn" 28 Wz W7)
  (Qd:dm K mg "_law_long_right" 29 Wy W6)
  (Vg:dm K mg "law" 30 UT (PySem.W.fnOf "law" "law" (eS (top 30)) (dh (top 30)) (ay (top 30)) .none kV dc pm an cd ct)):
  ∃fd:FuncData,(∀(s:Shared) (v:Value),BindsTo s fd ⟨[v],[]⟩ [("_law_script",v)])/\∀base:Heap,K.In base->base.Ns mainGlobals mg->bS l.prog w K mg base fc 8 UT fd ["_law_script"] (cA K rB):=by
 refine⟨PySem.W.fnOf "law" "law" (eS (top 30)) (dh (top 30)) (ay (top 30)) .none kV dc pm an cd ct,λ s v=>.of_eq rfl,λ base _ _=>?_⟩
 have b0:=t0.F.binds (ps:=["one","other"]) λ _ _ _ _ _ _=>kW λ _ _=>rfl
 have b1:=t1.F.binds (ps:=["counts"]) λ _ _ _ _ _ _=>nM λ _=>rfl
 have b2:=t2.F.binds (ps:=["sums"]) λ _ _ _ _ _ _=>nM λ _=>rfl
 have b3:=t3.F.binds (ps:=["counts","heap"]) λ _ _ _ _ _ _=>kW λ _ _=>rfl
 have b4:=t4.F.binds (ps:=["game","counts"]) λ _ _ _ _ _ _=>kW λ _ _=>rfl
 have b5:=t5.F.binds (ps:=["game","counts"]) λ _ _ _ _ _ _=>kW λ _ _=>rfl
 have b6:=t6.F.binds (ps:=["game","counts"]) λ _ _ _ _ _ _=>kW λ _ _=>rfl
 have b7:=t7.F.binds (ps:=["game","counts"]) λ _ _ _ _ _ _=>kW λ _ _=>rfl
 have b8:=t8.F.binds (ps:=["_law_script"]) λ _ _ _ _ _ _=>nM λ _=>rfl
 have b9:=t9.F.binds (ps:=["_law_flow_here","_law_many"]) λ _ _ _ _ _ _=>kW λ _ _=>rfl
 have U2:=Nj.F.binds (ps:=["_law_found","_law_due"]) λ _ _ _ _ _ _=>kW λ _ _=>rfl
 have Xx:=Qt.F.binds (ps:=["_law_flow_here"]) λ _ _ _ _ _ _=>nM λ _=>rfl
 have Xw:=Qs.F.binds (ps:=["_law_flow_here","_law_many"]) λ _ _ _ _ _ _=>kW λ _ _=>rfl
 have Xv:=Qr.F.binds (ps:=["_law_counts_here"]) λ _ _ _ _ _ _=>nM λ _=>rfl
 have Xu:=Qq.F.binds (ps:=["_law_heaps","_law_many"]) λ _ _ _ _ _ _=>kW λ _ _=>rfl
 have Xt:=Qp.F.binds (ps:=["_law_sums"]) λ _ _ _ _ _ _=>nM λ _=>rfl
 have Xs:=Qo.F.binds (ps:=["_law_options_here"]) λ _ _ _ _ _ _=>nM λ _=>rfl
 have Xr:=Qn.F.binds (ps:=["_law_flow_here","_law_ahead","_law_many","_law_deep"]) λ _ _ _ _ _ _=>OE λ _ _ _ _=>rfl
 have Xq:=Qm.F.binds (ps:=["_law_flow_here","_law_most","_law_deep"]) λ _ _ _ _ _ _=>Le λ _ _ _=>rfl
 have Xp:=Ql.F.binds (ps:=["_law_game_here","_law_counts_here"]) λ _ _ _ _ _ _=>kW λ _ _=>rfl
 have Xo:=Qk.F.binds (ps:=["_law_flow_here","_law_many","_law_most"]) λ _ _ _ _ _ _=>Le λ _ _ _=>rfl
 have Xn:=Qj.F.binds (ps:=["_law_flow_here","_law_most"]) λ _ _ _ _ _ _=>kW λ _ _=>rfl
 have Xm:=Qi.F.binds (ps:=["_law_game_here","_law_counts_here","_law_most"]) λ _ _ _ _ _ _=>Le λ _ _ _=>rfl
 have Xl:=Qh.F.binds (ps:=["_law_flow_here","_law_game_here","_law_many","_law_most"]) λ _ _ _ _ _ _=>OE λ _ _ _ _=>rfl
 have Xk:=Qg.F.binds (ps:=["_law_flow_here"]) λ _ _ _ _ _ _=>nM λ _=>rfl
 have Xj:=Qf.F.binds (ps:=["_law_flow_here"]) λ _ _ _ _ _ _=>nM λ _=>rfl
 have Xi:=Qd.F.binds (ps:=["_law_flow_here"]) λ _ _ _ _ _ _=>nM λ _=>rfl
 have cE:=bG.of t9.F (FJ t9.F T (P:=l.prog) (w:=w) (base:=base)) t9.m b9
 have yl:=bG.of t8.F (FT t8.F T (P:=l.prog) (w:=w) (base:=base)) t8.m b8
 have yg:=bG.of Qt.F (FN Qt.F T cE (P:=l.prog) (w:=w) (base:=base)) Qt.m Xx
 have uG:=bG.of t0.F (Bw t0.F T (P:=l.prog) (w:=w) (base:=base)) t0.m b0
 have yi:=bG.of t3.F (FP t3.F T (P:=l.prog) (w:=w) (base:=base)) t3.m b3
 have lX:=bG.of Qr.F (KR Qr.F T (P:=l.prog) (w:=w) (base:=base)) Qr.m Xv
 have lY:=bG.of Qp.F (Bu Qp.F T lX (P:=l.prog) (w:=w) (base:=base)) Qp.m Xt
 have gg:=bG.of Qq.F (yN Qq.F T (P:=l.prog) (w:=w) (base:=base)) Qq.m Xu
 have yd:=bG.of Qk.F (FI Qk.F T cE gg (P:=l.prog) (w:=w) (base:=base)) Qk.m Xo
 have hZ:=bG.of Qs.F (Bs Qs.F T yg (P:=l.prog) (w:=w) (base:=base)) Qs.m Xw
 have qY:=bG.of Nj.F (KW Nj.F T Nj.m U2 (P:=l.prog) (w:=w) (base:=base) 3) Nj.m U2
 have uE:=bG.of t4.F (Bt t4.F T yi uG (P:=l.prog) (w:=w) (base:=base)) t4.m b4
 have qW:=bG.of Ql.F (yL Ql.F T (P:=l.prog) (w:=w) (base:=base)) Ql.m Xp
 have yf:=bG.of t1.F (FL t1.F T (P:=l.prog) (w:=w) (base:=base)) t1.m b1
 have zN:=bG.of t2.F (KS t2.F T yf (P:=l.prog) (w:=w) (base:=base)) t2.m b2
 have qX:=bG.of t5.F (yM t5.F T uE (P:=l.prog) (w:=w) (base:=base)) t5.m b5
 have yc:=bG.of t6.F (FH t6.F T qX (P:=l.prog) (w:=w) (base:=base)) t6.m b6
 have iE:=bG.of t7.F (vo t7.F T yc zN (P:=l.prog) (w:=w) (base:=base)) t7.m b7
 have zO:=bG.of Qi.F (KU Qi.F T qW lX (P:=l.prog) (w:=w) (base:=base)) Qi.m Xm
 have yj:=bG.of Qo.F (FQ Qo.F T (P:=l.prog) (w:=w) (base:=base)) Qo.m Xs
 have ye:=bG.of Qn.F (FK Qn.F T cE yj gg lY (P:=l.prog) (w:=w) (base:=base)) Qn.m Xr
 have yk:=bG.of Qm.F (FR Qm.F T cE hZ ye (P:=l.prog) (w:=w) (base:=base)) Qm.m Xq
 have zL:=bG.of Qj.F (KO Qj.F T cE hZ gg lY (P:=l.prog) (w:=w) (base:=base)) Qj.m Xn
 have zK:=bG.of Qh.F (KN Qh.F T cE yd zO (P:=l.prog) (w:=w) (base:=base)) Qh.m Xl
 have yh:=bG.of Qg.F (FO Qg.F T cE hZ lX (P:=l.prog) (w:=w) (base:=base)) Qg.m Xk
 have uF:=bG.of Qf.F (Bv Qf.F T cE zL yk (P:=l.prog) (w:=w) (base:=base)) Qf.m Xj
 have zM:=bG.of Qd.F (KP Qd.F T yh iE qY (P:=l.prog) (w:=w) (base:=base)) Qd.m Xi
 exact KQ Vg.F T yl cE zM uF zK iE qY
theorem walk{l:PySem.W.OpenLaw}{q:Program}{loose:List Str}{XP:(Str->Option Value)->Heap->Prop}{YP:World->Heap->Prop}{d:DefRec}{K:Params->PySem.W.Frag}(hn:l.most=some 63)(sZ:d.params.defaults=[])
  (hY:∀(w:World) (h:Heap),YP w h->(K w.params).In h)
  (F:∀(w:World) (mg:Str->Option Value) (fa:Addr) (h:Heap),(K w.params).In h->h.Ns mainGlobals mg->mg d.name=some (.ref fa)->
   ∃fd:FuncData,(∀(s:Shared) (u:Value),BindsTo s fd ⟨[u],[]⟩ [("_law_script",u)])/\∀base:Heap,(K w.params).In base->base.Ns mainGlobals mg->bS l.prog w (K w.params) mg base fc 8 fa fd ["_law_script"] (cA (K w.params) rB)):
  PySem.W.WalkO q loose XP YP l.row.toRowW d [] (λ f vs=>PySem.call f vs):=
 L2.DJ (n:=63) (k:=8) (x:="_law_script") (CX:=λ _=>fc) (sp:=λ w=>cA (K w.params) rB) hn (by decide) sZ ⟨rfl,by decide,by decide⟩ hY F (λ _ _ a ns hl hO hS=>Lf hO hS) λ _ _ _ _ _ z=>z
end KK
open PySem PySem.W PyProof.Rows
def PySem.W.Fast.tw7531419736028671330:Program:=PySem.Challenge.pw_lastloser_k12_all_that_is_reached
theorem PySem.W.Fast.te7531419736028671330 : PySem.Challenge.pw_lastloser_k12_all_that_is_reached = PySem.W.Fast.tw7531419736028671330 := rfl
namespace KK
open L2
noncomputable def kE (P:Params)(x:Str)(t:Nat)(v:Value):DictEntry:={hash:=PyData.keyHash P x,key:=.str x t,val:=v}
noncomputable def kO (x:Str)(t l n r s u:Nat)(v w:Value):Obj:={cls:=.type "code",data:=.fields #[.str x t,.str x (t+1),.str "/claim/cut.py" (t+2),.int l 0,.int n 0,.int 0 0,.int 0 0,.int 3 0,.ref r,.bool true,.int 181 0,.ref (r+1),.none,v,w,.ref s,.int u 0,.int l 0,.str "/claim/cut.py" (u+1)]}
noncomputable def kF (x:Str)(i:Nat)(m:Str×Nat)(c:Nat):Obj:={cls:=.type "function",data:=.func (PySem.W.fnOf x x (eS (top i)) (dh (top i)) (ay (top i)) .none .none .none (.str m.1 m.2) none (.ref c) .none)}
noncomputable def kP (x:Str)(a i:Nat)(m:Str×Nat)(t l n u q:Nat):List (Nat×Obj):=[(a,if q=0 then kO x t l n (a - 3) (a - 1) u .none .none else kO x t l n (a - 5) (a - 1) u (.ref (a - 3)) (.ref (a - 2))),(a+1,kF x i m a)]
noncomputable def m0:Str×Nat:=("lastloser.sums",187)
noncomputable def m1:Str×Nat:=("lastloser.walks",222)
noncomputable def m2:Str×Nat:=("law_lastloser_k12_all_that_is_reached",248)
noncomputable def kD (P:Params):Obj:={cls:=.type "dict",data:=.dict #[kE P "__name__" 165 (.str "law_lastloser_k12_all_that_is_reached" 248),kE P "__doc__" 166 .none,kE P "__package__" 167 .none,kE P "__loader__" 168 (.builtin "__main__.__loader__#opaque"),kE P "__spec__" 169 .none,kE P "__annotations__" 170 (.ref 6),kE P "__builtins__" 171 (.ref 4),kE P "__file__" 173 (.str "/claim/cut.py" 172),kE P "__cached__" 174 .none,kE P "added" 194 (.ref 19),kE P "order_key" 200 (.ref 24),kE P "in_order" 207 (.ref 31),kE P "one_less" 215 (.ref 38),kE P "moves" 221 (.ref 43),kE P "led_to" 233 (.ref 50),kE P "walk" 239 (.ref 55),kE P "reached" 247 (.ref 62),kE P "_law_flow" 256 (.ref 69),kE P "_law_pick" 266 (.ref 76),kE P "_law_alike" 272 (.ref 81),kE P "_law_name" 278 (.ref 86),kE P "_law_names" 290 (.ref 93),kE P "_law_key" 296 (.ref 98),kE P "_law_counts" 302 (.ref 103),kE P "_law_in_order" 308 (.ref 108),kE P "_law_lengths" 314 (.ref 113),kE P "_law_options" 320 (.ref 118),kE P "_law_game" 326 (.ref 123),kE P "_law_moves" 332 (.ref 128),kE P "_law_some_sum" 338 (.ref 133),kE P "_law_nim" 344 (.ref 138),kE P "_law_all" 358 (.ref 145),kE P "_law_walkable" 364 (.ref 150),kE P "_law_long" 370 (.ref 155),kE P "_law_drawn" 377 (.ref 162),kE P "_law_long_right" 383 (.ref 167),kE P "law" 389 (.ref 172)] 37}
noncomputable def kK (P:Params):PySem.W.Frag:=(3,kD P)::[kP "added" 18 1 m0 189 2 2 192 0,kP "order_key" 23 2 m0 195 4 1 198 0,kP "in_order" 30 3 m0 201 6 1 205 1,kP "one_less" 37 4 m0 208 8 2 213 1,kP "moves" 42 5 m0 216 10 2 219 0,kP "led_to" 49 7 m1 224 18 2 231 1,kP "walk" 54 8 m1 234 23 2 237 0,kP "reached" 61 9 m1 240 32 2 245 1,kP "_law_flow" 68 11 m2 250 35 1 254 1,kP "_law_pick" 75 12 m2 257 37 2 264 1,kP "_law_alike" 80 13 m2 267 52 2 270 0,kP "_law_name" 85 14 m2 273 64 1 276 0,kP "_law_names" 92 15 m2 279 73 2 288 1,kP "_law_key" 97 16 m2 291 83 1 294 0,kP "_law_counts" 102 17 m2 297 85 2 300 0,kP "_law_in_order" 107 18 m2 303 87 1 306 0,kP "_law_lengths" 112 19 m2 309 89 1 312 0,kP "_law_options" 117 20 m2 315 95 4 318 0,kP "_law_game" 122 21 m2 321 112 3 324 0,kP "_law_moves" 127 22 m2 327 119 2 330 0,kP "_law_some_sum" 132 23 m2 333 128 3 336 0,kP "_law_nim" 137 24 m2 339 131 2 342 0,kP "_law_all" 144 25 m2 345 146 3 356 1,kP "_law_walkable" 149 26 m2 359 157 4 362 0,kP "_law_long" 154 27 m2 365 166 1 368 0,kP "_law_drawn" 161 28 m2 371 177 1 375 1,kP "_law_long_right" 166 29 m2 378 183 1 381 0,kP "law" 171 30 m2 384 186 1 387 0].flatten
noncomputable def kA:List Addr:=[3,18,19,23,24,30,31,37,38,42,43,49,50,54,55,61,62,68,69,75,76,80,81,85,86,92,93,97,98,102,103,107,108,112,113,117,118,122,123,127,128,132,133,137,138,144,145,149,150,154,155,161,162,166,167,171,172]
theorem tF{K:PySem.W.Frag}{h:Heap}{mg:Str->Option Value}{x:Str}{i:Nat}(X:K.In h)(G:h.Ns mainGlobals mg)(m:Str×Nat)(c:Nat)(a:PySem.W.nsIn K mainGlobals x=some (some (.ref (c+1))):=by kernel_rfl)(l:K.lookup (c+1)=some (kF x i m c):=by kernel_rfl)(e:PySem.W.codeIn K (.ref c) x=true:=by kernel_rfl):dm K mg x i (c+1) (PySem.W.fnOf x x (eS (top i)) (dh (top i)) (ay (top i)) .none .none .none (.str m.1 m.2) none (.ref c) .none):=
 ⟨PySem.W.mg_of X G a,LO (st:=top i) l e (by unfold PySem.W.keepIn;dsimp only;rw[l];rfl)⟩
theorem kn{K:PySem.W.Frag}{h:Heap}{mg:Str->Option Value}{x:Str}(X:K.In h)(G:h.Ns mainGlobals mg)(e:PySem.W.nsIn K mainGlobals x=some none:=by kernel_rfl):mg x=none:=PySem.W.mg_none_of X G e
def pg:Program:={PySem.Challenge.pw_lastloser_k12_all_that_is_reached with main:={PySem.Challenge.pw_lastloser_k12_all_that_is_reached.main with body:=[top 0,top 1,top 2,top 3,top 4,top 5,top 6,top 7,top 8,top 9,top 10,top 11,top 12,top 13,top 14,top 15,top 16,top 17,top 18,top 19,top 20,top 21,top 22,top 23,top 24,top 25,top 26,top 27,top 28,top 29,top 30]}}
def lw:PySem.W.OpenLaw:={PySem.Challenge.rw_lastloser_k12_all_that_is_reached with prog:=pg}
end KK
set_option maxRecDepth 100000 in
set_option maxHeartbeats 0 in
theorem KK.pre:KK.lw.Holds:=by
 w_on;o_law;o_head (PySem.W.kHook KK.kK KK.kA (λ _=>by kernel_rfl));(case hw=>w_witness2)
 refine KK.walk (l:=KK.lw) rfl rfl (λ w h Y=>PySem.W.kIn_of Y) ?F
 case F=>
  intro w mg fa h KX G OU
  have hm:mg "law"=some (.ref fa):=OU
  have e:=hm.symm.trans (PySem.W.mg_of KX G (v:=.ref (171+1)) (by kernel_rfl))
  cases e
  exact KK.all_mk ⟨KK.kn KX G,KK.kn KX G,KK.kn KX G,KK.kn KX G,KK.kn KX G,KK.kn KX G,KK.kn KX G,KK.kn KX G,KK.kn KX G,KK.kn KX G,KK.kn KX G,KK.kn KX G,KK.kn KX G,KK.kn KX G,KK.kn KX G,KK.kn KX G,KK.Ci _,KK.Gn _,KK.Cg _,KK.Gm _,KK.y' _⟩ (KK.tF KX G KK.m0 18) (KK.tF KX G KK.m0 23) (KK.tF KX G KK.m0 30) (KK.tF KX G KK.m0 37) (KK.tF KX G KK.m0 42) (KK.tF KX G KK.m1 49) (KK.tF KX G KK.m1 54) (KK.tF KX G KK.m1 61) (KK.tF KX G KK.m2 68) (KK.tF KX G KK.m2 75) (KK.tF KX G KK.m2 80) (KK.tF KX G KK.m2 85) (KK.tF KX G KK.m2 92) (KK.tF KX G KK.m2 97) (KK.tF KX G KK.m2 102) (KK.tF KX G KK.m2 107) (KK.tF KX G KK.m2 112) (KK.tF KX G KK.m2 117) (KK.tF KX G KK.m2 122) (KK.tF KX G KK.m2 127) (KK.tF KX G KK.m2 132) (KK.tF KX G KK.m2 137) (KK.tF KX G KK.m2 144) (KK.tF KX G KK.m2 149) (KK.tF KX G KK.m2 154) (KK.tF KX G KK.m2 161) (KK.tF KX G KK.m2 166) (KK.tF KX G KK.m2 171)
theorem PySem.Challenge.cw_lastloser_k12_all_that_is_reached_holds : PySem.Challenge.rw_lastloser_k12_all_that_is_reached.Holds :=
 KK.pre
