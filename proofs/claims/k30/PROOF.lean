import PyProof.Rows.All
import Wide.All
import OpenK.AllK
import Wide.FinOn
import Lean
import PyProof.EqAt
import PyProof.EqKinds
import PyProof.TupleCall
import PyProof.StrWalks
import PyProof.ConsumeWalk
import PyProof.TupleKey
import PyProof.DictFindH
import PyProof.P3Eq
import PyProof.DictRoadsH
import PyProof.Rows.TupTab
import KE.KLam
import KE.KSortTup
import PyProof.ZipIter
import PyProof.Draws
import PyProof.WalksMore
import PyProof.ListMulRoad
import PyProof.AutoListH
import PyProof.FactsAll.tuple_2
import PyProof.FactsAll.tuple
import PyProof.TupleIter
import PyProof.AttrMissHeap
import PyProof.DictIter
import PyProof.DictWalks
import KE.KDictSum
import KE.KDictOf
import PyProof.EnumMake
import KE.BitLaws
import PyProof.RaisesMany
import PyProof.ExcInit
import PyProof.ExcClass3
import PyProof.ExcArgsOwn
import PyProof.RulesTry
import PyProof.RulesAs
import PyProof.NsDelKeeps
import KE.KIsAll
import PyProof.Rows.SortWalk
import PyProof.Rows.Range3
import PyProof.ListRange
import PySem.Challenge.RW_lastloser_k30_sums_that_part
set_option tactic.hygienic false
local macro_rules|`(tactic|omega)=>`(tactic|lia)
local macro_rules|`(tactic|obtain $p:rcasesPatMed:=$t:term)=>`(tactic|first|(refine Classical.byContradiction fun k=>?_;rcases $t:term with $p:rcasesPatMed<;>(refine k ?_;clear k))|rcases $t:term with $p:rcasesPatMed)
set_option Elab.async false
set_option linter.all false
set_option maxRecDepth 100000
set_option maxHeartbeats 4000000
open List
def a0:=@PyProof.Rows.slot_tuple_getitem
def a7:=@eq_nil_of_length_eq_zero
def a8:=@PyProof.Rows.callWith_type1
def a9:=@PySem.F.slot_tuple_iterator_next
def c7:=@getElem?_append_right
def c8:=@getD_eq_getElem?_getD
def c9:=@getElem?_append_left
def g0:=@Array.getElem?_eq_getElem
def g9:=@List.getElem?_eq_some_iff
def i3:=@List.getElem?_eq_none_iff
def i4:=@PySem.F.slot_list_append
def i5:=@getElem?_eq_getElem
def i6:=@PySem.F.type_list_append
def i7:=@PySem.F.plainAttrs_list
def i8:=@getElem?_replicate
def i9:=@PySem.wpAny_callSpecial?_slot
def j0:=@length_eq_zero_iff
def j2:=@take_of_length_le
def j3:=@Array.getElem?_eq_none
def j4:=@PySem.Heap.get?_push_of_some
def j5:=@PySem.Heap.get?_update_other
def j6:=@getElem?_set_self
def j7:=@PySem.Heap.get?_update_self
def j8:=@mem_append_right
def j9:=@length_singleton
def k4:=@Array.getElem?_toList
def k5:=@length_replicate
def k7:=@getElem?_eq_none
def k8:=@mem_cons_of_mem
def k9:=@mem_of_getElem?
def l0:=@mem_append_left
def l5:=@PySem.Around.under_plainId
def l6:=@getElem?_set_ne
def l7:=@PySem.Heap.SameBut.update
def l8:=@getElem?_range
def l9:=@PySem.mem_of_lookup
def m6:=@replicate_succ
def m7:=@Array.length_toList
def m8:=@PySem.Heap.get?_push_size
def m9:=@PySem.F.plain_extend_loop
def n5:=@filterMap_cons
def n6:=@mem_cons_self
def n9:=@Bool.false_ne_true
def o6:=@length_append
def o7:=@Bool.false_eq_true
def o8:=@Int.emod_lt_of_pos
def p4:=@PySem.wpAny_setField_rec
def p5:=@Nat.lt_of_le_of_lt
def p6:=@Nat.lt_of_lt_of_le
def p7:=@mem_singleton
def p8:=@PySem.wpAny_Call_Name_kw
def p9:=@Int.lt_of_le_of_lt
def q8:=@PySem.tupleKind_room_in1
def q9:=@Array.forIn_toList
def s9:=@getElem?_map
def u6:=@decide_eq_true_eq
def u7:=@Int.toNat_natCast
def u9:=@PySem.wpAny_newObj_type
def w6:=@flatten_cons
def w9:=@append_assoc
def x3:=@length_range
def x4:=@Option.isSome_map
def x5:=@List.size_toArray
def x6:=@ext_getElem?
def x8:=@Nat.lt_succ_of_lt
def x9:=@lookup_cons
def y0:=@Nat.le_of_not_lt
def y3:=@length_cons
def y4:=@take_length
def y6:=@PySem.wpAny_call_entry
def y7:=@Bool.and_eq_true
def y8:=@length_take
def y9:=@getElem_mem
def z9:=@Nat.le_add_right
def A0:=@PySem.wpAny_isInstance
def A1:=@cons_append
def A2:=@List.all_eq_true
def A3:=@Bool.eq_iff_iff
def A4:=@append_nil
def A5:=@nil_append
def A6:=@find?_cons
def A7:=@decide_eq_false
def A8:=@Int.emod_nonneg
def A9:=@Option.some.inj
def B0:=@PySem.PassesOwn.never
def B1:=@PySem.wpAny_passesOwn
def B2:=@PySem.codeAny_builtin
def B3:=@PySem.W.kia_one
def B4:=@length_map
def B5:=@mem_append
def B6:=@map_append
def B7:=@Nat.le_antisymm
def B8:=@PySem.wpAny_updateSeq
def B9:=@PySem.wpAny_specialOf
def C0:=@decide_eq_true
def C3:=@PySem.wpAny_seqItems
def C4:=@PySem.Heap.size_push
def C5:=@PySem.wpAny_setField
def C6:=@PySem.wpAny_holding
def C7:=@PySem.Paired.length
def C8:=@Nat.lt_irrefl
def C9:=@map_cons
def D1:=@mem_cons
def D3:=@Int.zero_add
def D4:=@Nat.ne_of_lt
def D5:=@PySem.Heap.lt_size
def D6:=@mem_map
def D7:=@List.map_map
def D8:=@Nat.le_trans
def E4:=@Nat.zero_add
def E5:=@Nat.le_of_eq
def E6:=@PySem.wpAny_typeOf
def E7:=@PySem.codeAny_mono
def G0:=@Nat.ne_of_gt
def G4:=@Nat.le_of_lt
def G5:=@Nat.le_refl
def G6:=@PySem.sizeLine_eq
def G7:=@Nat.zero_le
def G8:=@PySem.wpAny_field
def G9:=@PySem.wpAny_bind
def H9:=@PySem.wpAny_pure
def J0:=@PySem.call_meets
def J1:=@PySem.wpAny_mono
def J3:=@if_false
def J4:=@congrArg
def J5:=@Ne.symm
def J6:=@if_pos
def J7:=@if_neg
abbrev J8:=PySem.W.Frag
namespace L2
open PySem PySem.Spec PyProof.Rows
abbrev Key:=Sum Int Str
def nR:Key->Value->Bool
 | .inl k,v=>Value.isInt k v
 | .inr x,v=>Value.isStrOf x v
def UR(w:World):Key->Int
 | .inl k=>hashInt k
 | .inr x=>hashStr w x
theorem bN:∀{k:Key} {v:Value},nR k v=true->(∃i t,k=Sum.inl i/\v=Value.int i t)\/(∃x t,k=Sum.inr x/\v=Value.str x t)
 | .inl i,v,h=>by obtain⟨t,e⟩:=Value.isInt_shape (k:=i) (v:=v) h;exact .inl ⟨i,t,rfl,e⟩
 | .inr x,v,h=>by obtain⟨t,e⟩:=Value.isStrOf_shape (x:=x) (v:=v) h;exact .inr ⟨x,t,rfl,e⟩
theorem AZ(i:Int)(t:Tok):nR (.inl i) (.int i t)=true:=by simp[nR,Value.isInt]
theorem AY(x:Str)(t:Tok):nR (.inr x) (.str x t)=true:=by simp[nR,Value.isStrOf]
theorem N7(a b:Int):decide ((Sum.inl a:Key)=Sum.inl b)=(a==b):=by
 by_cases e:a=b
 ·subst e;simp
 ·have h:¬(Sum.inl a:Key)=Sum.inl b:=λ q=>e (Sum.inl.inj q);rw[A7 h];exact(beq_eq_false_iff_ne.mpr e).symm
theorem N4(a b:Str):decide ((Sum.inr a:Key)=Sum.inr b)=decide (a=b):=by
 by_cases e:a=b
 ·subst e;simp
 ·have h:¬(Sum.inr a:Key)=Sum.inr b:=λ q=>e (Sum.inr.inj q);rw[A7 h,A7 e]
theorem N6(a:Int)(b:Str):decide ((Sum.inl a:Key)=Sum.inr b)=false:=A7 (λ q=>nomatch q)
theorem N5(a:Str)(b:Int):decide ((Sum.inr a:Key)=Sum.inl b)=false:=A7 (λ q=>nomatch q)
def cB(prog:Program)(w:World):PySem.KeyKind prog w Key where
 is:=nR
 hash:=UR w
 inj:=λ v a b ha hb=>by
  rcases bN ha with⟨i,t,rfl,rfl⟩|⟨x,t,rfl,rfl⟩
  ·rcases bN hb with⟨j,u,rfl,e⟩|⟨y,u,rfl,e⟩
   ·injection e with e1 _;rw[e1]
   ·exact nomatch e
  ·rcases bN hb with⟨j,u,rfl,e⟩|⟨y,u,rfl,e⟩
   ·exact nomatch e
   ·injection e with e1 _;rw[e1]
 byValue:=λ k v h=>by rcases bN h with⟨i,t,rfl,rfl⟩|⟨x,t,rfl,rfl⟩ <;> rfl
 pyHash:=λ hv h=>by
  rcases bN hv with⟨i,t,rfl,rfl⟩|⟨x,t,rfl,rfl⟩
  ·exact wpAny_pyHash_int h
  ·exact wpAny_pyHash_str h
 eqBool:=λ hu hv h=>by
  rcases bN hu with⟨i,t,rfl,rfl⟩|⟨x,t,rfl,rfl⟩
  ·rcases bN hv with⟨j,u,rfl,rfl⟩|⟨y,u,rfl,rfl⟩
   ·rw[N7]at h;exact wpAny_eqBool_int h
   ·rw[N6]at h;exact SeqAt.EqAt.int_str i t y u _ _ _ _ h
  ·rcases bN hv with⟨j,u,rfl,rfl⟩|⟨y,u,rfl,rfl⟩
   ·rw[N5]at h;exact SeqAt.EqAt.str_int x t j u _ _ _ _ h
   ·rw[N4]at h;exact wpAny_eqBool_str h
 «strs»:=λ k x t v h=>by
  rcases bN h with⟨i,u,rfl,e⟩|⟨y,u,rfl,e⟩
  ·exact nomatch e
  ·injection e with e1 _
   subst e1;cases v <;> rfl
theorem ud(prog:Program)(w:World)(i:Int)(t:Tok):(cB prog w).is (.inl i) (.int i t)=true:=AZ i t
theorem uc(prog:Program)(w:World)(x:Str)(t:Tok):(cB prog w).is (.inr x) (.str x t)=true:=AY x t
inductive V where
 |bx|bl (b:Bool)|int (i:Int)|str (x:Str)|F_ (b:Array UInt8)|Pq (b:UInt64)|ref (a:Addr)|ty (n:String)
 deriving DecidableEq
def RelV:V->Value->Prop
 | .bx,u=>u=Value.none
 | .bl b,u=>u=Value.bool b
 | .int i,u=>∃t,u=Value.int i t
 | .str x,u=>∃t,u=Value.str x t
 | .F_ b,u=>∃t,u=Value.bytes b t
 | .Pq b,u=>∃t,u=Value.float b t
 | .ref a,u=>u=Value.ref a
 | .ty n,u=>u=Value.type n
abbrev Vals:List V->List Value->Prop:=Paired RelV
theorem Vals.length {xs:List V}{us:List Value}(r:Vals xs us):xs.length=us.length:=C7 r
theorem Vals.get:∀{xs:List V} {us:List Value} {i:Nat} {x:V},Vals xs us->xs[i]?=some x->∃u,us[i]?=some u/\RelV x u
 |_,_,_,_,.nil,e=>by simp at e
 |_,_,0,_,.cons r _,e=>by simp at e;subst e;exact⟨_,rfl,r⟩
 |_,_,i+1,x,.cons _ t,e=>by obtain⟨u,h1,h2⟩:=Vals.get (i:=i) (x:=x) t (by simpa using e);exact⟨u,by simpa using h1,h2⟩
theorem Vals.set {x:V}{u:Value}(r:RelV x u):∀{xs:List V} {us:List Value} (i:Nat),Vals xs us->Vals (xs.set i x) (us.set i u)
 |_,_,_,.nil=>.nil
 |_,_,0,.cons _ t=>.cons r t
 |_,_,i+1,.cons q t=>.cons q (Vals.set r i t)
theorem Vals.append:∀{xs ys:List V} {us ws:List Value},Vals xs us->Vals ys ws->Vals (xs++ys) (us++ws)
 |_,_,_,_,.nil,s=>s
 |_,_,_,_,.cons r t,s=>.cons r (Vals.append t s)
theorem Vals.take:∀{xs:List V} {us:List Value} (n:Nat),Vals xs us->Vals (xs.take n) (us.take n)
 |_,_,0,_=>.nil
 |_,_,_+1,.nil=>.nil
 |_,_,n+1,.cons r t=>.cons r (Vals.take n t)
theorem Vals.drop:∀{xs:List V} {us:List Value} (n:Nat),Vals xs us->Vals (xs.drop n) (us.drop n)
 |_,_,0,r=>r
 |_,_,_+1,.nil=>.nil
 |_,_,n+1,.cons _ t=>Vals.drop n t
def jZ:Option V->Option Value->Prop
 |some v,some u=>RelV v u
 |none,none=>True
 |_,_=>False
def KV{κ:Type}:List (κ×V)->List (κ×Value)->Prop:=Paired λ(p:κ×V) (q:κ×Value)=>p.1=q.1/\RelV p.2 q.2
def kV:Key->V
 | .inl i=>.int i
 | .inr x=>.str x
inductive HO where
  |lst (xs:List V)
  |tup (xs:List V)
  |dK (kvs:List (Key×V))|dT (kvs:List (List Key×V))
  |set (S:Int->Bool) (n:Nat)
  |ins (C dx:Addr) (fs:List (Str×V))
  |own (x:Addr)
  |xd (fs:List (Str×V))
  |met (f x:Addr)
  |L_ (lo hi:Int)
  |cQ (o:Obj) (u:HO)
  |lT (ps:Array Value)
  |ext (φ:Heap->Prop)
abbrev Hp:=Addr->Option HO
def upd(H:Hp)(a:Addr)(o:HO):Hp:=λ b=>if b=a then some o else H b
theorem aP{H:Hp}{a:Addr}{o:HO}:upd H a o a=some o:=by unfold upd;rw[J6 rfl]
theorem aG{H:Hp}{a b:Addr}{o:HO}(h:b≠a):upd H a o b=H b:=by unfold upd;rw[J7 h]
theorem bM{H:Hp}{a b:Addr}{o u:HO}(h:H a=some o)(h':H b=some u)(d:o≠u):a≠b:=by intro e;subst e;rw[h]at h';exact d (A9 h')
theorem bJ{H:Hp}{a b:Addr}{o:HO}(h:H a=some o)(h':H b=none):a≠b:=by intro e;subst e;rw[h]at h';cases h'
section
variable (P:Program)(w:World)
def bq(H:Hp)(h:Heap)(a:Addr):HO->Prop
 | .lst xs=>xs.length<=sizeLine/\∃(ax:List Value) (n:Nat),Vals xs ax/\h.get? a=some {cls:=.type "list",data:=.seq ax.toArray n}
 | .tup xs=>xs.length<=sizeLine/\∃ax:List Value,Vals xs ax/\IsTup h a ax.toArray
 | .dK kvs=>kvs.length<=sizeLine/\(a==sysModules)=false/\∃vs,KV kvs vs/\h.DictOf (cB P w) a vs
 | .dT kvs=>kvs.length<=sizeLine/\(a==sysModules)=false/\∃xs:List (List Key×Addr×Value),
   Paired (λ(p:List Key×V) (q:List Key×Addr×Value)=>p.1=q.1/\H q.2.1=some (.tup (p.1.map kV))/\RelV p.2 q.2.2) kvs xs/\
   ∃o es ep,h.get? a=some o/\o.ExactDict/\o.data=.dict es ep/\es.toList=xs.map (entryOfKey (tupleKind (cB P w)))/\(xs.map (·.1)).Nodup
 | .set S n=>h.SetOf (intKind P w) a S n
 | .ins C dx fs=>H dx=some (.own a)/\fs.length<=1000/\dx≠a/\h.get? a=some (PySem.W.instObj C dx)/\
   ∃mA,h.Ns1 dx mA/\(∀f,jZ (fs.lookup f) (mA f))/\PySem.Within mA (fs.map (·.1))
 | .own _=>∃o,h.get? a=some o
 | .xd fs=>∃mA,h.Ns1 a mA/\∀f,jZ (fs.lookup f) (mA f)
 | .L_ lo hi=>∃t u v,h.get? a=some {cls:=.type "range",data:=.fields #[.int lo t,.int hi u,.int 1 v]}
 | .cQ o u=>h.get? a=some o/\bq H h a u
 | .lT ps=>h.get? a=some {cls:=.none,data:=.fields ps}
 | .met f x=>h.get? a=some (PySem.W.methodObj (.ref f) (.ref x))
 | .ext φ=>φ h/\(∃o,h.get? a=some o)/\∀h1 h2:Heap,φ h1->(∀o,h1.get? a=some o->h2.get? a=some o)->φ h2
def gj(H:Hp)(h:Heap):Prop:=∀a o,H a=some o->bq P w H h a o
end
section
variable {P:Program}{w:World}{H H':Hp}{h h':Heap}{a:Addr}{o:HO}
theorem bq.lt (x:bq P w H h a o):a < h.objs.size:=by
 cases o with
 |lst xs=>obtain⟨_,_,_,_,e⟩:=x;exact D5 e
 |tup xs=>obtain⟨_,_,_,p⟩:=x;exact p.lt
 |dK kvs=>obtain⟨_,_,_,_,o,_,_,e,_⟩:=x;exact D5 e
 |dT kvs=>obtain⟨_,_,_,_,o,_,_,e,_⟩:=x;exact D5 e
 |set S n=>obtain⟨o,_,_,_,e,_⟩:=x;exact D5 e
 |ins C dx fs=>obtain⟨_,_,_,e,_⟩:=x;exact D5 e
 |own y=>obtain⟨_,e⟩:=x;exact D5 e
 |xd fs=>obtain⟨_,⟨_,_,_,e,_⟩,_⟩:=x;exact D5 e
 |L_ lo hi=>obtain⟨_,_,_,e⟩:=x;exact D5 e
 |cQ ob u=>obtain⟨e,_⟩:=x;exact D5 e
 |lT ps=>exact D5 (show h.get? a=some _ from x)
 |met f y=>exact D5 (show h.get? a=some _ from x)
 |ext φ=>obtain⟨_,⟨_,e⟩,_⟩:=x;exact D5 e
theorem Paired.oX {α β:Type}{F G:α->β->Prop}:∀{l₁:List α} {l₂:List β},Paired F l₁ l₂->(∀a b,F a b->G a b)->Paired G l₁ l₂
 |_,_,.nil,_=>.nil
 |_,_,.cons r t,f=>.cons (f _ _ r) (Paired.oX t f)
theorem bq.ko (x:bq P w H h a o)(k:∀b u,(b=a\/H b=some (.own a))->h.get? b=some u->h'.get? b=some u) (ho:∀b,H b=some (.own a)->H' b=some (.own a)) (ht:∀b xs,H b=some (.tup xs)->H' b=some (.tup xs)):bq P w H' h' a o:=by
 induction o with
 |lst xs=>obtain⟨z,ax,n,r,e⟩:=x;exact⟨z,ax,n,r,k _ _ (.inl rfl) e⟩
 |tup xs=>obtain⟨z,ax,r,ob,e,c⟩:=x;exact⟨z,ax,r,ob,k _ _ (.inl rfl) e,c⟩
 |dK kvs=>obtain⟨z,y,vs,r,ob,es,ep,e,c⟩:=x;exact⟨z,y,vs,r,ob,es,ep,k _ _ (.inl rfl) e,c⟩
 |dT kvs=>obtain⟨z,y,xs,r,ob,es,ep,e,c⟩:=x;exact⟨z,y,xs,Paired.oX r λ p q z=>⟨z.1,ht _ _ z.2.1,z.2.2⟩,ob,es,ep,k _ _ (.inl rfl) e,c⟩
 |set S n=>obtain⟨ob,es,ep,t,e,c⟩:=x;exact⟨ob,es,ep,t,k _ _ (.inl rfl) e,c⟩
 |ins C dx fs=>obtain⟨d,z,ne,e,mA,⟨od,es,ep,e2,c⟩,r⟩:=x;exact⟨ho _ d,z,ne,k _ _ (.inl rfl) e,mA,⟨od,es,ep,k _ _ (.inr d) e2,c⟩,r⟩
 |own y=>obtain⟨ob,e⟩:=x;exact⟨ob,k _ _ (.inl rfl) e⟩
 |xd fs=>obtain⟨mA,⟨od,es,ep,e,c⟩,r⟩:=x;exact⟨mA,⟨od,es,ep,k _ _ (.inl rfl) e,c⟩,r⟩
 |L_ lo hi=>obtain⟨t,u,v,e⟩:=x;exact⟨t,u,v,k _ _ (.inl rfl) e⟩
 |cQ ob u ih=>obtain⟨e,q⟩:=x;exact⟨k _ _ (.inl rfl) e,ih q⟩
 |lT ps=>have e:h.get? a=some {cls:=.none,data:=.fields ps}:=x;show h'.get? a=some {cls:=.none,data:=.fields ps};exact k a _ (.inl rfl) e
 |met f y=>have e:h.get? a=some (PySem.W.methodObj (.ref f) (.ref y)):=x;show h'.get? a=some (PySem.W.methodObj (.ref f) (.ref y));exact k a _ (.inl rfl) e
 |ext φ=>obtain⟨p,⟨o,e⟩,st⟩:=x;exact⟨st _ _ p λ o q=>k _ _ (.inl rfl) q,⟨o,k _ _ (.inl rfl) e⟩,st⟩
theorem gj.lt (x:gj P w H h)(e:H a=some o):a < h.objs.size:=(x a o e).lt
theorem gj.fresh (x:gj P w H h)(e:h.objs.size<=a):H a=none:=by
 cases q:H a with
 |none=>rfl
 |some u=>exact absurd (p6 (x.lt q) e) (C8 _)
theorem gj.kept (x:gj P w H h)(k:∀b u,h.get? b=some u->h'.get? b=some u):gj P w H h':=λ a o e=>
 (x a o e).ko (λ b u _ q=>k b u q) (λ _ q=>q) λ _ _ q=>q
theorem gj.laid (x:gj P w H h)(k:∀b u,h.get? b=some u->h'.get? b=some u)(hp:h.objs.size<=a)(new:bq P w (upd H a o) h' a o):gj P w (upd H a o) h':=λ b u e=>by
 have hn:=x.fresh hp;by_cases hb:b=a
 ·subst hb;rw[aP]at e;cases e;exact new
 ·rw[aG hb]at e;exact(x b u e).ko (λ c v _ q=>k c v q) (λ c q=>by rw[aG (bJ q hn)];exact q) λ c xs q=>by rw[aG (bJ q hn)];exact q
end
def Rd(H:Hp)(a:Addr)(u:HO):Prop:=H a=some u\/∃o,H a=some (.cQ o u)
theorem Rd.ok {P:Program}{w:World}{H:Hp}{h:Heap}{a:Addr}{u:HO}(r:Rd H a u)(x:gj P w H h):bq P w H h a u:=by
 rcases r with r|⟨o,r⟩
 ·exact x a u r
 ·obtain⟨_,q⟩:=x a _ r;exact q
def Sg:Option HO->Prop
 |some (.lst _)=>True
 |some (.dK _)=>True
 |some (.dT _)=>True
 |some (.set _ _)=>True
 |some (.ins _ _ _)=>True
 |some (.ext _)=>True
 |_=>False
section
variable {P:Program}{w:World}{H:Hp}{h h':Heap}{x e:Addr}{o':HO}
theorem gj.write (ok:gj P w H h)(mu:Sg (H x))(he:e=x\/H e=some (.own x))(k:∀b u,b≠e->h.get? b=some u->h'.get? b=some u)(Pk:∃u,h'.get? e=some u) (new:bq P w (upd H x o') h' x o'):gj P w (upd H x o') h':=λ b u q=>by
 have Rc:∀c y,H c=some (.own y)->c≠x:=λ c y r z=>by subst z;rw[r]at mu;exact mu
 have UG:∀c xs,H c=some (.tup xs)->c≠x:=λ c xs r z=>by subst z;rw[r]at mu;exact mu
 by_cases hb:b=x
 ·subst hb;rw[aP]at q;cases q;exact new
 ·rw[aG hb]at q;by_cases Ow:b=e
  ·have q':H b=some (.own x):=by
    rcases he with z|z
    ·exact absurd (Ow.trans z) hb
    ·rw[Ow];exact z
   rw[q]at q';cases q';obtain⟨v,hv⟩:=Pk;exact⟨v,by rw[Ow];exact hv⟩
  ·refine(ok b u q).ko (λ c v hc r=>k c v ?_ r) (λ c r=>by rw[aG (Rc c b r)];exact r) λ c xs r=>by rw[aG (UG c xs r)];exact r
   rcases hc with rfl|hc
   ·exact Ow
   ·rintro rfl;rcases he with z|z
    ·exact Rc c b hc z
    ·rw[hc]at z;cases z;exact hb rfl
end
structure Un(fs ex:List Addr)(H H':Hp)(h h':Heap):Prop where
 keep:∀b o,h.get? b=some o->H b=none->b∉fs->b∉ex->h'.get? b=some o
 slot:∀b o,h.get? b=some o->H b=none->b∈fs->b∉ex->∃sl,h'.get? b=some {o with slots:=sl}
 free:∀b o,h.get? b=some o->H b=none->b∉ex->H' b=none
 there:∀b o,h.get? b=some o->b∉ex->∃o',h'.get? b=some o'
 km:∀b xs,H b=some (.tup xs)->H' b=some (.tup xs)
 kQ:∀b o u,H b=some (.cQ o u)->H' b=some (.cQ o u)
 lG:∀b ps,H b=some (.lT ps)->∃more,H' b=some (.lT (ps++more))
section
variable {fs Zh ex ex':List Addr}{H H1 H2:Hp}{h h1 h2 h':Heap}{a x e:Addr}{o:HO}
theorem Un.any (u:Un fs ex H H1 h h1){b:Addr}{ob:Obj}(q:h.get? b=some ob)(n:H b=none)(hx:b∉ex):∃sl,h1.get? b=some {ob with slots:=sl}:=by
 by_cases hb:b∈fs
 ·exact u.slot b ob q n hb hx
 ·exact⟨ob.slots,u.keep b ob q n hb hx⟩
theorem Un.kept (k:∀b u,h.get? b=some u->h'.get? b=some u):Un fs ex H H h h':=
 ⟨λ b ob q _ _ _=>k b ob q,λ b ob q _ _ _=>⟨ob.slots,k b ob q⟩,λ _ _ _ n _=>n,λ b ob q _=>⟨ob,k b ob q⟩,λ _ _ q=>q,λ _ _ _ q=>q,λ _ ps q=>⟨#[],by rw[q];simp⟩⟩
theorem Un.refl:Un fs ex H H h h:=Un.kept λ _ _ q=>q
theorem Un.laid (k:∀b u,h.get? b=some u->h'.get? b=some u)(hp:h.objs.size<=a)(hn:H a=none):Un fs ex H (upd H a o) h h' where
 keep:=λ b u q _ _ _=>k b u q
 slot:=λ b u q _ _ _=>⟨u.slots,k b u q⟩
 free:=λ b u q n _=>by rw[aG (D4 (p6 (D5 q) hp))];exact n
 there:=λ b u q _=>⟨u,k b u q⟩
 km:=λ b xs q=>by rw[aG (bJ q hn)];exact q
 kQ:=λ b u xs q=>by rw[aG (bJ q hn)];exact q
 lG:=λ b ps q=>⟨#[],by rw[aG (bJ q hn),q];simp⟩
theorem Un.write (mu:Sg (H x))(he:e=x\/H e=some (.own x))(k:∀b u,b≠e->h.get? b=some u->h'.get? b=some u)(Pk:∃u,h'.get? e=some u):Un fs ex H (upd H x o) h h':=by
 have hx:∀b,H b=none->b≠x:=λ b n z=>by subst z;rw[n]at mu;exact mu
 have hb:∀b,H b=none->b≠e:=λ b n z=>by
  subst z;rcases he with r|r
  ·exact hx b n r
  ·rw[n]at r;cases r
 have hm:∀b u,H b=some u->¬Sg (some u)->b≠x:=λ b u q nm z=>by subst z;rw[q]at mu;exact nm mu
 refine⟨λ b u q n _ _=>k b u (hb b n) q,λ b u q n _ _=>⟨u.slots,k b u (hb b n) q⟩,λ b u q n _=>by rw[aG (hx b n)];exact n,λ b u q _=>?_,
  λ b xs q=>by rw[aG (hm b _ q λ z=>z)];exact q,λ b u xs q=>by rw[aG (hm b _ q λ z=>z)];exact q,λ b ps q=>⟨#[],by rw[aG (hm b _ q λ z=>z),q];simp⟩⟩
 by_cases Ow:b=e
 ·subst Ow;exact Pk
 ·exact⟨u,k b u Ow q⟩
end
def SA(h:Heap)(H:Hp):List Addr:=(List.range h.objs.size).filter λ a=>(H a).isSome
def pb(h:Heap)(H:Hp):Heap:=PySem.W.hideAll h (SA h H)
theorem Bj(h:Heap)(H:Hp):(pb h H).objs.size=h.objs.size:=PySem.W.hideAll_size _ _
theorem Fd{h:Heap}{H:Hp}{b:Addr}{o:Obj}(e:h.get? b=some o)(n:H b=none):(pb h H).get? b=some o:=
 PySem.W.hideAll_get _ e λ hm=>by have q:(H b).isSome=true:=(mem_filter.mp hm).2;rw[n]at q;simp at q
theorem Jk{h:Heap}{H:Hp}{b:Addr}{o:Obj}(e:(pb h H).get? b=some o):h.get? b=some o/\H b=none:=by
 have e':h.get? b=some o:=PySem.W.of_hideAll (SA h H) e;refine⟨e',?_⟩;cases q:H b with
 |none=>rfl
 |some x=>have hm:b∈SA h H:=mem_filter.mpr ⟨mem_range.mpr (D5 e'),by simp[q]⟩;have z:(pb h H).get? b=none:=PySem.W.hideAll_none (SA h H) hm;rw[z]at e;cases e
structure Mod(K:J8)(mg:Str->Option Value)(base:Heap):Prop where
 Rm:K.In base
 glob:base.Ns mainGlobals mg
 blt:∃mb,base.Ns builtinsNs mb/\∀x:Str,x≠"__name__"->mb x=bootBuiltins x
 nolimit:base.NoLimit
structure Cx where
 prog:Program
 w:World
 K:J8
 mg:Str->Option Value
 base:Heap
 A:Around
 N:List Str
 s₀:Shared
 H₀:Hp
 env:Env
 outer:List Env
 stack:List Env
 ex:List Addr
 fn:Str->Bool
 calm:Bool
 pn:List (Addr×Obj)
 xe:Value->Shared->Prop
def sN(l:List Env):List Addr:=l.filterMap (·.frame)
abbrev Cx.fs (X:Cx):List Addr:=sN X.outer
def Lo(sc:Scope)(x:Str):Prop:=sc.names.lookup x=some .local\/sc.names.lookup x=some .cell\/sc.names.lookup x=some .free
def Loc(sc:Scope)(x:Str):Prop:=sc.names.lookup x=some .local\/sc.names.lookup x=some .cell
def Look(env:Env)(h:Heap)(m:Str->Option Value)(x:Str)(u:Value):Prop:=
 (env.kindOf x=some .local/\m x=some u)\/((env.kindOf x=some .cell\/env.kindOf x=some .free)/\∃c,env.cells.lookup x=some c/\h.IsCell c (some u))
structure Cx.Ok (X:Cx):Prop where
 mod:Mod X.K X.mg X.base
 kind:X.env.scope.kind=.function
 glob:X.env.globals=mainGlobals
 blt:X.env.builtins=builtinsNs
 above:X.s₀.heap.objs.size<=X.env.locals
 inj:∀x y c,X.env.cells.lookup x=some c->X.env.cells.lookup y=some c->x=y
 has:∀x,(X.env.kindOf x=some .cell\/X.env.kindOf x=some .free)->∃c,X.env.cells.lookup x=some c
 Pw:∀x c,X.fn x=true->X.env.cells.lookup x=some c->X.s₀.heap.objs.size<=c
 hd:X.calm=true->X.A.handled=none
 frames:X.A.frames=some X.stack
 SU:X.stack=X.outer\/(X.stack=X.env::X.outer/\X.env.frame=some X.env.locals)
 Xe:∀b∈X.ex,b≠X.env.locals/\∀x c,X.env.cells.lookup x=some c->c≠b
 bs:∀b o,X.base.get? b=some o->X.s₀.heap.get? b=some o/\X.H₀ b=none
 Bz:X.base.objs.size<=X.s₀.heap.objs.size
 AN:∀b o,X.base.get? b=some o->b∉X.ex
 JU:∀b∈X.ex,b∉X.fs
 iY:X.s₀.heap.FunFrames X.base X.outer
 JS:∀b∈X.fs,X.H₀ b=none
structure Inv(X:Cx)(pins:List (Addr×Obj))(σ:List (Option V))(H:Hp)(s:Shared):Prop where
 ok:X.Ok
 os:s.os=X.s₀.os
 bare:AllBare s.gens
 base:Un X.fs X.ex X.H₀ H X.s₀.heap s.heap
 loc:∃m,s.heap.Ns X.env.locals m/\∀(i:Nat) (x:Str) (v:V),X.N[i]?=some x->σ[i]?=some (some v)->Lo X.env.scope x->∃u,RelV v u/\Look X.env s.heap m x u
 cell:∀x c,X.env.cells.lookup x=some c->∃v,s.heap.IsCell c v
 free:H X.env.locals=none
 fH:∀x c,X.env.cells.lookup x=some c->H c=none
 pin:∀p∈X.pn++pins,s.heap.get? p.1=some p.2/\H p.1=none/\p.1≠X.env.locals/\p.1∉X.fs/\∀v,p.2.data≠.cell v
 bh:gj X.prog X.w H s.heap
 len:σ.length=X.N.length
section
variable {X:Cx}{pins:List (Addr×Obj)}{σ:List (Option V)}{H H':Hp}{s:Shared}{h':Heap}
theorem Cx.Ok.UJ (ok:X.Ok){b:Addr}{o:Obj}(e:X.base.get? b=some o):b∉X.fs:=λ hb=>by have:=(ok.iY.mem hb).1;rw[e]at this;cases this
theorem Inv.bs (I:Inv X pins σ H s):∀b o,X.base.get? b=some o->s.heap.get? b=some o/\H b=none:=λ b o e=>
 ⟨I.base.keep b o (I.ok.bs b o e).1 (I.ok.bs b o e).2 (I.ok.UJ e) (I.ok.AN b o e),I.base.free b o (I.ok.bs b o e).1 (I.ok.bs b o e).2 (I.ok.AN b o e)⟩
theorem Inv.bk (I:Inv X pins σ H s):∀b o,X.base.get? b=some o->s.heap.get? b=some o:=λ b o e=>(I.bs b o e).1
theorem Inv.mod (I:Inv X pins σ H s):Mod X.K X.mg X.base:=I.ok.mod
theorem Inv.oY (I:Inv X pins σ H s):X.K.In s.heap:=I.ok.mod.Rm.keeps I.bk
theorem Inv.lt (I:Inv X pins σ H s):X.env.locals < s.heap.objs.size:=let⟨_,hn,_⟩:=I.loc;hn.lt
theorem Inv.sz (I:Inv X pins σ H s):X.s₀.heap.objs.size<=s.heap.objs.size:=D8 I.ok.above (G4 I.lt)
theorem Inv.UI (I:Inv X pins σ H s){a:Addr}(h:s.heap.objs.size<=a):a∉X.fs:=λ hb=>by obtain⟨_,o,ho,_⟩:=I.ok.iY.mem hb;exact absurd (p6 (D5 ho) (D8 I.sz h)) (C8 _)
theorem Inv.Lm (I:Inv X pins σ H s):∀x c,X.env.cells.lookup x=some c->c≠X.env.locals:=λ x c e z=>by obtain⟨v,o,ho,hd⟩:=I.cell x c e;obtain⟨m,⟨o',es,ep,Bh,oO,_⟩,_⟩:=I.loc;rw[z,Bh]at ho;cases ho;rw[oO]at hd;cases hd
theorem Inv.iY (I:Inv X pins σ H s):s.heap.FunFrames X.base X.outer:=by
 have all:∀(l:List Env),(∀b∈sN l,b∈X.fs)->X.s₀.heap.FunFrames X.base l->s.heap.FunFrames X.base l:=by
  intro l
  induction l with
  |nil=>intro _ _;trivial
  |cons env r ih=>intro hs hl;obtain⟨hk,⟨L,o,hf,hn,ho,hd⟩,hr⟩:=hl;have hL:L∈X.fs:=hs L (by unfold sN;rw[n5,hf];exact n6);obtain⟨sl,e⟩:=I.base.slot L o ho (I.ok.JS L hL) hL λ z=>I.ok.JU L z hL;exact⟨hk,⟨L,_,hf,hn,e,hd⟩,ih (λ b hb=>hs b (by unfold sN;rw[n5,hf];exact k8 _ hb)) hr⟩
 exact all X.outer (λ _ hb=>hb) I.ok.iY
theorem Inv.stack (I:Inv X pins σ H s):s.heap.FunFrames X.base X.stack:=by
 rcases I.ok.SU with e|⟨e,hf⟩
 ·rw[e];exact I.iY
 ·rw[e];obtain⟨m,hn,_⟩:=I.loc;refine .cons (by rw[I.ok.kind];decide) hf hn ?_ I.iY;exact Heap.get?_none_of_le (D8 I.ok.Bz I.ok.above)
theorem Inv.mY (I:Inv X pins σ H s):∀b∈sN X.stack,b∈X.env.locals::X.fs:=λ b hb=>by
 rcases I.ok.SU with e|⟨e,hf⟩
 ·rw[e]at hb;exact k8 _ hb
 ·rw[e]at hb;unfold sN at hb;rw[n5,hf]at hb;exact hb
theorem Inv.qU (I:Inv X pins σ H s):∀b∈sN X.stack,H b=none:=λ b hb=>by
 rcases D1.mp (I.mY b hb)with e|hb
 ·rw[e];exact I.free
 ·obtain⟨_,o,ho,_⟩:=I.ok.iY.mem hb;exact I.base.free b o ho (I.ok.JS b hb) λ z=>I.ok.JU b z hb
theorem Inv.step {g':Array GenState}{t':Nat}{d':Drawn}{ch:List Addr}(I:Inv X pins σ H s) (GB:∀b∈ch,(b∈X.ex\/X.s₀.heap.objs.size<=b)/\b≠X.env.locals/\(∀x c,X.env.cells.lookup x=some c->c≠b)/\∀p∈X.pn++pins,p.1≠b) (keep:∀b o,b≠X.env.locals->b∉X.fs->b∉ch->s.heap.get? b=some o->H b=none->h'.get? b=some o) (slot:∀b o,b≠X.env.locals->b∈X.fs->b∉ch->s.heap.get? b=some o->H b=none->∃sl,h'.get? b=some {o with slots:=sl}) (free:∀b o,b∉ch->s.heap.get? b=some o->H b=none->H' b=none) (there:∀b o,b∉ch->s.heap.get? b=some o->∃o',h'.get? b=some o') (km:∀b xs,H b=some (.tup xs)->H' b=some (.tup xs)) (kQ:∀b o u,H b=some (.cQ o u)->H' b=some (.cQ o u)) (lG:∀b ps,H b=some (.lT ps)->∃more,H' b=some (.lT (ps++more))) (ns:∀m,s.heap.Ns X.env.locals m->h'.Ns X.env.locals m) (bh:gj X.prog X.w H' h') (hg:AllBare g'):Inv X pins σ H' {s with heap:=h',gens:=g',drawn:=d',toks:=t'}:=by
 have Wj:∀b o,X.s₀.heap.get? b=some o->b≠X.env.locals:=λ b o e=>D4 (p6 (D5 e) I.ok.above);have S5:∀b o,X.s₀.heap.get? b=some o->b∉X.ex->b∉ch:=λ b o e hx hb=>by
  rcases(GB b hb).1 with z|z
  ·exact hx z
  ·exact absurd (p6 (D5 e) z) (C8 _)
 have cellK:∀x c,X.env.cells.lookup x=some c->∀v,s.heap.IsCell c v->h'.IsCell c v:=λ x c e v ⟨o,ho,hd⟩=>by
  have Rg:c∉ch:=λ z=>(GB c z).2.2.1 x c e rfl;by_cases hc:c∈X.fs
  ·obtain⟨sl,q⟩:=slot c o (I.Lm x c e) hc Rg ho (I.fH x c e);exact⟨_,q,hd⟩
  ·exact⟨o,keep c o (I.Lm x c e) hc Rg ho (I.fH x c e),hd⟩
 refine⟨I.ok,I.os,hg,⟨λ b o e n hb hx=>?_,λ b o e n hb hx=>?_,λ b o e n hx=>?_,λ b o e hx=>?_,λ b xs e=>km b xs (I.base.km b xs e),λ b o xs e=>kQ b o xs (I.base.kQ b o xs e),λ b ps e=>?_⟩,?_,λ x c e=>?_,?_,λ x c e=>?_,λ p hp=>?_,bh,I.len⟩
 ·exact keep b o (Wj b o e) hb (S5 b o e hx) (I.base.keep b o e n hb hx) (I.base.free b o e n hx)
 ·obtain⟨sl,e1⟩:=I.base.slot b o e n hb hx;obtain⟨Hk,e2⟩:=slot b _ (Wj b o e) hb (S5 b o e hx) e1 (I.base.free b o e n hx);exact⟨Hk,e2⟩
 ·obtain⟨o',e1⟩:=I.base.there b o e hx;exact free b o' (S5 b o e hx) e1 (I.base.free b o e n hx)
 ·obtain⟨o',e1⟩:=I.base.there b o e hx;exact there b o' (S5 b o e hx) e1
 ·obtain⟨m1,e1⟩:=I.base.lG b ps e;obtain⟨m2,e2⟩:=lG b _ e1;exact⟨m1++m2,by rw[e2,Array.append_assoc]⟩
 ·obtain⟨m,hn,hl⟩:=I.loc;refine⟨m,ns m hn,λ i x v e1 e2 e3=>?_⟩;obtain⟨u,r,l⟩:=hl i x v e1 e2 e3;refine⟨u,r,?_⟩;rcases l with l|⟨k,c,e,z⟩
  ·exact .inl l
  ·exact .inr ⟨k,c,e,cellK x c e _ z⟩
 ·obtain⟨v,z⟩:=I.cell x c e;exact⟨v,cellK x c e v z⟩
 ·obtain⟨m,⟨o,_,_,ho,_⟩,_⟩:=I.loc;exact free _ o (λ z=>(GB _ z).2.1 rfl) ho I.free
 ·obtain⟨v,o,ho,hd⟩:=I.cell x c e;exact free c o (λ z=>(GB c z).2.2.1 x c e rfl) ho (I.fH x c e)
 ·obtain⟨e,n,ne,nf,d⟩:=I.pin p hp;have Rg:p.1∉ch:=λ z=>(GB p.1 z).2.2.2 p hp rfl;exact⟨keep p.1 p.2 ne nf Rg e n,free p.1 p.2 Rg e n,ne,nf,d⟩
theorem Inv.un {t':Nat}(I:Inv X pins σ H s)(u:Un X.fs [] H H' s.heap h')(bh:gj X.prog X.w H' h'):Inv X pins σ H' {s with heap:=h',toks:=t'}:=by
 obtain⟨m,⟨o,es,ep,ho,r⟩,_⟩:=id I.loc;obtain⟨sl,hL⟩:=u.any ho I.free (by simp);exact I.step (g':=s.gens) (d':=s.drawn) (ch:=[]) (λ _ z=>nomatch z) (λ b o _ hb _ e n=>u.keep b o e n hb (by simp)) (λ b o _ hb _ e n=>u.slot b o e n hb (by simp)) (λ b o _ e n=>u.free b o e n (by simp)) (λ b o _ e=>u.there b o e (by simp)) u.km u.kQ u.lG (λ m' hm=>by
  obtain⟨o',es',VL,Bh,r'⟩:=hm;rw[ho]at Bh;cases Bh;exact⟨_,es',VL,hL,r'⟩) bh I.bare
theorem Inv.call {g':Array GenState}{t':Nat}{d':Drawn}{ch:List Addr}(I:Inv X pins σ H s)(u:Un (sN X.stack) ch H H' s.heap h')(bh:gj X.prog X.w H' h')(hg:AllBare g') (GB:∀b∈ch,(b∈X.ex\/X.s₀.heap.objs.size<=b)/\b≠X.env.locals/\(∀x c,X.env.cells.lookup x=some c->c≠b)/\∀p∈X.pn++pins,p.1≠b):Inv X pins σ H' {s with heap:=h',gens:=g',drawn:=d',toks:=t'}:=by
 obtain⟨m,⟨o,es,ep,ho,r⟩,_⟩:=id I.loc;obtain⟨sl,hL⟩:=u.any ho I.free λ z=>(GB _ z).2.1 rfl;exact I.step (ch:=ch) GB (λ b o hL hb hc e n=>u.keep b o e n (λ z=>(D1.mp (I.mY b z)).elim hL hb) hc) (λ b o _ _ hc e n=>u.any e n hc) (λ b o hc e n=>u.free b o e n hc) (λ b o hc e=>u.there b o e hc) u.km u.kQ u.lG (λ m' hm=>by
  obtain⟨o',es',VL,Bh,r'⟩:=hm;rw[ho]at Bh;cases Bh;exact⟨_,es',VL,hL,r'⟩) bh hg
theorem Inv.turned {t':Nat}{it:Addr}(I:Inv X pins σ H s)(k:∀b o,b≠it->s.heap.get? b=some o->h'.get? b=some o)(hn:H it=none)(hL:it≠X.env.locals) (h1:it∈X.ex\/X.s₀.heap.objs.size<=it) (h2:∀x c,X.env.cells.lookup x=some c->c≠it) (h3:∀p∈X.pn++pins,p.1≠it):Inv X pins σ H {s with heap:=h',toks:=t'}:=by
 have Rf:∀b u,H b=some u->b≠it:=λ b u e z=>by rw[z,hn]at e;cases e
 refine I.step (g':=s.gens) (d':=s.drawn) (ch:=[it]) (λ b hb=>?_) (λ b o _ _ hc e _=>k b o (λ z=>hc (by simp[z])) e) (λ b o _ _ hc e _=>⟨o.slots,k b o (λ z=>hc (by simp[z])) e⟩) (λ _ _ _ _ n=>n)
  (λ b o hc e=>⟨o,k b o (λ z=>hc (by simp[z])) e⟩) (λ _ _ e=>e) (λ _ _ _ e=>e) (λ b ps e=>⟨#[],by rw[e];simp⟩) (λ m hm=>?_) (λ b u e=>?_) I.bare
 ·have e:b=it:=by simpa using hb
  subst e;exact⟨h1,hL,h2,h3⟩
 ·obtain⟨o,es,ep,ho,r⟩:=hm;exact⟨o,es,ep,k _ o (J5 hL) ho,r⟩
 ·refine(I.bh b u e).ko (λ c v hc q=>k c v ?_ q) (λ _ q=>q) λ _ _ q=>q;rcases hc with z|z
  ·rw[z];exact Rf b u e
  ·exact Rf c _ z
theorem Inv.tok (I:Inv X pins σ H s)(t:Nat):Inv X pins σ H {s with toks:=t}:=I.un (h':=s.heap) (t':=t) Un.refl I.bh
theorem Inv.kept {t':Nat}(I:Inv X pins σ H s)(k:∀b u,s.heap.get? b=some u->h'.get? b=some u):Inv X pins σ H {s with heap:=h',toks:=t'}:=I.un (Un.kept k) (I.bh.kept k)
theorem Inv.laid {a:Addr}{o:HO}{t':Nat}(I:Inv X pins σ H s)(k:∀b u,s.heap.get? b=some u->h'.get? b=some u)(hp:s.heap.objs.size<=a)(new:bq X.prog X.w (upd H a o) h' a o):Inv X pins σ (upd H a o) {s with heap:=h',toks:=t'}:=I.un (Un.laid k hp (I.bh.fresh hp)) (I.bh.laid k hp new)
theorem Inv.write {x e:Addr}{o:HO}{t':Nat}(I:Inv X pins σ H s)(mu:Sg (H x))(he:e=x\/H e=some (.own x))(k:∀b u,b≠e->s.heap.get? b=some u->h'.get? b=some u)(Pk:∃u,h'.get? e=some u) (new:bq X.prog X.w (upd H x o) h' x o):Inv X pins σ (upd H x o) {s with heap:=h',toks:=t'}:=I.un (Un.write mu he k Pk) (I.bh.write mu he k Pk new)
theorem Inv.weak {σ':List (Option V)}(I:Inv X pins σ H s)(hl:σ'.length=σ.length)(w:∀(i:Nat) v,σ'[i]?=some (some v)->σ[i]?=some (some v)):Inv X pins σ' H s:=
 ⟨I.ok,I.os,I.bare,I.base,let⟨m,hn,vw⟩:=I.loc;⟨m,hn,λ i x v e1 e2 e3=>vw i x v e1 (w i v e2) e3⟩,I.cell,I.free,I.fH,I.pin,I.bh,hl.trans I.len⟩
theorem Inv.jH {pins':List (Addr×Obj)}(I:Inv X pins σ H s)(h:∀p∈pins',s.heap.get? p.1=some p.2/\H p.1=none/\p.1≠X.env.locals/\p.1∉X.fs/\∀v,p.2.data≠.cell v):Inv X pins' σ H s:=
 ⟨I.ok,I.os,I.bare,I.base,I.loc,I.cell,I.free,I.fH,λ p hp=>(B5.mp hp).elim (λ z=>I.pin p (l0 _ z)) (h p),I.bh,I.len⟩
theorem gK{N:List Str}(hN:N.Nodup){i j:Nat}{x:Str}(a:N[i]?=some x)(b:N[j]?=some x):i=j:=by obtain⟨h1,e1⟩:=g9.mp a;obtain⟨h2,e2⟩:=g9.mp b;exact(getElem_inj hN).mp (e1.trans e2.symm)
theorem pV{M:Model}{A:Around}{E:Value->Shared->Prop}{i:Nat}{x:Str}{v:V}{u:Value}{Q:Unit->Shared->Prop}(I:Inv X pins σ H s)(hN:X.N.Nodup)(hi:X.N[i]?=some x)(hx:Loc X.env.scope x)(r:RelV v u) (h:∀s',Inv X pins (σ.set i (some v)) H s'->(∃a,Heap.SameBut a s.heap s'.heap/\(a=X.env.locals\/X.env.cells.lookup x=some a))->Q () s') (hf:X.fn x=true\/X.env.scope.names.lookup x=some .local:=by first|exact .inl rfl|exact .inr rfl|assumption):wpAny M A (storeName X.env x u) Q E s:=by
 obtain⟨m,hn,hl⟩:=id I.loc;have Vv:(X.env.scope.kind==.class||(X.env.scope.kind==.module&&X.env.locals != X.env.globals))=false:=by rw[I.ok.kind];rfl
 have WN:i < σ.length:=by rw[I.len];exact(g9.mp hi).1
 have Lm:=I.Lm;have tracked:∀{a:Addr} {h':Heap},(∃o,s.heap.get? a=some o/\H a=none)->Heap.SameBut a s.heap h'->gj X.prog X.w H h':=λ{a h'} ha hs b ob e=>by
  obtain⟨_,_,K'⟩:=ha;refine(I.bh b ob e).ko (λ c w' hc q=>(hs.2 c ?_).trans q) (λ _ q=>q) λ _ _ q=>q;rintro rfl;rcases hc with rfl|hc
  ·rw[K']at e;cases e
  ·rw[K']at hc;cases hc
 rcases hx with hk|hk
 ·refine wpAny_storeName_local hk hn (λ h' YA hs=>?_) Vv;obtain⟨oL,_,_,JM,_⟩:=id hn;refine h _ ⟨I.ok,I.os,I.bare,⟨λ b o e n hb hx=>?_,λ b o e n hb hx=>?_,I.base.free,λ b o e hx=>?_,I.base.km,I.base.kQ,I.base.lG⟩,⟨_,YA,λ j y v' e1 e2 e3=>?_⟩,λ y c e=>?_,I.free,I.fH,λ p hp=>?_,tracked ⟨oL,JM,I.free⟩ hs,by simpa using I.len⟩ ⟨_,hs,.inl rfl⟩
  ·exact(hs.2 b (D4 (p6 (D5 e) I.ok.above))).trans (I.base.keep b o e n hb hx)
  ·obtain⟨sl,e1⟩:=I.base.slot b o e n hb hx;exact⟨sl,(hs.2 b (D4 (p6 (D5 e) I.ok.above))).trans e1⟩
  ·obtain⟨o',e1⟩:=I.base.there b o e hx;exact⟨o',(hs.2 b (D4 (p6 (D5 e) I.ok.above))).trans e1⟩
  ·by_cases hj:j=i
   ·subst hj;rw[hi]at e1;cases e1;rw[j6 WN]at e2;cases e2;exact⟨u,r,.inl ⟨hk,by simp⟩⟩
   ·rw[l6 (J5 hj)]at e2;obtain⟨u',r',q⟩:=hl j y v' e1 e2 e3;refine⟨u',r',?_⟩;rcases q with⟨k,e⟩|⟨k,c,e,z⟩
    ·refine .inl ⟨k,?_⟩;have:y≠x:=λ e=>hj (gK hN e1 (e▸hi));simp[this,e]
    ·exact .inr ⟨k,c,e,z.sameBut hs (Lm y c e)⟩
  ·obtain⟨w',z⟩:=I.cell y c e;exact⟨w',z.sameBut hs (Lm y c e)⟩
  ·obtain⟨e,n,ne,nf,d⟩:=I.pin p hp;exact⟨(hs.2 p.1 ne).trans e,n,ne,nf,d⟩
 ·have GA:X.fn x=true:=by
   rcases hf with z|z
   ·exact z
   ·rw[z]at hk;cases hk
  obtain⟨c,hc⟩:=I.ok.has x (.inl hk);obtain⟨w',z⟩:=I.cell x c hc;refine wpAny_storeName_cell I.ok.kind hk hc z (λ h' Ou hs=>?_);obtain⟨oc,WB,Vd⟩:=id z;refine h {s with heap:=h'} ⟨I.ok,I.os,I.bare,⟨λ b o e n hb hx=>?_,λ b o e n hb hx=>?_,I.base.free,λ b o e hx=>?_,I.base.km,I.base.kQ,I.base.lG⟩,⟨m,hn.sameBut hs (J5 (Lm x c hc)),λ j y v' e1 e2 e3=>?_⟩,λ y c' e=>?_,I.free,I.fH,λ p hp=>?_,tracked ⟨oc,WB,I.fH x c hc⟩ hs,by simpa using I.len⟩ ⟨c,hs,.inr hc⟩
  ·exact(hs.2 b (D4 (p6 (D5 e) (I.ok.Pw x c GA hc)))).trans (I.base.keep b o e n hb hx)
  ·obtain⟨sl,e1⟩:=I.base.slot b o e n hb hx;exact⟨sl,(hs.2 b (D4 (p6 (D5 e) (I.ok.Pw x c GA hc)))).trans e1⟩
  ·obtain⟨o',e1⟩:=I.base.there b o e hx;exact⟨o',(hs.2 b (D4 (p6 (D5 e) (I.ok.Pw x c GA hc)))).trans e1⟩
  ·by_cases hj:j=i
   ·subst hj;rw[hi]at e1;cases e1;rw[j6 WN]at e2;cases e2;exact⟨u,r,.inr ⟨.inl hk,c,hc,Ou⟩⟩
   ·rw[l6 (J5 hj)]at e2;obtain⟨u',r',q⟩:=hl j y v' e1 e2 e3;refine⟨u',r',?_⟩;rcases q with q|⟨k,c',e,z'⟩
    ·exact .inl q
    ·refine .inr ⟨k,c',e,z'.sameBut hs ?_⟩;rintro rfl;exact hj (gK hN e1 (I.ok.inj _ _ _ e hc▸hi))
  ·by_cases La:c'=c
   ·subst La;exact⟨_,Ou⟩
   ·obtain⟨w2,z2⟩:=I.cell y c' e;exact⟨w2,z2.sameBut hs La⟩
  ·obtain⟨e,n,ne,nf,d⟩:=I.pin p hp;refine⟨(hs.2 p.1 ?_).trans e,n,ne,nf,d⟩;intro q;rw[q,WB]at e;have q':oc=p.2:=A9 e;exact d w' (by rw[<- q'];exact Vd)
theorem mX{M:Model}{A:Around}{E:Value->Shared->Prop}{i:Nat}{x:Str}{v:V}{u:Value}{Q:Unit->Shared->Prop}(I:Inv X pins σ H s)(hN:X.N.Nodup)(hi:X.N[i]?=some x)(hx:Loc X.env.scope x)(r:RelV v u) (h:∀s',Inv X pins (σ.set i (some v)) H s'->Q () s') (hf:X.fn x=true\/X.env.scope.names.lookup x=some .local:=by first|exact .inl rfl|exact .inr rfl|assumption):wpAny M A (storeName X.env x u) Q E s:=
 pV I hN hi hx r (λ s' I' _=>h s' I') hf
theorem Inv.R9 {s':Shared}{ch:List Addr}(I:Inv X pins σ H s)(ho:s'.os=s.os)(u:Un (sN X.stack) ch H H' s.heap s'.heap)(bh:gj X.prog X.w H' s'.heap)(hg:AllBare s'.gens) (GB:∀b∈ch,(b∈X.ex\/X.s₀.heap.objs.size<=b)/\b≠X.env.locals/\(∀x c,X.env.cells.lookup x=some c->c≠b)/\∀p∈X.pn++pins,p.1≠b):Inv X pins σ H' s':=by obtain⟨h',g',d',t',o'⟩:=s';have e:o'=s.os:=ho;subst e;exact I.call (g':=g') (t':=t') (d':=d') u bh hg GB
end
abbrev XK:=Value->Option Addr->Hp->Prop
abbrev St:=List (Option V)
abbrev VK:=V->Hp->Prop
abbrev TE:=St->Hp->VK->Prop
abbrev TT:=St->Hp->(Bool->Hp->Prop)->Prop
abbrev TA:=St->Hp->(List V->Hp->Prop)->Prop
structure Ends where
 nx:St->Hp->Prop
 rt:VK
 bk:St->Hp->Prop:=λ _ _=>False
 ct:St->Hp->Prop:=λ _ _=>False
abbrev TS:=Ends->St->Hp->Prop
def EP(X:Cx)(pins:List (Addr×Obj))(σ:St)(Q:VK)(u:Value)(s':Shared):Prop:=∃v H',Inv X pins σ H' s'/\RelV v u/\Q v H'
def TP(X:Cx)(pins:List (Addr×Obj))(σ:St)(Q:Bool->Hp->Prop)(b:Bool)(s':Shared):Prop:=∃H',Inv X pins σ H' s'/\Q b H'
def AP(X:Cx)(pins:List (Addr×Obj))(σ:St)(Q:List V->Hp->Prop)(us:List Value)(s':Shared):Prop:=∃vs H',Inv X pins σ H' s'/\Vals vs us/\Q vs H'
def SP(X:Cx)(pins:List (Addr×Obj))(D:Ends)(f:Flow)(s':Shared):Prop:=
 match f with
 | .next=>∃σ' H',Inv X pins σ' H' s'/\D.nx σ' H'
 | .brk=>∃σ' H',Inv X pins σ' H' s'/\D.bk σ' H'
 | .cont=>∃σ' H',Inv X pins σ' H' s'/\D.ct σ' H'
 | .ret u=>∃v σ' H',Inv X pins σ' H' s'/\RelV v u/\D.rt v H'
def PE(X:Cx)(e:Expr)(t:TE):Prop:=
 ∀(pins:List (Addr×Obj)) (s:Shared) (σ:St) (H:Hp) (Q:VK),Inv X pins σ H s->t σ H Q->wpAny (model X.prog X.w) X.A (eval e X.env) (EP X pins σ Q) X.xe s
def PT(X:Cx)(e:Expr)(t:TT):Prop:=
 ∀(pins:List (Addr×Obj)) (s:Shared) (σ:St) (H:Hp) (Q:Bool->Hp->Prop),Inv X pins σ H s->t σ H Q->wpAny (model X.prog X.w) X.A (isTrue e X.env (eval e X.env)) (TP X pins σ Q) X.xe s
def PW(X:Cx)(e:Expr)(t:TT):Prop:=
 ∀(whole:Sem Value) (pins:List (Addr×Obj)) (s:Shared) (σ:St) (H:Hp) (Q:Bool->Hp->Prop),Inv X pins σ H s->t σ H Q->wpAny (model X.prog X.w) X.A (isTrue e X.env whole) (TP X pins σ Q) X.xe s
theorem PW.pt {X:Cx}{e:Expr}{t:TT}(h:PW X e t):PT X e t:=h _
def PA(X:Cx)(es:List Expr)(t:TA):Prop:=
 ∀(pos:Pos) (pins:List (Addr×Obj)) (s:Shared) (σ:St) (H:Hp) (Q:List V->Hp->Prop),Inv X pins σ H s->t σ H Q->wpAny (model X.prog X.w) X.A (spliced (backTo pos (starEach es X.env))) (AP X pins σ Q) X.xe s
def PS(X:Cx)(st:Stmt)(t:TS):Prop:=
 ∀(pins:List (Addr×Obj)) (s:Shared) (σ:St) (H:Hp) (D:Ends),Inv X pins σ H s->t D σ H->wpAny (model X.prog X.w) X.A (exec st X.env) (SP X pins D) X.xe s
def vj(X:Cx)(st:List Stmt)(t:TS):Prop:=
 ∀(pins:List (Addr×Obj)) (s:Shared) (σ:St) (H:Hp) (D:Ends),Inv X pins σ H s->t D σ H->wpAny (model X.prog X.w) X.A (execs st X.env) (SP X pins D) X.xe s
theorem cT{α:Type}{t:Sem α}{Q Q':α->Shared->Prop}{M:Model}{A:Around}{E:Value->Shared->Prop}{s:Shared}(h:wpAny M A t Q E s)(hQ:∀a s,Q a s->Q' a s):wpAny M A t Q' E s:=J1 h hQ λ _ _ x=>x
section
variable {X:Cx}
def TU(i:Nat):TE:=λ σ H Q=>∃v,σ[i]?=some (some v)/\Q v H
def tC(v:V):TE:=λ _ H Q=>Q v H
theorem DL{i:Nat}{x:Str}{pos:Pos}(hN:X.N[i]?=some x)(hv:Lo X.env.scope x)(hd:(x==("__debug__":Str))=false:=by decide)(hcd:(x==("__classdict__":Str))=false:=by decide):PE X (.Name x pos) (TU i):=by
 intro pins s σ H Q I h;obtain⟨v,e,h⟩:=h;obtain⟨m,hn,hl⟩:=I.loc;obtain⟨u,r,l⟩:=hl i x v hN e hv;have fin:EP X pins σ Q u s:=⟨v,H,I,r,h⟩;rcases l with⟨hk,hm⟩|⟨hk,c,hc,yV⟩
 ·exact wpAny_Name (wpAny_loadName_local I.ok.kind hk hn hm fin) hd
 ·rcases hk with hk|hk
  ·exact wpAny_Name (wpAny_loadName_cell I.ok.kind hk hc yV fin) hd
  ·exact wpAny_Name (wpAny_loadName_free I.ok.kind hk hc yV fin hcd) hd
theorem Nl{i j pos}:PE X (.Constant (.int i) j pos) (tC (.int i)):=λ _ _ _ H _ I h=>wpAny_Constant_int ⟨.int i,H,I.tok _,⟨_,rfl⟩,h⟩
theorem QY{b j pos}:PE X (.Constant (.bool b) j pos) (tC (.bl b)):=λ _ _ _ H _ I h=>Constant_bool ⟨.bl b,H,I,rfl,h⟩
theorem Ni{j pos}:PE X (.Constant .none j pos) (tC .bx):=λ _ _ _ H _ I h=>Constant_none ⟨.bx,H,I,rfl,h⟩
theorem Ng{x j pos}:PE X (.Constant (.str x) j pos) (tC (.str x)):=λ _ _ _ H _ I h=>Calls.Constant_str ⟨.str x,H,I.tok _,⟨_,rfl⟩,h⟩
def Gl(X:Cx)(x:Str):Prop:=X.env.kindOf x=some .globalImplicit
theorem yD{E:Value->Shared->Prop}{pins:List (Addr×Obj)}{s:Shared}{σ:St}{H:Hp}{x:Str}{u:Value}{pos:Pos}{Q:Value->Shared->Prop}(I:Inv X pins σ H s)(hg:Gl X x)(hm:X.mg x=some u)(h:Q u s) (hd:(x==("__debug__":Str))=false:=by decide):wpAny (model X.prog X.w) X.A (eval (.Name x pos) X.env) Q E s:=
 Calls.Name_function_global I.ok.kind hg (Calls.loadGlobal_global (by rw[I.ok.glob];exact I.mod.glob.keeps I.bk) hm h) hd
theorem fj{E:Value->Shared->Prop}{pins:List (Addr×Obj)}{s:Shared}{σ:St}{H:Hp}{x:Str}{u:Value}{pos:Pos}{Q:Value->Shared->Prop}(I:Inv X pins σ H s)(hg:Gl X x)(hm:X.mg x=none)(hv:bootBuiltins x=some u)(h:Q u s) (hn:x≠"__name__":=by decide) (hd:(x==("__debug__":Str))=false:=by decide):wpAny (model X.prog X.w) X.A (eval (.Name x pos) X.env) Q E s:=by obtain⟨mb,h1,h2⟩:=I.mod.blt;exact Calls.Name_function_global I.ok.kind hg (Calls.loadGlobal_builtin (by rw[I.ok.glob];exact I.mod.glob.keeps I.bk) hm (by rw[I.ok.blt];exact h1.keeps I.bk) ((h2 x hn).trans hv) h) hd
theorem IP{x:Str}{v:V}{u:Value}{pos:Pos}(hg:Gl X x)(hm:X.mg x=none)(hv:bootBuiltins x=some u)(r:RelV v u)(hn:x≠"__name__":=by decide)(hd:(x==("__debug__":Str))=false:=by decide):PE X (.Name x pos) (tC v):=
 λ _ _ _ H _ I h=>fj I hg hm hv ⟨v,H,I,r,h⟩ hn hd
variable {a b:Expr}{ta tb:TE}{pos:Pos}
def tB(t:TE):TT:=λ σ H Q=>t σ H λ x H1=>∃c,x=.bl c/\Q c H1
theorem MU{e:Expr}{t:TE}(h:PE X e t)(he:∀whole,isTrue e X.env whole=(do let v <- whole;standAt e.pos;holding [v] (truthy v)):=by intro _;rfl):PT X e (tB t):=by intro pins s σ H Q I hw;refine isTrue_plain (cT (h pins s σ H _ I hw) λ v s1 ⟨x,H1,I1,r1,q1⟩=>?_) (he _);obtain⟨d,rfl,q⟩:=q1;cases r1;exact wpAny_truthy_bool ⟨H1,I1,q⟩
variable {tA SF:TT}{rest:List Expr}
def T9(t u:TT):TT:=λ σ H Q=>t σ H λ c H1=>if c=true then u σ H1 Q else Q false H1
def XE(t u:TT):TT:=λ σ H Q=>t σ H λ c H1=>if c=true then Q true H1 else u σ H1 Q
def TZ(t:TT):TT:=λ σ H Q=>t σ H λ c H1=>Q (!c) H1
theorem Ir(ha:PT X a tA):PW X (.BoolOp .And [a] pos) tA:=by
 intro wh pins s σ H Q I h;refine isTrue_and (cT (ha pins s σ H Q I h) λ c s1 e=>?_);cases c with
 |true=>exact isTrue_and_nil e
 |false=>exact e
theorem MR(ha:PT X a tA):PW X (.BoolOp .Or [a] pos) tA:=by
 intro wh pins s σ H Q I h;refine isTrue_or (cT (ha pins s σ H Q I h) λ c s1 e=>?_);cases c with
 |false=>exact isTrue_or_nil e
 |true=>exact e
theorem MT(ha:PT X a tA)(hb:PW X (.BoolOp .And (b::rest) pos) SF):PW X (.BoolOp .And (a::b::rest) pos) (T9 tA SF):=by
 intro wh pins s σ H Q I h;refine isTrue_and (cT (ha pins s σ H _ I h) λ c s1 ⟨H1,I1,q1⟩=>?_);cases c with
 |true=>exact hb wh pins s1 σ H1 Q I1 q1
 |false=>exact⟨H1,I1,q1⟩
theorem QM(ha:PT X a tA)(hb:PW X (.BoolOp .Or (b::rest) pos) SF):PW X (.BoolOp .Or (a::b::rest) pos) (XE tA SF):=by
 intro wh pins s σ H Q I h;refine isTrue_or (cT (ha pins s σ H _ I h) λ c s1 ⟨H1,I1,q1⟩=>?_);cases c with
 |true=>exact⟨H1,I1,q1⟩
 |false=>exact hb wh pins s1 σ H1 Q I1 q1
theorem MV(ha:PT X a tA):PT X (.UnaryOp .Not a pos) (TZ tA):=by intro pins s σ H Q I h;exact isTrue_not (ha pins s σ H (λ c H1=>Q (!c) H1) I h)
def PZ(ta tb:TE):TE:=λ σ H Q=>ta σ H λ x H1=>∃c,x=.bl c/\if c=true then tb σ H1 Q else Q (.bl false) H1
theorem Nh{op}{t:TE}(h:PE X a t):PE X (.BoolOp op [a] pos) t:=λ pins s σ H Q I hw=>BoolOp_one (h pins s σ H Q I hw)
theorem Np(ha:PE X a ta)(hb:PE X (.BoolOp .And (b::rest) pos) tb):PE X (.BoolOp .And (a::b::rest) pos) (PZ ta tb):=by
 intro pins s σ H Q I h;refine BoolOp_and (cT (ha pins s σ H _ I h) λ v s1 ⟨x,H1,I1,r1,q1⟩=>?_);obtain⟨c,rfl,q1⟩:=q1;cases r1;refine wpAny_truthy_bool ?_;cases c with
 |true=>exact hb pins s1 σ H1 Q I1 q1
 |false=>exact⟨.bl false,H1,I1,rfl,q1⟩
end
def eW(K:J8)(H:Hp)(a:Addr)(xs:List V):Prop:=
 Rd H a (.lst xs)\/
  ∃(o:Obj) (ax:Array Value) (n:Nat),K.lookup a=some o/\o.cls=.type "list"/\o.dict=none/\o.data=.seq ax n/\ax.size<=sizeLine/\Vals xs ax.toList
def fJ(K:J8)(H:Hp)(a:Addr)(xs:List V):Prop:=
 Rd H a (.tup xs)\/
  ∃(o:Obj) (ax:Array Value) (n:Nat),K.lookup a=some o/\o.cls=.type "tuple"/\o.data=.seq ax n/\ax.size<=sizeLine/\Vals xs ax.toList
def VU:Value->Option V
 | .none=>some .bx
 | .bool b=>some (.bl b)
 | .int i _=>some (.int i)
 | .str x _=>some (.str x)
 | .bytes b _=>some (.F_ b)
 | .float b _=>some (.Pq b)
 | .ref a=>some (.ref a)
 | .type n=>some (.ty n)
 |_=>none
theorem RelV.abs {x:V}{u:Value}(r:RelV x u):VU u=some x:=by
 cases x with
 |bx=>cases r;rfl
 |bl _=>cases r;rfl
 |int _=>obtain⟨t,rfl⟩:=r;rfl
 |str _=>obtain⟨t,rfl⟩:=r;rfl
 |F_ _=>obtain⟨t,rfl⟩:=r;rfl
 |Pq _=>obtain⟨t,rfl⟩:=r;rfl
 |ref _=>cases r;rfl
 |ty _=>cases r;rfl
theorem RelV.inj {x y:V}{u:Value}(r:RelV x u)(q:RelV y u):x=y:=A9 (r.abs.symm.trans q.abs)
theorem Vals.inj:∀{xs ys:List V} {us:List Value},Vals xs us->Vals ys us->xs=ys
 |_,_,_,.nil,.nil=>rfl
 |_,_,_,.cons r t,.cons r' t'=>by rw[r.inj r',Vals.inj t t']
section
variable {X:Cx}{pins:List (Addr×Obj)}{σ:St}{H:Hp}{s:Shared}{a:Addr}{xs ys:List V}
theorem eW.of {K:J8}(h:H a=some (.lst xs)):eW K H a xs:=.inl (.inl h)
theorem fJ.of {K:J8}(h:H a=some (.tup xs)):fJ K H a xs:=.inl (.inl h)
theorem Inv.list (I:Inv X pins σ H s)(h:eW X.K H a xs):∃ax:List Value,Vals xs ax/\PlainL s.heap a ax.toArray/\xs.length<=sizeLine:=by
 rcases h with h|⟨o,ax,n,hk,hc,hd,hs,hz,r⟩
 ·obtain⟨z,ax,n,r,e⟩:=h.ok I.bh;exact⟨ax,r,⟨_,n,e,rfl,rfl,rfl⟩,z⟩
 ·refine⟨ax.toList,r,⟨o,n,I.oY a o hk,hc,hd,by simpa using hs⟩,?_⟩;have e:=r.length;simp only[m7]at e;omega
theorem Inv.tuple (I:Inv X pins σ H s)(h:fJ X.K H a xs):∃ax:List Value,Vals xs ax/\IsTup s.heap a ax.toArray/\xs.length<=sizeLine:=by
 rcases h with h|⟨o,ax,n,hk,hc,hs,hz,r⟩
 ·obtain⟨z,ax,r,p⟩:=h.ok I.bh;exact⟨ax,r,p,z⟩
 ·refine⟨ax.toList,r,⟨o,I.oY a o hk,hc,n,by simpa using hs⟩,?_⟩;have e:=r.length;simp only[m7]at e;omega
theorem Inv.uf (I:Inv X pins σ H s)(h:eW X.K H a xs)(h':eW X.K H a ys):xs=ys:=by
 obtain⟨ax,r,⟨o,n,e,_,_,d⟩,_⟩:=I.list h;obtain⟨its',r',⟨o',n',e',_,_,d'⟩,_⟩:=I.list h';rw[e]at e';cases e';rw[d]at d';injection d' with d1 _
 have:ax=its':=by simpa using J4 Array.toList d1
 subst this;exact r.inj r'
theorem Inv.pO (I:Inv X pins σ H s)(h:fJ X.K H a xs)(h':fJ X.K H a ys):xs=ys:=by
 obtain⟨ax,r,⟨o,e,_,n,d⟩,_⟩:=I.tuple h;obtain⟨its',r',⟨o',e',_,n',d'⟩,_⟩:=I.tuple h';rw[e]at e';cases e';rw[d]at d';injection d' with d1 _
 have:ax=its':=by simpa using J4 Array.toList d1
 subst this;exact r.inj r'
end
abbrev Cx.oR (X:Cx)(E:Value->Shared->Prop):Cx:={X with xe:=E}
abbrev Cx.Jl (X:Cx):Cx:=X.oR λ _ _=>False
theorem Cx.Ok.oR {X:Cx}(ok:X.Ok)(E:Value->Shared->Prop):(X.oR E).Ok:=
 ⟨ok.mod,ok.kind,ok.glob,ok.blt,ok.above,ok.inj,ok.has,ok.Pw,ok.hd,ok.frames,ok.SU,ok.Xe,ok.bs,ok.Bz,ok.AN,ok.JU,ok.iY,ok.JS⟩
theorem Cx.Ok.gy {X:Cx}{E:Value->Shared->Prop}(ok:(X.oR E).Ok):X.Ok:=
 ⟨ok.mod,ok.kind,ok.glob,ok.blt,ok.above,ok.inj,ok.has,ok.Pw,ok.hd,ok.frames,ok.SU,ok.Xe,ok.bs,ok.Bz,ok.AN,ok.JU,ok.iY,ok.JS⟩
section
variable {X:Cx}{pins:List (Addr×Obj)}{σ:St}{H:Hp}{s:Shared}{E:Value->Shared->Prop}
theorem Inv.oR (I:Inv X pins σ H s)(E:Value->Shared->Prop):Inv (X.oR E) pins σ H s:=⟨I.ok.oR E,I.os,I.bare,I.base,I.loc,I.cell,I.free,I.fH,I.pin,I.bh,I.len⟩
theorem Inv.gy (I:Inv (X.oR E) pins σ H s):Inv X pins σ H s:=⟨I.ok.gy,I.os,I.bare,I.base,I.loc,I.cell,I.free,I.fH,I.pin,I.bh,I.len⟩
theorem SP.gy {D:Ends}{f:Flow}{s':Shared}(h:SP (X.oR E) pins D f s'):SP X pins D f s':=by
 cases f with
 |next=>obtain⟨σ',H',I,q⟩:=h;exact⟨σ',H',I.gy,q⟩
 |brk=>obtain⟨σ',H',I,q⟩:=h;exact⟨σ',H',I.gy,q⟩
 |cont=>obtain⟨σ',H',I,q⟩:=h;exact⟨σ',H',I.gy,q⟩
 |ret u=>obtain⟨v,σ',H',I,r,q⟩:=h;exact⟨v,σ',H',I.gy,r,q⟩
theorem vj.Jl {st:List Stmt}{t:TS}(h:vj X.Jl st t):vj X st t:=λ pins s σ H D I hw=>
 J1 (h pins s σ H D (I.oR _) hw) (λ _ _ q=>q.gy) λ _ _ z=>False.elim z
end
section
variable {X:Cx}{st:Stmt}{rest:List Stmt}{t u:TS}{e:Expr}{te:TE}{pos:Pos}
def PX:TS:=λ D σ H=>D.nx σ H
def TX(t u:TS):TS:=λ D σ H=>t {D with nx:=u D} σ H
theorem Iy:vj X [] PX:=λ _ _ σ H _ I h=>wpAny_execs_nil ⟨σ,H,I,h⟩
theorem DC(h1:PS X st t)(h2:vj X rest u):vj X (st::rest) (TX t u):=by
 intro pins s σ H D I h;refine wpAny_execs_cons (cT (h1 pins s σ H {D with nx:=u D} I h) λ f s1 q=>?_);cases f with
 |next=>obtain⟨σ',H',I',q⟩:=q;exact h2 pins s1 σ' H' D I' q
 |ret v=>exact q
 |brk=>exact q
 |cont=>exact q
theorem Iw(h1:PS X st t):vj X [st] t:=by
 intro pins s σ H D I h;refine wpAny_execs_cons (cT (h1 pins s σ H D I h) λ f s1 q=>?_);cases f with
 |next=>exact wpAny_execs_nil q
 |ret v=>exact q
 |brk=>exact q
 |cont=>exact q
theorem Inv.quiet {pins:List (Addr×Obj)}{σ:St}{H:Hp}{s:Shared}(I:Inv X pins σ H s):interactive X.env=false:=by simp[interactive,I.ok.kind]
def PY(te:TE):TS:=λ D σ H=>te σ H λ _ H1=>D.nx σ H1
theorem Iz(he:PE X e te)(hs:swapsWith e none pos.line X.env=pure false:=by rfl):PS X (.Expr e pos) (PY te):=by intro pins s σ H D I h;exact wpAny_Expr_any (cT (he pins s σ H _ I h) λ v s1 ⟨x,H1,I1,r1,q1⟩=>⟨σ,H1,I1,q1⟩) I.quiet hs
def TY(te:TE):TS:=λ D σ H=>te σ H D.rt
theorem MX(he:PE X e te):PS X (.Return (some e) pos) (TY te):=by intro pins s σ H D I h;exact wpAny_Return_some (cT (he pins s σ H _ I h) λ v s1 ⟨x,H1,I1,r1,q1⟩=>⟨x,σ,H1,I1,r1,q1⟩)
def T5(c:TT)(t u:TS):TS:=λ D σ H=>c σ H λ b H1=>if b=true then t D σ H1 else u D σ H1
theorem QN{c:Expr}{a b:List Stmt}{tc:TT}(hc:PT X c tc)(ha:vj X a t)(hb:vj X b u):PS X (.If c a b pos) (T5 tc t u):=by
 intro pins s σ H D I h;refine wpAny_If (cT (hc pins s σ H _ I h) λ d s1 ⟨H1,I1,q1⟩=>?_);cases d with
 |true=>exact ha pins s1 σ H1 D I1 q1
 |false=>exact hb pins s1 σ H1 D I1 q1
end
abbrev TG:=V->St->Hp->(St->Hp->Prop)->Prop
abbrev zH:=List V->St->Hp->(St->Hp->Prop)->Prop
def PG(X:Cx)(target:Expr)(t:TG):Prop:=
 ∀(pins:List (Addr×Obj)) (s:Shared) (σ:St) (H:Hp) (v:V) (u:Value) (Q:St->Hp->Prop),Inv X pins σ H s->RelV v u->t v σ H Q->
  wpAny (model X.prog X.w) X.A (assign target X.env u) (λ _ s'=>∃σ' H',Inv X pins σ' H' s'/\Q σ' H') X.xe s
def O1(X:Cx)(ts:List Expr)(t:zH):Prop:=
 ∀(pins:List (Addr×Obj)) (s:Shared) (σ:St) (H:Hp) (vs:List V) (us:List Value) (Q:St->Hp->Prop),Inv X pins σ H s->Vals vs us->t vs σ H Q->
  wpAny (model X.prog X.w) X.A (assignInOrder ((assignEach ts X.env).map (·.2)) us) (λ _ s'=>∃σ' H',Inv X pins σ' H' s'/\Q σ' H') X.xe s
abbrev BD:=V->V->V->Hp->(Hp->Prop)->Prop
def sE(X:Cx)(t:BD):Prop:=
 ∀(pins:List (Addr×Obj)) (s:Shared) (σ:St) (H:Hp) (o i v:V) (ov iv u:Value) (Q:Hp->Prop),Inv X pins σ H s->RelV o ov->RelV i iv->RelV v u->t o i v H Q->
  wpAny (model X.prog X.w) X.A (setItem ov iv u) (λ _ s'=>∃H',Inv X pins σ H' s'/\Q H') X.xe s
abbrev Tx:=V->V->Hp->VK->Prop
def Xr(X:Cx)(op:Operator)(t:Tx):Prop:=
 ∀(pins:List (Addr×Obj)) (s:Shared) (σ:St) (H:Hp) (x y:V) (v u:Value) (Q:VK),Inv X pins σ H s->RelV x v->RelV y u->t x y H Q->
  wpAny (model X.prog X.w) X.A (inplaceOp op v u) (EP X pins σ Q) X.xe s
section
variable {X:Cx}{pos:Pos}
def cC(i:Nat):TG:=λ v σ H Q=>Q (σ.set i (some v)) H
theorem bc{i:Nat}{x:Str}(hN:X.N.Nodup)(hi:X.N[i]?=some x)(hx:Loc X.env.scope x)(hf:X.fn x=true\/X.env.scope.names.lookup x=some .local:=by first|exact .inl rfl|exact .inr rfl|assumption):PG X (.Name x pos) (cC i):=by intro pins s σ H v u Q I r h;exact wpAny_assign_Name (mX I hN hi hx r (λ s' I'=>⟨_,H,I',h⟩) hf)
def rT:zH:=λ vs σ H Q=>vs=[]/\Q σ H
def dD(t:TG)(u:zH):zH:=λ vs σ H Q=>∃v r,vs=v::r/\t v σ H λ σ' H'=>u r σ' H' Q
theorem l_:O1 X [] rT:=by intro pins s σ H vs us Q I r h;obtain⟨e,h⟩:=h;subst e;cases r;exact assignInOrder_nil ⟨σ,H,I,h⟩
theorem dY{e:Expr}{es:List Expr}{t:TG}{u:zH}(h1:PG X e t)(h2:O1 X es u) (hs:(assignEach (e::es) X.env).map (·.2)=assign e X.env::(assignEach es X.env).map (·.2):=by rfl):O1 X (e::es) (dD t u):=by
 intro pins s σ H vs us Q I r h;obtain⟨v,vr,e1,h⟩:=h;subst e1;cases r with
 |cons r rr=>rw[hs];refine assignInOrder_cons (cT (h1 pins s σ H _ _ _ I r h) λ _ s1 ⟨σ1,H1,I1,q1⟩=>?_);exact h2 pins s1 σ1 H1 _ _ Q I1 rr q1
def uG(K:J8)(n:Nat)(t:zH):TG:=λ v σ H Q=>∃a xs,v=.ref a/\fJ K H a xs/\xs.length=n/\t xs σ H Q
theorem rp{es:List Expr}{k:Nat}{t:zH}{n:Nat}(hc:X.calm=true)(h:O1 X es t) (hn:(assignEach es X.env).length=n:=by rfl) (hst:(assignEach es X.env).findIdx? (·.1)=none:=by rfl):PG X (.Tuple es k pos) (uG X.K n t):=by intro pins s σ H v u Q I r hw;obtain⟨a,xs,e1,hq,hl,hw⟩:=hw;subst e1;cases r;obtain⟨ax,rv,ht,hz⟩:=I.tuple hq;refine assign_Tuple_tuple (I.ok.hd hc) ht (by simp[hn,<- hl,rv.length]) hst λ h' hx=>?_;have I1:Inv X pins σ H {s with heap:=h'}:=I.kept (t':=s.toks) λ b o e=>hx b o (D4 (D5 e)) e;exact h pins _ σ H xs _ Q I1 (by simpa using rv) hw
def VG(to ti:TE)(t:BD):TG:=λ v σ H Q=>to σ H λ o H1=>ti σ H1 λ i H2=>t o i v H2 λ H3=>Q σ H3
theorem Nd{o i:Expr}{to ti:TE}{t:BD}(ho:PE X o to)(hi:PE X i ti)(hs:sE X t) (ha:∀v,assign (.Subscript o i pos) X.env v=(do
   let ov <- holding [v] (eval o X.env)
   let iv <- holding [v,ov] (eval i X.env)
   standAt pos
   holding [v,ov,iv] (setItem ov iv v)
   release [v,ov,iv] []):=by intro _;rfl):PG X (.Subscript o i pos) (VG to ti t):=by
 intro pins s σ H v u Q I r h;rw[ha];refine G9 (C6 (cT (ho pins s σ H _ I h) λ ov s1 ⟨x,H1,I1,r1,q1⟩=>?_));refine G9 (C6 (cT (hi pins s1 σ H1 _ I1 q1) λ iv s2 ⟨y,H2,I2,r2,q2⟩=>?_));refine G9 (wpAny_standAt (G9 (C6 (cT (hs pins s2 σ H2 x y v ov iv u _ I2 r1 r2 r q2) λ _ s3 ⟨H3,I3,q3⟩=>?_))));exact wpAny_release ⟨σ,H3,I3,q3⟩
def Ha(te:TE)(g:TG):TS:=λ D σ H=>te σ H λ x H1=>g x σ H1 D.nx
theorem M_{tg e:Expr}{te:TE}{g:TG}(he:PE X e te)(hg:PG X tg g)(hs:swapsWithSole [tg] e pos.line X.env=pure false:=by rfl)(hw:swappedStores [tg] e X.env=pure none:=by rfl) (h1:(assignEach [tg] X.env).map (·.2)=[assign tg X.env]:=by rfl):PS X (.Assign [tg] e pos) (Ha te g):=by intro pins s σ H D I h;refine wpAny_Assign_stores (cT (he pins s σ H _ I h) λ v s1 ⟨x,H1,I1,r1,q1⟩=>?_) hs hw;rw[h1];exact cT (hg pins s1 σ H1 x v _ I1 r1 q1) λ _ s2 q=>q
theorem MW{i:Nat}{x:Str}{e:Expr}{te:TE}{pos':Pos}(hN:X.N.Nodup)(hi:X.N[i]?=some x)(hx:Loc X.env.scope x)(he:PE X e te)(hs:swapsWith e (some (.Name x pos')) pos.line X.env=pure false:=by rfl)(hf:X.fn x=true\/X.env.scope.names.lookup x=some .local:=by first|exact .inl rfl|exact .inr rfl|assumption):PS X (.Assign [.Name x pos'] e pos) (Ha te (cC i)):=by intro pins s σ H D I h;refine wpAny_Assign_Name (cT (he pins s σ H _ I h) λ v s1 ⟨y,H1,I1,r1,q1⟩=>?_) hs;exact mX I1 hN hi hx r1 (λ s2 I2=>⟨_,H1,I2,q1⟩) hf
def T8(i:Nat)(te:TE)(ti:Tx):TS:=λ D σ H=>∃x,σ[i]?=some (some x)/\te σ H λ y H1=>ti x y H1 λ z H2=>D.nx (σ.set i (some z)) H2
theorem MZ{i:Nat}{x:Str}{e:Expr}{te:TE}{op:Operator}{ti:Tx}{pos':Pos}(hN:X.N.Nodup)(hi:X.N[i]?=some x)(hx:Loc X.env.scope x)(he:PE X e te)(ho:Xr X op ti)(hf:X.fn x=true\/X.env.scope.names.lookup x=some .local:=by first|exact .inl rfl|exact .inr rfl|assumption):PS X (.AugAssign (.Name x pos') op e pos) (T8 i te ti):=by
 intro pins s σ H D I h;obtain⟨v,e1,h⟩:=h;obtain⟨m,hn,hl⟩:=I.loc;have Xv:Lo X.env.scope x:=by rcases hx with k|k;exact .inl k;exact .inr (.inl k)
 obtain⟨u,r,l⟩:=hl i x v hi e1 Xv;refine wpAny_AugAssign_Name ?_;have go:wpAny (model X.prog X.w) X.A (eval e X.env) (λ w s₂=>wpAny (model X.prog X.w) X.A (inplaceOp op u w) (λ r s₃=>wpAny (model X.prog X.w) X.A (storeName X.env x r) (λ _=>SP X pins D .next) X.xe s₃) X.xe s₂) X.xe s:=by refine cT (he pins s σ H _ I h) λ w s1 ⟨y,H1,I1,r1,q1⟩=>?_;refine cT (ho pins s1 σ H1 v y u w _ I1 r r1 q1) λ z s2 ⟨zv,H2,I2,r2,q2⟩=>?_;exact mX I2 hN hi hx r2 (λ s3 I3=>⟨_,H2,I3,q2⟩) hf
 rcases l with⟨hk,hm⟩|⟨hk,c,hc,yV⟩
 ·exact wpAny_loadName_local I.ok.kind hk hn hm go
 ·rcases hk with hk|hk
  ·exact wpAny_loadName_cell I.ok.kind hk hc yV go
  ·rcases hx with k|k
   ·have:X.env.scope.names.lookup x=some .free:=hk;rw[k]at this;cases this
   ·have:X.env.scope.names.lookup x=some .free:=hk;rw[k]at this;cases this
def Yb(f:Int->Int->Int):Tx:=λ x y H Q=>∃i j,x=.int i/\y=.int j/\Q (.int (f i j)) H
theorem Oc:Xr X .Add (Yb λ i j=>i+j):=by intro pins s σ H x y v u Q I r1 r2 h;obtain⟨i,j,e1,e2,q⟩:=h;subst e1;subst e2;obtain⟨t,rfl⟩:=r1;obtain⟨t',rfl⟩:=r2;exact iadd_int ⟨.int _,H,I.tok _,⟨_,rfl⟩,q⟩
end
section
variable {X:Cx}{pos:Pos}
def LG(c:TT)(tb:TS):TS:=λ D σ H=>∃W:Nat->St->Hp->Prop,(∃m,W m σ H)/\∀m σ H,W m σ H->
 c σ H λ b H1=>if b=true then ∃N:St->Hp->Prop,(∀σ' H',N σ' H'->∃m',m' < m/\W m' σ' H')/\tb {D with nx:=N,ct:=N,bk:=D.nx} σ H1 else D.nx σ H1
theorem DE{c:Expr}{body:List Stmt}{tc:TT}{tb:TS}(hp:PassesOwn (model X.prog X.w) X.A X.env X.xe)(hc:PT X c tc)(hb:vj X body tb):PS X (.While c body [] pos) (LG tc tb):=by
 intro pins s σ H D I h;obtain⟨W,⟨m0,w0⟩,turn⟩:=h;refine wpAny_While (codeAny_whileLoop (λ n s'=>∃σ' H',Inv X pins σ' H' s'/\W n σ' H') ?_ m0 ⟨σ,H,I,w0⟩);rintro n s1 ⟨σ1,H1,I1,w1⟩;refine B1 hp (cT (hc pins s1 σ1 H1 _ I1 (turn n σ1 H1 w1)) λ b s2 ⟨H2,I2,q2⟩=>?_);cases b with
 |true=>
  obtain⟨N,hN,q2⟩:=q2;rw[J6 rfl];refine B1 hp (cT (hb pins s2 σ1 H2 _ I2 q2) λ f s3 q3=>?_);cases f with
  |next=>obtain⟨σ3,H3,I3,n3⟩:=q3;obtain⟨m',hm,w3⟩:=hN σ3 H3 n3;exact⟨m',hm,σ3,H3,I3,w3⟩
  |cont=>obtain⟨σ3,H3,I3,n3⟩:=q3;obtain⟨m',hm,w3⟩:=hN σ3 H3 n3;exact⟨m',hm,σ3,H3,I3,w3⟩
  |brk=>exact q3
  |ret v=>exact q3
 |false=>rw[J7 n9];exact wpAny_execs_nil ⟨σ1,H2,I2,q2⟩
end
structure It where
 go:Nat->Hp->Prop
 GL:Nat->Hp->V->Hp->Prop
 stop:Nat->Hp->Prop
def ke(X:Cx)(pins:List (Addr×Obj))(H:Hp)(b:Addr):Prop:=
 H b=none/\b≠X.env.locals/\b∉X.fs/\(b∈X.ex\/X.s₀.heap.objs.size<=b)/\(∀x c,X.env.cells.lookup x=some c->c≠b)/\∀p∈X.pn++pins,p.1≠b
theorem Inv.kR {X:Cx}{pins:List (Addr×Obj)}{σ:St}{H H':Hp}{s:Shared}{b:Addr}(I:Inv X pins σ H s)(hb:s.heap.objs.size<=b)(hn:H' b=none):ke X pins H' b:=by
 refine⟨hn,G0 (p6 I.lt hb),I.UI hb,.inr (D8 I.sz hb),λ x c e z=>?_,λ p hp z=>?_⟩
 ·obtain⟨v,q⟩:=I.cell x c e;exact absurd (p6 q.lt (by rw[z];exact hb)) (C8 _)
 ·exact absurd (p6 (D5 (I.pin p hp).1) (by rw[z];exact hb)) (C8 _)
structure Turn(P:Program)(w:World)(K:J8)(tg:Expr)(J:It)(fp:List Addr)(it:Addr)(tn:Nat->Heap->Prop):Prop where
 mem:it∈fp
 obj:∀i h,tn i h->∀b∈fp,∃o,h.get? b=some o/\∀v,o.data≠.cell v
 keep:∀i h h',tn i h->(∀b∈fp,∀o,h.get? b=some o->h'.get? b=some o)->tn i h'
 item:∀(X:Cx),X.prog=P->X.w=w->X.K=K->X.calm=true->∀(i:Nat) (pins:List (Addr×Obj)) (s:Shared) (σ:St) (H:Hp) (E:Value->Shared->Prop),Inv X pins σ H s->(∀b∈fp,ke X pins H b)->tn i s.heap->J.go i H->
  wpAny (model P w) X.A (pyNext (.ref it)) (λ r s1=>∃u,r=some u/\
   wpAny (model P w) X.A (letOwnedTupleGo tg (.ref it) u) (λ _ s2=>∃x H',Inv X pins σ H' s2/\RelV x u/\J.GL i H x H'/\tn (i+1) s2.heap/\∀b∈fp,H' b=none) E s1) E s
 done:∀(X:Cx),X.prog=P->X.w=w->X.K=K->X.calm=true->∀(i:Nat) (pins:List (Addr×Obj)) (s:Shared) (σ:St) (H:Hp) (E:Value->Shared->Prop),Inv X pins σ H s->(∀b∈fp,ke X pins H b)->tn i s.heap->J.stop i H->
  wpAny (model P w) X.A (pyNext (.ref it)) (λ r s1=>r=none/\Inv X pins σ H s1) E s
 self:∀(A:Around) (i:Nat) (s:Shared) (Q:Value->Shared->Prop) (E:Value->Shared->Prop),tn i s.heap->Q (.ref it) s->wpAny (model P w) A (pyIter (.ref it)) Q E s
abbrev TI:=St->Hp->(It->Hp->Prop)->Prop
def V1(X:Cx)(pins:List (Addr×Obj))(σ:St)(tg:Expr)(R:It->Hp->Prop)(S9:Value)(s2:Shared):Prop:=
 ∃(it:Addr) (fp:List Addr) (tn:Nat->Heap->Prop) (J:It) (H':Hp),S9=.ref it/\Inv X pins σ H' s2/\Turn X.prog X.w X.K tg J fp it tn/\tn 0 s2.heap/\(∀b∈fp,ke X pins H' b)/\R J H'
def PI(X:Cx)(tg iter:Expr)(wi:TI):Prop:=
 ∀(pins:List (Addr×Obj)) (s:Shared) (σ:St) (H:Hp) (R:It->Hp->Prop),Inv X pins σ H s->wi σ H R->
  wpAny (model X.prog X.w) X.A (eval iter X.env) (λ v s1=>wpAny (model X.prog X.w) X.A (pyIter v) (V1 X pins σ tg R) X.xe s1) X.xe s
theorem uF{M:Model}{A:Around}{E:Value->Shared->Prop}{s:Shared}{tg:Expr}{it:Addr}{u:Value}{o:Obj}{n:String}{vs:Array Value}{Q:Unit->Shared->Prop}(ho:s.heap.get? it=some o)(hc:o.cls=.type n)(hd:o.data=.fields vs) (hn:["enumerate","zip","dict_itemiterator","dict_reverseitemiterator","odict_iterator","itertools.zip_longest","itertools.pairwise"].contains n=false) (hQ:Q () s):wpAny M A (letOwnedTupleGo tg (.ref it) u) Q E s:=by
 unfold letOwnedTupleGo;cases tg <;> first
  |exact H9 hQ
  |(cases u <;> first
    |exact H9 hQ
    |(refine G9 (wpAny_load ho ?_)
      rw[hc,hd];show wpAny M A (if(["enumerate","zip","dict_itemiterator","dict_reverseitemiterator","odict_iterator","itertools.zip_longest","itertools.pairwise"].contains n&&vs[0]?==some (rawInt _))=true then _ else _) Q E s;rw[J7 (by intro h;rw[hn,Bool.false_and]at h;cases h)];exact H9 hQ))
def TF(K:J8)(a:Addr):It:=
 ⟨λ i H=>∃xs x,eW K H a xs/\xs[i]?=some x,λ i H x H'=>H'=H/\∀xs,eW K H a xs->xs[i]?=some x,λ i H=>∃xs,eW K H a xs/\xs.length<=i⟩
def V4(K:J8)(a:Addr):It:=
 ⟨λ i H=>∃xs x,fJ K H a xs/\xs[i]?=some x,λ i H x H'=>H'=H/\∀xs,fJ K H a xs->xs[i]?=some x,λ i H=>∃xs,fJ K H a xs/\xs.length<=i⟩
def TC(lo:Int)(n:Nat):It:=⟨λ i _=>i < n,λ i H x H'=>H'=H/\x=.int (lo+i),λ i _=>n<=i⟩
theorem Ab{P:Program}{w:World}{K:J8}{tg:Expr}(a it:Addr):Turn P w K tg (TF K a) [it] it (λ i h=>h.IsListIter it a i) where
 mem:=by simp
 obj:=λ i h st b hb=>by
  have e:b=it:=by simpa using hb
  subst e;obtain⟨o,e,c,d⟩:=st;exact⟨o,e,λ v z=>by rw[d]at z;cases z⟩
 keep:=λ i h h' st k=>st.at λ o e=>k it (by simp) o e
 item:=by intro X hP hw hK hc i pins s σ H E I hf st hg;subst hP hw hK;obtain⟨xs,x,hq,hx⟩:=hg;obtain⟨ax,rv,p,hz⟩:=I.list hq;obtain⟨u,hu,ru⟩:=rv.get hx;obtain⟨f0,f1,f2,f3,f4,f5⟩:=hf it (by simp);refine wpAny_pyNext_list_item st p.isList (x:=u) (by simpa using hu) λ h' jj sb=>?_;have I1:Inv X pins σ H {s with heap:=h'}:=I.turned (t':=s.toks) (λ b o hb e=>(sb.2 b hb).trans e) f0 f1 f3 f4 f5;obtain⟨o,e,c,d⟩:=id jj;exact⟨u,rfl,uF (s:={s with heap:=h'}) e c d (by decide) ⟨x,H,I1,ru,⟨rfl,λ ys hy=>by rw[I.uf hy hq];exact hx⟩,jj,λ b hb=>(hf b hb).1⟩⟩
 done:=by intro X hP hw hK hc i pins s σ H E I hf st hg;subst hP hw hK;obtain⟨xs,hq,hx⟩:=hg;obtain⟨ax,rv,p,hz⟩:=I.list hq;obtain⟨f0,f1,f2,f3,f4,f5⟩:=hf it (by simp);have hl:=rv.length;exact wpAny_pyNext_list_end (I.ok.hd hc) st p.isList (by simp;omega) λ h' eb=>⟨rfl,I.turned (t':=s.toks) (λ b o hb e=>eb b o hb e) f0 f1 f3 f4 f5⟩
 self:=λ _ _ _ _ _ st h=>wpAny_pyIter_listiter st h
theorem vK{P:Program}{w:World}{K:J8}{tg:Expr}(a it:Addr):Turn P w K tg (V4 K a) [it] it (λ i h=>h.IsTupleIter it a i) where
 mem:=by simp
 obj:=λ i h st b hb=>by
  have e:b=it:=by simpa using hb
  subst e;obtain⟨o,e,c,d⟩:=st;exact⟨o,e,λ v z=>by rw[d]at z;cases z⟩
 keep:=λ i h h' st k=>st.at λ o e=>k it (by simp) o e
 item:=by intro X hP hw hK hc i pins s σ H E I hf st hg;subst hP hw hK;obtain⟨xs,x,hq,hx⟩:=hg;obtain⟨ax,rv,p,hz⟩:=I.tuple hq;obtain⟨u,hu,ru⟩:=rv.get hx;obtain⟨f0,f1,f2,f3,f4,f5⟩:=hf it (by simp);refine wpAny_pyNext_tuple_item st (show s.heap.IsTuple a ax.toArray from p) (x:=u) (by simpa using hu) λ h' jj sb=>?_;have I1:Inv X pins σ H {s with heap:=h'}:=I.turned (t':=s.toks) (λ b o hb e=>(sb.2 b hb).trans e) f0 f1 f3 f4 f5;obtain⟨o,e,c,d⟩:=id jj;exact⟨u,rfl,uF (s:={s with heap:=h'}) e c d (by decide) ⟨x,H,I1,ru,⟨rfl,λ ys hy=>by rw[I.pO hy hq];exact hx⟩,jj,λ b hb=>(hf b hb).1⟩⟩
 done:=by intro X hP hw hK hc i pins s σ H E I hf st hg;subst hP hw hK;obtain⟨xs,hq,hx⟩:=hg;obtain⟨ax,rv,p,hz⟩:=I.tuple hq;obtain⟨f0,f1,f2,f3,f4,f5⟩:=hf it (by simp);have hl:=rv.length;exact wpAny_pyNext_tuple_end (I.ok.hd hc) st (show s.heap.IsTuple a ax.toArray from p) (by simp;omega) λ h' eb=>⟨rfl,I.turned (t':=s.toks) (λ b o hb e=>eb b o hb e) f0 f1 f3 f4 f5⟩
 self:=λ _ _ _ _ _ st h=>wpAny_pyIter_tupleiter st h
theorem vL{P:Program}{w:World}{K:J8}{tg:Expr}(it:Addr)(lo:Int)(n:Nat):Turn P w K tg (TC lo n) [it] it (λ i h=>IsRangeIter h it (lo+(i:Nat)*1) ((n:Int) - (i:Nat)) 1) where
 mem:=by simp
 obj:=λ i h st b hb=>by
  have e:b=it:=by simpa using hb
  subst e;exact⟨_,st,λ v z=>by
   have z':Data.fields _=Data.cell v:=z;cases z'⟩
 keep:=λ i h h' st k=>k it (by simp) _ st
 item:=by intro X hP hw hK hc i pins s σ H E I hf st hg;subst hP hw hK;obtain⟨f0,f1,f2,f3,f4,f5⟩:=hf it (by simp);have W:=Walks.range (prog:=X.prog) (w:=X.w) (I.ok.hd hc) it lo 1 n;refine W.item i s _ _ hg st λ v h' tk hv jj kk=>?_;obtain⟨t,rfl⟩:=hv;have I1:Inv X pins σ H {s with heap:=h',toks:=tk}:=I.turned (λ b o hb e=>kk b o (by simpa using hb) e) f0 f1 f3 f4 f5;refine⟨_,rfl,uF (s:={s with heap:=h',toks:=tk}) (n:="range_iterator") jj rfl rfl (by decide) ⟨.int (lo+i),H,I1,⟨t,?_⟩,⟨rfl,rfl⟩,jj,λ b hb=>(hf b hb).1⟩⟩;rw[Int.mul_one]
 done:=by intro X hP hw hK hc i pins s σ H E I hf st hg;subst hP hw hK;obtain⟨f0,f1,f2,f3,f4,f5⟩:=hf it (by simp);exact wpAny_pyNext_range_end (I.ok.hd hc) st (by have:n<=i:=hg;omega) λ h' eb=>⟨rfl,I.turned (t':=s.toks) (λ b o hb e=>eb b o hb e) f0 f1 f3 f4 f5⟩
 self:=λ _ _ _ _ _ st h=>wpAny_pyIter_rangeiter st h
section
variable {X:Cx}{tg:Expr}
theorem Dv{pins:List (Addr×Obj)}{σ:St}{H:Hp}{s:Shared}{R:It->Hp->Prop}{E:Value->Shared->Prop}{lo hi:Int}{t u v:Tok}{tk:Nat}(I:Inv X pins σ H s)(h1: -(2^62)<=lo)(h2:lo < 2^62)(h3: -(2^62)<=hi)(h4:hi < 2^62) (q:R (TC lo (hi - lo).toNat) H):wpAny (model X.prog X.w) X.A (pyIter (.ref s.heap.objs.size)) (V1 X pins σ tg R) E {s with heap:=s.heap.push {cls:=.type "range",data:=.fields #[.int lo t,.int hi u,.int 1 v]},toks:=tk}:=by
 refine wpAny_pyIter_range (IsRange.new ..) (small_one h1 h2 h3 h4) ?_;have I1:Inv X pins σ H {s with heap:=s.heap.push {cls:=.type "range",data:=.fields #[.int lo t,.int hi u,.int 1 v]},toks:=tk}:=I.kept λ b o e=>j4 _ e;refine⟨(s.heap.push {cls:=.type "range",data:=.fields #[.int lo t,.int hi u,.int 1 v]}).objs.size,[(s.heap.push {cls:=.type "range",data:=.fields #[.int lo t,.int hi u,.int 1 v]}).objs.size],_,_,H,rfl,
  I1.kept (t':=tk) λ b o e=>j4 _ e,vL _ lo (hi - lo).toNat,?_,λ b hb=>?_,q⟩
 ·have e1:lo+((0:Nat):Int)*1=lo:=by simp
  have e2:(((hi - lo).toNat:Nat):Int) - ((0:Nat):Int)=Builtin.Range.rangeSize lo hi 1:=by rw[rangeSize_one];split <;> omega
  show IsRangeIter _ _ (lo+((0:Nat):Int)*1) ((((hi - lo).toNat:Nat):Int) - ((0:Nat):Int)) 1;rw[e1,e2];exact m8 _ rfl
 ·have e:b=(s.heap.push {cls:=.type "range",data:=.fields #[.int lo t,.int hi u,.int 1 v]}).objs.size:=by simpa using hb
  subst e;exact I1.kR (G5 _) (I1.bh.fresh (G5 _))
def Rq(ta:TA):TI:=λ σ H R=>ta σ H λ vs H1=>∃j:Int,vs=[.int j]/\-(2^62)<=j/\j < 2^62/\R (TC 0 j.toNat) H1
theorem AG{a:Expr}{ta:TA}{p pos:Pos}(hg:Gl X "range")(hm:X.mg "range"=none)(ha:PA X [a] ta)(hs:starEach [a] X.env=[(false,eval a X.env)]:=by rfl):PI X tg (.Call (.Name "range" p) [a] [] pos) (Rq ta):=by
 intro pins s σ H R I h;refine Call_ (fj I hg hm boot_range (a8 (cT (ha pos pins s σ H _ I h) λ us s1 ⟨vs,H1,I1,r1,q1⟩=>?_) hs rfl));obtain⟨j,e,q1,q2,q⟩:=q1;subst e;cases r1 with
 |cons r rr=>cases rr;obtain⟨t,rfl⟩:=r;exact call_range_1 (Dv I1 (by omega) (by omega) q1 q2 (by simpa using q))
def T6(wi:TI)(g:TG)(tb:TS):TS:=λ D σ H=>wi σ H λ J H1=>∃W:Nat->Nat->St->Hp->Prop,(∃m,W 0 m σ H1)/\∀i m σ H,W i m σ H->
 (J.stop i H/\D.nx σ H)\/(J.go i H/\∃N:St->Hp->Prop,(∀σ' H',N σ' H'->∃m',m' < m/\W (i+1) m' σ' H')/\∀x H',J.GL i H x H'->g x σ H' λ σ2 H2=>tb {D with nx:=N,ct:=N,bk:=D.nx} σ2 H2)
def rn(fp:List Addr)(h:Heap):List (Addr×Obj):=fp.filterMap λ b=>(h.get? b).map λ o=>(b,o)
theorem dO{fp:List Addr}{h:Heap}{b:Addr}{o:Obj}(hb:b∈fp)(e:h.get? b=some o):(b,o)∈rn fp h:=mem_filterMap.mpr ⟨b,hb,by rw[e];rfl⟩
theorem AM{fp:List Addr}{h:Heap}{p:Addr×Obj}(hp:p∈rn fp h):p.1∈fp/\h.get? p.1=some p.2:=by
 obtain⟨b,hb,e⟩:=mem_filterMap.mp hp;cases q:h.get? b with
 |none=>rw[q]at e;cases e
 |some o=>rw[q]at e;have e':(b,o)=p:=A9 e;subst e';exact⟨hb,q⟩
theorem Inv.pinned {pins:List (Addr×Obj)}{σ:St}{H:Hp}{s:Shared}{fp:List Addr}(I:Inv X pins σ H s)(hf:∀b∈fp,ke X pins H b)(ho:∀b∈fp,∃o,s.heap.get? b=some o/\∀v,o.data≠.cell v):Inv X (pins++rn fp s.heap) σ H s:=
 I.jH λ p hp=>(B5.mp hp).elim (λ z=>I.pin p (j8 _ z)) λ z=>by obtain⟨hb,e⟩:=AM z;obtain⟨f0,f1,f2,_⟩:=hf p.1 hb;obtain⟨o,e',d⟩:=ho p.1 hb;rw[e]at e';cases e';exact⟨e,f0,f1,f2,d⟩
theorem Inv.mR {pins pl:List (Addr×Obj)}{σ:St}{H:Hp}{s:Shared}(I:Inv X (pins++pl) σ H s):Inv X pins σ H s:=I.jH λ p hp=>I.pin p (j8 _ (l0 _ hp))
theorem MY{iter:Expr}{body:List Stmt}{wi:TI}{g:TG}{tb:TS}{pos:Pos}(hp:PassesOwn (model X.prog X.w) X.A X.env X.xe)(hc:X.calm=true)(hi:PI X tg iter wi)(hg:PG X tg g)(hb:vj X body tb) (hs:∀x,foldedSetIterable iter X.env x=pure x:=by intro _;rfl):PS X (.For tg iter body [] pos) (T6 wi g tb):=by
 intro pins s σ H D I h;refine wpAny_For (cT (hi pins s σ H _ I h) λ v s1 h1=>cT h1 λ S9 s2 h2=>?_) hs;obtain⟨it,fp,tn,J,H2,e,I2,T,Gv,f2,W,⟨m0,w0⟩,turn⟩:=h2;subst e;have LK:∀{H':Hp},(∀b∈fp,H' b=none)->∀b∈fp,ke X pins H' b:=λ hn b hb=>⟨hn b hb,(f2 b hb).2⟩;refine codeAny_forLoop_any (λ n s'=>∃i σ' H',Inv X pins σ' H' s'/\tn i s'.heap/\(∀b∈fp,H' b=none)/\W i n σ' H') ?_ m0 ⟨0,σ,H2,I2,Gv,λ b hb=>(f2 b hb).1,w0⟩;rintro n s3 ⟨i,σ3,H3,I3,Qb,RS,w3⟩;rcases turn i n σ3 H3 w3 with⟨stop,qn⟩|⟨go,N,hN,step⟩
 ·refine B1 hp (cT (T.done X rfl rfl rfl hc i pins s3 σ3 H3 X.xe I3 (LK RS) Qb stop) λ r s4 ⟨hr,I4⟩=>?_);subst hr;exact wpAny_execs_nil ⟨σ3,H3,I4,qn⟩
 ·refine B1 hp (cT (T.item X rfl rfl rfl hc i pins s3 σ3 H3 X.xe I3 (LK RS) Qb go) λ r s4 ⟨u,hr,h4⟩=>?_);subst hr;refine B1 hp (cT h4 λ _ s5 ⟨x,H5,I5,r5,y5,He,VH⟩=>?_);have V7:=I5.pinned (LK VH) (T.obj _ _ He);refine B1 hp (cT (hg _ s5 σ3 H5 x u _ V7 r5 (step x H5 y5)) λ _ s6 ⟨σ6,H6,I6,q6⟩=>?_);refine B1 hp (cT (hb _ s6 σ6 H6 _ I6 q6) λ f s7 q7=>?_);have again:∀{σ7:St} {H7:Hp},Inv X (pins++rn fp s5.heap) σ7 H7 s7->N σ7 H7->∃m,m < n/\∃i σ' H',Inv X pins σ' H' s7/\tn i s7.heap/\(∀b∈fp,H' b=none)/\W i m σ' H':=λ{σ7 H7} I7 n7=>by obtain⟨m',hm,w7⟩:=hN σ7 H7 n7;refine⟨m',hm,i+1,σ7,H7,I7.mR,T.keep _ _ _ He λ b hb o e=>(I7.pin (b,o) (j8 _ (j8 _ (dO hb e)))).1,λ b hb=>?_,w7⟩;obtain⟨o,e,d⟩:=T.obj _ _ He b hb;exact(I7.pin (b,o) (j8 _ (j8 _ (dO hb e)))).2.1
  cases f with
  |next=>obtain⟨σ7,H7,I7,n7⟩:=q7;exact again I7 n7
  |cont=>obtain⟨σ7,H7,I7,n7⟩:=q7;exact again I7 n7
  |brk=>obtain⟨σ7,H7,I7,q7⟩:=q7;exact⟨σ7,H7,I7.mR,q7⟩
  |ret v=>obtain⟨x7,σ7,H7,I7,r7,q7⟩:=q7;exact⟨x7,σ7,H7,I7.mR,r7,q7⟩
end
abbrev R2:=V->V->Hp->VK->Prop
def fK(X:Cx)(f:Value->Value->Sem Value)(r:R2):Prop:=
 ∀(pins:List (Addr×Obj)) (s:Shared) (σ:St) (H:Hp) (x y:V) (v u:Value) (Q:VK),Inv X pins σ H s->RelV x v->RelV y u->r x y H Q->
  wpAny (model X.prog X.w) X.A (f v u) (EP X pins σ Q) X.xe s
def Tw(X:Cx)(f:Value->Sem Value)(r:V->Hp->VK->Prop):Prop:=
 ∀(pins:List (Addr×Obj)) (s:Shared) (σ:St) (H:Hp) (x:V) (v:Value) (Q:VK),Inv X pins σ H s->RelV x v->r x H Q->
  wpAny (model X.prog X.w) X.A (f v) (EP X pins σ Q) X.xe s
def di(X:Cx)(f:Value)(r:List V->Hp->VK->Prop):Prop:=
 ∀(pins:List (Addr×Obj)) (s:Shared) (σ:St) (H:Hp) (xs:List V) (us:List Value) (Q:VK),Inv X pins σ H s->Vals xs us->r xs H Q->
  wpAny (model X.prog X.w) X.A (call f us) (EP X pins σ Q) X.xe s
def PU(r:R2)(ta tb:TE):TE:=λ σ H Q=>ta σ H λ x H1=>tb σ H1 λ y H2=>r x y H2 Q
def XC(r:V->Hp->VK->Prop)(ta:TE):TE:=λ σ H Q=>ta σ H λ x H1=>r x H1 Q
def rI(C:Int->Int->Prop)(g:Int->Int->V):R2:=λ x y H Q=>∃i j,x=.int i/\y=.int j/\C i j/\Q (g i j) H
def Gw(g:Int->Int->V):R2:=λ x y H Q=>∃i j,x=.int i/\y=.int j/\Q (g i j) H
def rU(g:Int->V):V->Hp->VK->Prop:=λ x H Q=>∃i,x=.int i/\Q (g i) H
section
variable {X:Cx}{a b c:Expr}{ta tb tc:TE}{pos:Pos}
theorem OU(ha:PE X a ta)(hb:PE X b tb){pins:List (Addr×Obj)}{s:Shared}{σ:St}{H:Hp}{R:V->V->Hp->Prop}(I:Inv X pins σ H s) (h:ta σ H λ x H1=>tb σ H1 λ y H2=>R x y H2) {Q:Value->Shared->Prop} {f:Value->Value->Sem Value} (hf:∀v u s2 x y H2,Inv X pins σ H2 s2->RelV x v->RelV y u->R x y H2->wpAny (model X.prog X.w) X.A (f v u) Q X.xe s2):wpAny (model X.prog X.w) X.A (eval a X.env) (λ v s₁=>wpAny (model X.prog X.w) X.A (eval b X.env) (λ u s₂=>wpAny (model X.prog X.w) X.A (f v u) Q X.xe s₂) X.xe s₁) X.xe s:=by refine cT (ha pins s σ H _ I h) λ v s1 ⟨x,H1,I1,r1,q1⟩=>?_;refine cT (hb pins s1 σ H1 _ I1 q1) λ u s2 ⟨y,H2,I2,r2,q2⟩=>?_;exact hf v u s2 x y H2 I2 r1 r2 q2
theorem QU{op:Operator}{r:R2}(ho:fK X (binaryOp op) r)(ha:PE X a ta)(hb:PE X b tb):PE X (.BinOp a op b pos) (PU r ta tb):=by intro pins s σ H Q I h;exact wpAny_BinOp (OU ha hb I h λ v u s2 x y H2 I2 rx ry q=>ho pins s2 σ H2 x y v u Q I2 rx ry q)
theorem QR{op:UnaryOp}{r:V->Hp->VK->Prop}(ho:Tw X (unaryOp op) r)(ha:PE X a ta):PE X (.UnaryOp op a pos) (XC r ta):=by intro pins s σ H Q I h;exact UnaryOp_ (cT (ha pins s σ H _ I h) λ v s1 ⟨x,H1,I1,r1,q1⟩=>ho pins s1 σ H1 x v Q I1 r1 q1)
theorem S3{f:Value->Value->Sem Value}{C:Int->Int->Prop}{g:Int->Int->Int} (rule:∀(i j:Int) (t u:Tok) (s:Shared) (Q:Value->Shared->Prop) (E:Value->Shared->Prop),C i j->Q (.int (g i j) s.toks) {s with toks:=s.toks+1}->wpAny (model X.prog X.w) X.A (f (.int i t) (.int j u)) Q E s):fK X f (rI C λ i j=>.int (g i j)):=by intro pins s σ H x y v u Q I rx ry h;obtain⟨i,j,rfl,rfl,hc,q⟩:=h;obtain⟨t,rfl⟩:=rx;obtain⟨t',rfl⟩:=ry;exact rule i j t t' s _ _ hc ⟨.int (g i j),H,I.tok _,⟨_,rfl⟩,q⟩
theorem NF{f:Value->Value->Sem Value}{g:Int->Int->Int} (rule:∀(i j:Int) (t u:Tok) (s:Shared) (Q:Value->Shared->Prop) (E:Value->Shared->Prop),Q (.int (g i j) s.toks) {s with toks:=s.toks+1}->wpAny (model X.prog X.w) X.A (f (.int i t) (.int j u)) Q E s):fK X f (Gw λ i j=>.int (g i j)):=by intro pins s σ H x y v u Q I rx ry h;obtain⟨i,j,rfl,rfl,q⟩:=h;obtain⟨t,rfl⟩:=rx;obtain⟨t',rfl⟩:=ry;exact rule i j t t' s _ _ ⟨.int (g i j),H,I.tok _,⟨_,rfl⟩,q⟩
theorem NG{f:Value->Value->Sem Value}{g:Int->Int->Bool} (rule:∀(i j:Int) (t u:Tok) (s:Shared) (Q:Value->Shared->Prop) (E:Value->Shared->Prop),Q (.bool (g i j)) s->wpAny (model X.prog X.w) X.A (f (.int i t) (.int j u)) Q E s):fK X f (Gw λ i j=>.bl (g i j)):=by intro pins s σ H x y v u Q I rx ry h;obtain⟨i,j,rfl,rfl,q⟩:=h;obtain⟨t,rfl⟩:=rx;obtain⟨t',rfl⟩:=ry;exact rule i j t t' s _ _ ⟨.bl (g i j),H,I,rfl,q⟩
def O6(i j:Int):Prop:=0 < j/\j < 1073741824
def Su(i j:Int):Prop:=0<=j/\j<=1000000/\i.natAbs < 2^64
def sH(i j:Int):Prop:=(-(2^64) < i/\i < 2^64)\/(-(2^64) < j/\j < 2^64)
theorem sH.ok {i j:Int}(h:sH i j):IntMulOk i j:=by
 rcases h with⟨h1,h2⟩|⟨h1,h2⟩
 ·exact .of_left (intBits_le_64 h1 h2)
 ·exact .of_right (intBits_le_64 h1 h2)
theorem ND:fK X (binaryOp .Add) (Gw λ i j=>.int (i+j)):=NF λ _ _ _ _ _ _ _ q=>add_int q
theorem Nt:fK X (binaryOp .Sub) (Gw λ i j=>.int (i - j)):=NF λ _ _ _ _ _ _ _ q=>sub_int q
theorem Nx:fK X (binaryOp .Mult) (rI sH λ i j=>.int (i*j)):=S3 λ _ _ _ _ _ _ _ hc q=>mul_int q hc.ok
theorem IW:fK X (binaryOp .FloorDiv) (rI O6 λ i j=>.int (i / j)):=S3 λ i j _ _ _ _ _ hc q=>by have h1:(0:Int) < j:=hc.1;have h2:j < 1073741824:=hc.2;exact floordiv_int (by omega) (by rw[Int.fdiv_eq_ediv_of_nonneg i (by omega)];exact q) (.inl (PyProof.noPylong_small (by omega)))
theorem Ny:fK X (binaryOp .Mod) (rI (λ _ j=>0 < j) λ i j=>.int (i % j)):=S3 λ i j _ _ _ _ _ hc q=>by have h1:(0:Int) < j:=hc;exact mod_int' (by omega) (by rw[Int.fmod_eq_emod_of_nonneg i (by omega)];exact q)
theorem Nv:fK X (binaryOp .Pow) (rI Su λ i j=>.int (i^j.toNat)):=S3 λ _ _ _ _ _ _ _ hc q=>pow_int_small hc.1 hc.2.1 hc.2.2 q
theorem Nr:fK X (binaryOp .BitXor) (Gw λ i j=>.int (Builtin.bitXor i j)):=NF λ _ _ _ _ _ _ _ q=>xor_int q
theorem Xx{f:Value->Sem Value}{g:Int->Int} (rule:∀(i:Int) (t:Tok) (s:Shared) (Q:Value->Shared->Prop) (E:Value->Shared->Prop),Q (.int (g i) s.toks) {s with toks:=s.toks+1}->wpAny (model X.prog X.w) X.A (f (.int i t)) Q E s):Tw X f (rU λ i=>.int (g i)):=by intro pins s σ H x v Q I rx h;obtain⟨i,rfl,q⟩:=h;obtain⟨t,rfl⟩:=rx;exact rule i t s _ _ ⟨.int (g i),H,I.tok _,⟨_,rfl⟩,q⟩
theorem Lz:Tw X (unaryOp .USub) (rU λ i=>.int (-i)):=Xx λ _ _ _ _ _ q=>neg_int q
end
def Qc:V->V->Bool
 | .bx,.bx=>true| .bx,.int _=>true| .int _,.bx=>true| .bx,.bl _=>true| .bl _,.bx=>true| .bx,.str _=>true| .str _,.bx=>true
 | .int _,.int _=>true| .bl _,.bl _=>true| .str _,.str _=>true| .F_ _,.F_ _=>true
 | .int _,.str _=>true| .str _,.int _=>true| .bl _,.str _=>true| .str _,.bl _=>true
 |_,_=>false
def XT:R2:=λ x y H Q=>Qc x y=true/\Q (.bl (decide (x=y))) H
def XQ:R2:=λ x y H Q=>Qc x y=true/\Q (.bl (!decide (x=y))) H
theorem zg{i j:Int}:decide (V.int i=V.int j)=(i==j):=by rw[A3];simp
theorem FI{i j:Bool}:decide (V.bl i=V.bl j)=(i==j):=by rw[A3];simp
theorem ze{i j:Str}:decide (V.str i=V.str j)=(i==j):=by rw[A3];simp
theorem zi{i j:Array UInt8}:decide (V.F_ i=V.F_ j)=(i.toList==j.toList):=by rw[A3];cases i;cases j;simp
section
variable {X:Cx}{a b c:Expr}{ta tb tc:TE}{pos:Pos}
theorem ba{pins:List (Addr×Obj)}{σ:St}{H:Hp}{s:Shared}{Q:VK}{k k':Bool}(I:Inv X pins σ H s)(q:Q (.bl k) H)(e:k=k'):EP X pins σ Q (.bool k') s:=by subst e;exact⟨.bl k,H,I,rfl,q⟩
theorem Q5:fK X (compareOp .Eq) XT:=by
 intro pins s σ H x y v u Q I rx ry h;obtain⟨hs,q⟩:=h;cases x with
 |bx=>
  cases rx;cases y with
  |bx=>cases ry;exact PySem.EqNone.eq_none_none (ba I q (by simp))
  |bl j=>cases ry;exact PySem.EqNone.eq_none_bool (ba I q (by simp))
  |int j=>obtain⟨t',rfl⟩:=ry;exact PySem.EqNone.eq_none_int (ba I q (by simp))
  |str j=>obtain⟨t',rfl⟩:=ry;exact PySem.EqNone.eq_none_str (ba I q (by simp))
  |_=>exact absurd (show false=true from hs) n9
 |bl i=>
  cases rx;cases y with
  |bx=>cases ry;exact PySem.EqNone.eq_bool_none (ba I q (by simp))
  |bl j=>cases ry;exact eq_bool (ba I q FI)
  |str j=>obtain⟨t',rfl⟩:=ry;exact PySem.EqMixed.eq_bool_str (ba I q (by simp))
  |_=>exact absurd (show false=true from hs) n9
 |int i=>
  obtain⟨t,rfl⟩:=rx;cases y with
  |bx=>cases ry;exact PySem.EqNone.eq_int_none (ba I q (by simp))
  |int j=>obtain⟨t',rfl⟩:=ry;exact eq_int (ba I q zg)
  |str j=>obtain⟨t',rfl⟩:=ry;exact PySem.EqMixed.eq_int_str (ba I q (by simp))
  |_=>exact absurd (show false=true from hs) n9
 |str i=>
  obtain⟨t,rfl⟩:=rx;cases y with
  |bx=>cases ry;exact PySem.EqNone.eq_str_none (ba I q (by simp))
  |bl j=>cases ry;exact PySem.EqMixed.eq_str_bool (ba I q (by simp))
  |int j=>obtain⟨t',rfl⟩:=ry;exact PySem.EqMixed.eq_str_int (ba I q (by simp))
  |str j=>obtain⟨t',rfl⟩:=ry;exact eq_str (ba I q ze)
  |_=>exact absurd (show false=true from hs) n9
 |F_ i=>
  obtain⟨t,rfl⟩:=rx;cases y with
  |F_ j=>obtain⟨t',rfl⟩:=ry;exact PySem.W.eq_bytes (ba I q zi)
  |_=>exact absurd (show false=true from hs) n9
 |_=>cases y <;> exact absurd (show false=true from hs) n9
theorem Q0:fK X (compareOp .NotEq) XQ:=by
 intro pins s σ H x y v u Q I rx ry h;obtain⟨hs,q⟩:=h;cases x with
 |bx=>
  cases rx;cases y with
  |bx=>cases ry;exact PySem.EqNone.ne_none_none (ba I q (by simp))
  |bl j=>cases ry;exact PySem.EqNone.ne_none_bool (ba I q (by simp))
  |int j=>obtain⟨t',rfl⟩:=ry;exact PySem.EqNone.ne_none_int (ba I q (by simp))
  |str j=>obtain⟨t',rfl⟩:=ry;exact PySem.EqNone.ne_none_str (ba I q (by simp))
  |_=>exact absurd (show false=true from hs) n9
 |bl i=>
  cases rx;cases y with
  |bx=>cases ry;exact PySem.EqNone.ne_bool_none (ba I q (by simp))
  |bl j=>cases ry;exact ne_bool (ba I q (J4 not FI))
  |str j=>obtain⟨t',rfl⟩:=ry;exact PySem.EqMixed.ne_bool_str (ba I q (by simp))
  |_=>exact absurd (show false=true from hs) n9
 |int i=>
  obtain⟨t,rfl⟩:=rx;cases y with
  |bx=>cases ry;exact PySem.EqNone.ne_int_none (ba I q (by simp))
  |int j=>obtain⟨t',rfl⟩:=ry;exact ne_int (ba I q (J4 not zg))
  |str j=>obtain⟨t',rfl⟩:=ry;exact PySem.EqMixed.ne_int_str (ba I q (by simp))
  |_=>exact absurd (show false=true from hs) n9
 |str i=>
  obtain⟨t,rfl⟩:=rx;cases y with
  |bx=>cases ry;exact PySem.EqNone.ne_str_none (ba I q (by simp))
  |bl j=>cases ry;exact PySem.EqMixed.ne_str_bool (ba I q (by simp))
  |int j=>obtain⟨t',rfl⟩:=ry;exact PySem.EqMixed.ne_str_int (ba I q (by simp))
  |str j=>obtain⟨t',rfl⟩:=ry;exact ne_str (ba I q (J4 not ze))
  |_=>exact absurd (show false=true from hs) n9
 |F_ i=>
  obtain⟨t,rfl⟩:=rx;cases y with
  |F_ j=>obtain⟨t',rfl⟩:=ry;exact PySem.W.ne_bytes (ba I q (J4 not zi))
  |_=>exact absurd (show false=true from hs) n9
 |_=>cases y <;> exact absurd (show false=true from hs) n9
theorem Q1:fK X (compareOp .Lt) (Gw λ i j=>.bl (decide (i < j))):=NG λ _ _ _ _ _ _ _ q=>lt_int q
theorem Q3:fK X (compareOp .Gt) (Gw λ i j=>.bl (decide (j < i))):=NG λ _ _ _ _ _ _ _ q=>gt_int q
theorem Q4:fK X (compareOp .GtE) (Gw λ i j=>.bl (decide (j<=i))):=NG λ _ _ _ _ _ _ _ q=>ge_int q
theorem AJ:fK X (compareOp .In) (λ x y H Q=>∃i j,x=.str i/\y=.str j/\Q (.bl (!(Builtin.Str.occurrences j i 0 j.length 1).isEmpty)) H):=by intro pins s σ H x y v u Q I rx ry h;obtain⟨i,j,rfl,rfl,q⟩:=h;obtain⟨t,rfl⟩:=rx;obtain⟨t',rfl⟩:=ry;exact in_str (ba I q rfl)
theorem Nz:fK X (compareOp .Is) (λ x y H Q=>y=.bx/\Q (.bl (decide (x=.bx))) H):=by
 intro pins s σ H x y v u Q I rx ry h;obtain⟨rfl,q⟩:=h;cases ry;refine is_none_gen (ba I q ?_);cases x <;> first
  |(cases rx;rfl)
  |(obtain⟨t,rfl⟩:=rx;rfl)
theorem fK.or {f:Value->Value->Sem Value}{r r':R2}(h:fK X f r)(h':fK X f r'):fK X f (λ x y H Q=>r x y H Q\/r' x y H Q):=by
 intro pins s σ H x y v u Q I rx ry q;rcases q with q|q
 ·exact h pins s σ H x y v u Q I rx ry q
 ·exact h' pins s σ H x y v u Q I rx ry q
theorem aH(b:Expr){op:CmpOp}(h:op≠.In:=by decide)(h2:op≠.NotIn:=by decide):behindInMarks op b=false:=by
 have e1:(op==CmpOp.In)=false:=by cases op <;> first|rfl|exact absurd rfl h
 have e2:(op==CmpOp.NotIn)=false:=by cases op <;> first|rfl|exact absurd rfl h2
 cases b <;> simp[behindInMarks,e1,e2]
theorem IL{op:CmpOp}{r:R2}(ho:fK X (compareOp op) r)(ha:PE X a ta)(hb:PE X b tb)(hm:behindInMarks op b=false):PE X (.Compare a [op] [b] pos) (PU r ta tb):=by intro pins s σ H Q I h;exact wpAny_Compare1 (OU ha hb I h λ v u s2 x y H2 I2 rx ry q=>ho pins s2 σ H2 x y v u Q I2 rx ry q) hm
def PN(t:TE):TT:=λ σ H Q=>t σ H λ x H'=>∃k,x=.bl k/\Q k H'
theorem Iv{op:CmpOp}{r:R2}(ho:fK X (compareOp op) r)(ha:PE X a ta)(hb:PE X b tb)(hm:behindInMarks op b=false):PT X (.Compare a [op] [b] pos) (PN (PU r ta tb)):=by
 intro pins s σ H Q I h;refine wpAny_isTrue_Compare1 (cT (ha pins s σ H _ I h) λ v s1 ⟨x,H1,I1,r1,q1⟩=>cT (hb pins s1 σ H1 _ I1 q1) λ u s2 ⟨y,H2,I2,r2,q2⟩=>
  cT (ho pins s2 σ H2 x y v u _ I2 r1 r2 q2) λ c s3 ⟨z,H3,I3,r3,k,e,q3⟩=>?_) hm
 subst e;cases r3;exact wpAny_truthy_bool ⟨H3,I3,q3⟩
theorem kJ:(sizeLine:Nat) < 2^63:=by rw[G6];decide
theorem wu:fK X (binaryOp .Add) (λ x y H Q=>∃i j,x=.str i/\y=.str j/\i.length+j.length<=sizeLine/\Q (.str (i++j)) H):=by intro pins s σ H x y v u Q I rx ry h;obtain⟨i,j,rfl,rfl,hz,q⟩:=h;obtain⟨t,rfl⟩:=rx;obtain⟨t',rfl⟩:=ry;exact add_str (λ t' tk=>⟨.str (i++j),H,I.tok _,⟨_,rfl⟩,q⟩) hz
theorem vals1{x:V}{us:List Value}(r:Vals [x] us):∃u,us=[u]/\RelV x u:=by
 cases r with
 |cons r1 r2=>cases r2;exact⟨_,rfl,r1⟩
theorem vals2{x y:V}{us:List Value}(r:Vals [x,y] us):∃u w',us=[u,w']/\RelV x u/\RelV y w':=by
 cases r with
 |cons r1 r2=>
  cases r2 with
  |cons r3 r4=>cases r4;exact⟨_,_,rfl,r1,r3⟩
theorem Bv(hc:X.calm=true):di X (.builtin "max") (λ xs H Q=>∃i j,xs=[.int i,.int j]/\Q (.int (if j > i then j else i)) H):=by
 intro pins s σ H xs us Q I r h;obtain⟨i,j,rfl,q⟩:=h;obtain⟨u,w',rfl,⟨t,rfl⟩,⟨t',rfl⟩⟩:=vals2 r;refine max_two_ints (I.ok.hd hc) λ h' tk k=>⟨_,H,I.kept k,?_,q⟩;by_cases hj:j > i
 ·rw[J6 hj,J6 hj];exact⟨_,rfl⟩
 ·rw[J7 hj,J7 hj];exact⟨_,rfl⟩
theorem Bx:di X (.type "int") (λ xs H Q=>(∃i,xs=[.int i]/\Q (.int i) H)\/∃k,xs=[.bl k]/\Q (.int (if k then 1 else 0)) H):=by
 intro pins s σ H xs us Q I r h;rcases h with⟨i,rfl,q⟩|⟨k,rfl,q⟩
 ·obtain⟨u,rfl,t,rfl⟩:=vals1 r;exact call_int_int ⟨.int i,H,I,⟨_,rfl⟩,q⟩
 ·obtain⟨u,rfl,r1⟩:=vals1 r;cases r1;exact call_int_bool ⟨.int (if k then 1 else 0),H,I.tok _,⟨_,rfl⟩,q⟩
end
structure O3(h:Heap)(x dx C:Addr)(mA:Str->Option Value):Prop where
 obj:h.get? x=some (PySem.W.instObj C dx)
 ns:h.Ns1 dx mA
 ne:dx≠x
set_option tactic.hygienic true in
theorem AU{h:Heap}{dx:Addr}{mA:Str->Option Value}(n:h.Ns1 dx mA):∃od,h.get? dx=some od/\∀name,PySem.W.lookIn name od=some (mA name):=by
 obtain⟨o,es,ep,ho,hd,hk,_,hm⟩:=n;refine⟨o,ho,λ name=>?_⟩;have e:=hm name;unfold nsFind findBy at e;rw[<- Array.find?_toList]at e;unfold PySem.W.lookIn;rw[hd];dsimp only;split
 ·rename_i y q;rw[q]at e;exact J4 some e
 ·rename_i q;rw[q]at e;have a:es.toList.any (·.refKey)=false:=by rw[List.any_eq_false];intro y hy;obtain⟨z,t,Fc⟩:=hk y (Array.mem_toList_iff.mp hy);simp[DictEntry.refKey,Fc]
  have a':¬es.toList.any (·.refKey)=true:=by rw[a];exact n9
  rw[J7 a'];exact J4 some e
theorem O3.look {h:Heap}{x dx C:Addr}{mA:Str->Option Value}(I:O3 h x dx C mA):∃od,PySem.W.InstAt h x (PySem.W.instObj C dx) C (some od)/\∀name,PySem.W.lookIn name od=some (mA name):=
 let⟨od,ho,hl⟩:=AU I.ns
 ⟨od,⟨I.obj,rfl,rfl,ho⟩,hl⟩
theorem jZ.some_of {v:V}{o:Option Value}(r:jZ (some v) o):∃u,o=some u/\RelV v u:=by
 cases o with
 |none=>exact(show False from r).elim
 |some u=>exact⟨u,rfl,r⟩
section
variable {P:Program}{w:World}{H H':Hp}{h h':Heap}{a C dx:Addr}{fs Zh:List (Str×V)}
theorem JG(bh:gj P w H h)(e:H a=some (.ins C dx fs)):∃mA,O3 h a dx C mA/\(∀f,jZ (fs.lookup f) (mA f))/\PySem.Within mA (fs.map (·.1))/\fs.length<=1000/\H dx=some (.own a):=by obtain⟨d,z,ne,ob,mA,n,r,q⟩:=(show bq P w H h a (.ins C dx fs)from bh a _ e);exact⟨mA,⟨ob,n,ne⟩,r,q,z,d⟩
end
structure V9(K:J8)(C:Addr):Prop where
 pg:PySem.W.plainGet K C Str.empty=true
 hd:PySem.W.hasDictIn K C=true
 po:PySem.W.plainOver K C=true
 sa:PySem.W.findIn K (.ref C) "__setattr__"=some (some (.builtin "object.__setattr__"))
theorem V9.get {K:J8}{C:Addr}(c:V9 K C)(f:Str):PySem.W.plainGet K C f=true:=c.pg
section
variable {X:Cx}{pins:List (Addr×Obj)}{σ:St}{H:Hp}{s:Shared}{A:Around}{E:Value->Shared->Prop}{Q:Value->Shared->Prop}{c:Value}{b:Bool}
inductive lN(K:J8)(H:Hp):V->Value->Prop where
 |bx:lN K H .bx (.type "NoneType")
 |bl (x:Bool):lN K H (.bl x) (.type "bool")
 |int (i:Int):lN K H (.int i) (.type "int")
 |str (x:Str):lN K H (.str x) (.type "str")
 |Pq (x:UInt64):lN K H (.Pq x) (.type "float")
 |lst {a:Addr} {xs:List V} (e:H a=some (.lst xs)):lN K H (.ref a) (.type "list")
 |cQ {a:Addr} {o:Obj} {xs:List V} (e:H a=some (.cQ o (.lst xs))):lN K H (.ref a) (.type "list")
 |tup {a:Addr} {xs:List V} (e:H a=some (.tup xs)):lN K H (.ref a) (.type "tuple")
 |dK {a:Addr} {kvs:List (Key×V)} (e:H a=some (.dK kvs)):lN K H (.ref a) (.type "dict")
 |dT {a:Addr} {kvs:List (List Key×V)} (e:H a=some (.dT kvs)):lN K H (.ref a) (.type "dict")
 |ins {a C dx:Addr} {fs:List (Str×V)} (e:H a=some (.ins C dx fs)) (cl:V9 K C) (ha:PySem.W.findIn K (.ref C) "__class__"=some (some (.builtin "object.__class__")))
   (hn:PySem.W.specialIn K (.builtin "object.__class__") "__get__"=some (some (.builtin "getset_descriptor.__get__"))) (Wu:PySem.W.takesIn K (.builtin "object.__class__")=some true)
   (hm:PySem.W.mroIn K C (.type "object")=some true):lN K H (.ref a) (.ref C)
theorem ir{x:V}{u t:Value}(I:Inv X pins σ H s)(rx:RelV x u)(ty:lN X.K H x t)(e:PySem.W.kitOne X.K t c=some b)(h:∀tk,Q (.bool b) {s with toks:=tk}):wpAny (model X.prog X.w) A (call (.builtin "isinstance") [u,c]) Q E s:=by
 cases ty with
 |bx=>cases(show u=Value.none from rx);exact B3 PySem.W.kitx_none I.oY True.intro e (λ z=>nomatch z) h
 |bl y=>cases(show u=Value.bool y from rx);exact B3 PySem.W.kitx_bool I.oY True.intro e (λ z=>nomatch z) h
 |int i=>obtain⟨t,q⟩:=(show ∃t,u=Value.int i t from rx);cases q;exact B3 PySem.W.kitx_int I.oY True.intro e (λ z=>nomatch z) h
 |str y=>obtain⟨t,q⟩:=(show ∃t,u=Value.str y t from rx);cases q;exact B3 PySem.W.kitx_str I.oY True.intro e (λ z=>nomatch z) h
 |Pq y=>obtain⟨t,q⟩:=(show ∃t,u=Value.float y t from rx);cases q;exact B3 PySem.W.kitx_float I.oY True.intro e (λ z=>nomatch z) h
 |@lst a xs ea=>cases(show u=Value.ref a from rx);obtain⟨_,_,n,_,h1⟩:=(show bq X.prog X.w H s.heap a (.lst xs)from I.bh a _ ea);exact B3 PySem.W.kitx_list I.oY ⟨_,h1,rfl⟩ e (λ z=>nomatch z) h
 |@cQ a ob xs ea=>cases(show u=Value.ref a from rx);obtain⟨_,_,_,n,_,h1⟩:=(show bq X.prog X.w H s.heap a (.cQ ob (.lst xs))from I.bh a _ ea);exact B3 PySem.W.kitx_list I.oY ⟨_,h1,rfl⟩ e (λ z=>nomatch z) h
 |@tup a xs ea=>cases(show u=Value.ref a from rx);obtain⟨_,_,_,p⟩:=(show bq X.prog X.w H s.heap a (.tup xs)from I.bh a _ ea);obtain⟨o,h1,h2,_⟩:=p;exact B3 PySem.W.kitx_tuple I.oY ⟨o,h1,h2⟩ e (λ z=>nomatch z) h
 |@dK a kvs ea=>cases(show u=Value.ref a from rx);obtain⟨_,_,vs,_,p⟩:=(show bq X.prog X.w H s.heap a (.dK kvs)from I.bh a _ ea);obtain⟨o,es,ep,h1,h2,_⟩:=p;exact B3 PySem.W.kitx_dict I.oY ⟨o,h1,h2.1⟩ e (λ z=>nomatch z) h
 |@dT a kvs ea=>cases(show u=Value.ref a from rx);obtain⟨_,_,xs,_,o,es,ep,h1,h2,_⟩:=(show bq X.prog X.w H s.heap a (.dT kvs)from I.bh a _ ea);exact B3 PySem.W.kitx_dict I.oY ⟨o,h1,h2.1⟩ e (λ z=>nomatch z) h
 |@ins a C dx fs ea cl ha hn Wu hm=>cases(show u=Value.ref a from rx);obtain⟨mA,O,_⟩:=JG I.bh ea;obtain⟨od,J,_⟩:=O.look;exact B3 (PySem.W.kitx_own (cl.get _) cl.hd ha hn Wu hm) I.oY J e (λ z=>nomatch z) h
end
structure cM(k:Nat)(A:Around):Prop where
 hd:A.handled=none
 dp:A.depth+2*k+5 < recursionLimit
 un:A.units+16*k+200 < cLine
theorem cM.mono {j k:Nat}{A:Around}(r:cM k A)(h:j<=k):cM j A:=⟨r.hd,by have:=r.dp;omega,by have:=r.un;omega⟩
theorem cM.deeper {k:Nat}{A:Around}(r:cM (k+1) A)(env:Env):cM k (A.deeper env):=
 ⟨r.hd,by have:=r.dp;show A.depth+1+2*k+5 < _;omega,by have:=r.un;show A.units+3+16*k+200 < _;omega⟩
theorem cM.depth {k:Nat}{A:Around}(r:cM k A):A.depth < recursionLimit:=by have:=r.dp;omega
theorem cM.units {k:Nat}{A:Around}(r:cM k A):A.units+64 < cLine:=by have:=r.un;omega
def PV:TA:=λ _ H Q=>Q [] H
def Kz(ta:TE)(tr:TA):TA:=λ σ H Q=>ta σ H λ x H1=>tr σ H1 λ xs H2=>Q (x::xs) H2
section
variable {X:Cx}{e:Expr}{es:List Expr}{te:TE}{t:TA}{pos:Pos}
theorem rA:PA X [] PV:=λ _ _ _ _ H Q I h=>Calls.spliced_nil ⟨[],H,I,.nil,h⟩
theorem ma(ha:PE X e te)(hr:PA X es t)(hs:starEach (e::es) X.env=(false,eval e X.env)::starEach es X.env:=by rfl):PA X (e::es) (Kz te t):=by intro pos pins s σ H Q I h;rw[hs];show wpAny _ _ (spliced ((false,eval e X.env)::backTo pos (starEach es X.env))) _ _ s;refine Calls.spliced_cons (cT (ha pins s σ H _ I h) λ u s1 ⟨x,H1,I1,r1,q1⟩=>?_);exact cT (hr pos pins s1 σ H1 _ I1 q1) λ us s2 ⟨xs,H2,I2,r2,q2⟩=>⟨x::xs,H2,I2,.cons r1 r2,q2⟩
def TV(t:TA):TE:=λ σ H Q=>t σ H λ xs H1=>xs.length<=sizeLine/\∀p,H1 p=none->Q (.ref p) (upd H1 p (.tup xs))
def T3(t:TA):TE:=λ σ H Q=>t σ H λ xs H1=>xs.length<=sizeLine/\∀p,H1 p=none->Q (.ref p) (upd H1 p (.lst xs))
theorem Nf{x1}(h:PA X es t):PE X (.Tuple es x1 pos) (TV t):=by intro pins s σ H Q I hq;refine wpAny_Tuple_spliced (cT (h pos pins s σ H _ I hq) λ us s1 ⟨xs,H1,I1,r,z,q⟩=>⟨by rw[<- r.length];exact z,?_⟩);have hf:H1 s1.heap.objs.size=none:=I1.bh.fresh (G5 _);refine⟨.ref s1.heap.objs.size,upd H1 s1.heap.objs.size (.tup xs),I1.laid (t':=s1.toks) (λ b u e=>j4 _ e) (G5 _) ?_,rfl,q _ hf⟩;exact⟨z,us,r,⟨_,m8 _ rfl,rfl,_,rfl⟩⟩
theorem Nj(h:PA X es t):PE X (.List es pos) (T3 t):=by intro pins s σ H Q I hq;refine wpAny_List_spliced (cT (h pos pins s σ H _ I hq) λ us s1 ⟨xs,H1,I1,r,z,q⟩=>⟨by rw[<- r.length];exact z,?_⟩);have hf:H1 s1.heap.objs.size=none:=I1.bh.fresh (G5 _);refine⟨.ref s1.heap.objs.size,upd H1 s1.heap.objs.size (.lst xs),I1.laid (t':=s1.toks) (λ b u e=>j4 _ e) (G5 _) ?_,rfl,q _ hf⟩;exact⟨z,us,0,r,m8 _ rfl⟩
end
abbrev Sp:=List V->Hp->VK->XK->Prop
abbrev GJ:=List Env->Hp->Shared->XK->Value->Shared->Prop
structure oD(P:Program)(w:World)(K:J8)(mg:Str->Option Value)(base:Heap)(A:Around)(outer:List Env)(s:Shared)(H:Hp):Prop where
 frames:A.frames=some outer
 mod:Mod K mg base
 bs:∀b o,base.get? b=some o->s.heap.get? b=some o/\H b=none
 Bz:base.objs.size<=s.heap.objs.size
 iY:s.heap.FunFrames base outer
 JS:∀b∈sN outer,H b=none
 bh:gj P w H s.heap
 bare:AllBare s.gens
def CE(outer:List Env)(P:Program)(w:World)(H:Hp)(s:Shared)(Q:VK)(u:Value)(s':Shared):Prop:=
 ∃v H',s'.os=s.os/\AllBare s'.gens/\Un (sN outer) [] H H' s.heap s'.heap/\gj P w H' s'.heap/\RelV v u/\Q v H'
def CR(CX:GJ)(outer:List Env)(P:Program)(w:World)(H:Hp)(s:Shared)(Q:VK)(E:XK)(r:Result)(s':Shared):Prop:=
 match r with
 | .ok (.ret u)=>CE outer P w H s Q u s'
 | .ok _=>False
 | .error e=>CX outer H s E e s'
structure cw(P:Program)(w:World)(K:J8)(mg:Str->Option Value)(base:Heap)(CX:GJ)(k:Nat)(f:Addr)(fd:FuncData)(ps:List Str)(sp:Sp):Prop where
 len:∀vs H Q E,sp vs H Q E->vs.length=ps.length
 run:∀(A:Around) (outer:List Env) (s:Shared) (H:Hp) (args:Args) (us:List Value) (vs:List V) (Q:VK) (E:XK),cM k A->oD P w K mg base A outer s H->BindsTo s fd args (ps.zip us)->Vals vs us->sp vs H Q E->
  codeAny (model P w) A (.call (.ref f) args) (CR CX outer P w H s Q E) s
section
variable {X:Cx}{pins:List (Addr×Obj)}{σ:St}{H:Hp}{s s':Shared}
theorem Inv.OG (I:Inv X pins σ H s):oD X.prog X.w X.K X.mg X.base X.A X.stack s H:=
 ⟨I.ok.frames,I.ok.mod,I.bs,D8 I.ok.Bz I.sz,I.stack,I.qU,I.bh,I.bare⟩
theorem Inv.after {Q:VK}{u:Value}(I:Inv X pins σ H s)(h:CE X.stack X.prog X.w H s Q u s'):EP X pins σ Q u s':=by obtain⟨v,H',os,bare,un,bh,r,q⟩:=h;obtain⟨hh,g,d,t,Uz⟩:=s';obtain rfl:Uz=s.os:=os;exact⟨v,H',I.call (h':=hh) (g':=g) (d':=d) (t':=t) (ch:=[]) un bh bare (λ b z=>absurd z (by simp)),r,q⟩
end
def KA(sp:Sp)(sO:List V)(E:XK)(t:TA):TE:=λ σ H Q=>t σ H λ vs H1=>sp (vs++sO) H1 Q E
def Binds(K:J8)(fd:FuncData)(ps:List Str)(ds:List Value):Prop:=
 ∀(s:Shared) (us:List Value),K.In s.heap->(us++ds).length=ps.length->BindsTo s fd ⟨us,[]⟩ (ps.zip (us++ds))
theorem Binds.all {K:J8}{fd:FuncData}{ps:List Str}(h:∀us:List Value,us.length=ps.length->bindArgs fd ⟨us,[]⟩=pure (ps.zip us)):Binds K fd ps []:=λ s us _ hl=>by rw[A4]at hl ⊢;exact .of_eq (h us hl)
def Passes(CX:GJ)(X:Cx)(E:XK):Prop:=∀(pins:List (Addr×Obj)) (σ:St) (H:Hp) (s:Shared) (e:Value) (s':Shared),Inv X pins σ H s->CX X.stack H s E e s'->X.xe e s'
section
variable {X:Cx}{CX:GJ}{k:Nat}{f C:Addr}{fd:FuncData}{ps:List Str}{sp:Sp}{sO:List V}{ds:List Value}{E:XK}{x m:Str}{p pos apos:Pos}{e o:Expr}{es:List Expr}{ta:TE}{t:TA}
theorem L8{pins:List (Addr×Obj)}{σ:St}{H:Hp}{s:Shared}{Q:VK}{us:List Value}{vs:List V}(F:cw X.prog X.w X.K X.mg X.base CX k f fd ps sp)(hr:cM k X.A)(hb:Binds X.K fd ps ds)(hd:Vals sO ds)(hx:Passes CX X E) (I:Inv X pins σ H s) (r:Vals vs us) (h:sp (vs++sO) H Q E):wpAny (model X.prog X.w) X.A (call (.ref f) us) (EP X pins σ Q) X.xe s:=by
 have r2:Vals (vs++sO) (us++ds):=r.append hd;have hl:(us++ds).length=ps.length:=by rw[<- r2.length];exact F.len _ _ _ _ h
 refine wpAny_call (E7 (F.run X.A X.stack s H ⟨us,[]⟩ (us++ds) (vs++sO) Q E hr I.OG (hb s us I.oY hl) r2 h) λ r s' hq=>?_);cases r with
 |error e=>exact hx pins σ H s e s' I hq
 |ok fl=>
  cases fl with
  |ret u=>exact I.after hq
  |next=>exact False.elim hq
  |brk=>exact False.elim hq
  |cont=>exact False.elim hq
theorem IM(F:cw X.prog X.w X.K X.mg X.base CX k f fd ps sp)(hr:cM k X.A)(hg:Gl X x)(hm:X.mg x=some (.ref f))(hk:PySem.W.keepIn X.K (.ref f)=true)(hb:Binds X.K fd ps ds)(hd:Vals sO ds)(hx:Passes CX X E) (ha:PA X (e::es) t) (hdb:(x==("__debug__":Str))=false:=by decide) (he:starEach (e::es) X.env=(false,eval e X.env)::starEach es X.env:=by rfl) (hpl:(backTo pos (starEach es X.env)).any (·.1)=false:=by rfl):PE X (.Call (.Name x p) (e::es) [] pos) (KA sp sO E t):=by intro pins s σ H Q I h;refine p8 (yD I hg hm ?_ hdb);refine PySem.W.callWith_K (h₀:=X.base) I.ok.mod.Rm hk (cT (ha pos pins s σ H _ I h) λ us s1 ⟨vs,H1,I1,r,q⟩=>⟨I1.oY,?_⟩) he hpl;exact L8 F hr hb hd hx I1 r q
end
structure aM(N P:List Str)(sc:Scope):Prop where
 kind:sc.kind=.function
 co:sc.isCoroutine=false
 gen:sc.isGenerator=false
 nd:N.Nodup
 pre:N.take P.length=P
 par:∀x∈P,sc.names.lookup x=some .local\/sc.names.lookup x=some .cell
 NP:∀y∈sc.names,y.2≠.free
theorem qC{kindOf:Str->Option NameKind}{x:Str}:∀{binds:List (Str×Value)} {m:Str->Option Value},(∀v,(x,v)∉binds)->bindL kindOf binds m x=m x
 |[],_,_=>rfl
 |(n,v)::r,m,h=>by
  unfold bindL;rw[qC λ w hw=>h w (k8 _ hw)];split
  ·have:x≠n:=by rintro rfl;exact h v n6
   simp[this]
  ·rfl
theorem qE{kindOf:Str->Option NameKind}{x:Str}:∀{binds:List (Str×Value)} {m:Str->Option Value},(∀v,(x,v)∉binds)->bindC kindOf binds m x=m x
 |[],_,_=>rfl
 |(n,v)::r,m,h=>by
  unfold bindC;rw[qE λ w hw=>h w (k8 _ hw)];split
  ·rfl
  ·have:x≠n:=by rintro rfl;exact h v n6
   simp[this]
theorem qD{kindOf:Str->Option NameKind}{x:Str}{v:Value}:∀{P:List Str} {vs:List Value} {i:Nat} {m:Str->Option Value},P.Nodup->P[i]?=some x->vs[i]?=some v->kindOf x=some .local->
  bindL kindOf (P.zip vs) m x=some v
 |[],_,_,_,_,h,_,_=>by simp at h
 |_::_,[],_,_,_,_,h,_=>by simp at h
 |p::P,w::vs,0,m,nd,h1,h2,hk=>by simp at h1 h2;subst h1;subst h2;show bindL kindOf ((p,w)::P.zip vs) m p=_;unfold bindL;rw[qC λ v hv=>(nodup_cons.mp nd).1 (of_mem_zip hv).1,J6 hk];simp
 |p::P,w::vs,i+1,m,nd,h1,h2,hk=>by show bindL kindOf ((p,w)::P.zip vs) m x=_;unfold bindL;exact qD (i:=i) (nodup_cons.mp nd).2 (by simpa using h1) (by simpa using h2) hk
theorem qF{kindOf:Str->Option NameKind}{x:Str}{v:Value}:∀{P:List Str} {vs:List Value} {i:Nat} {m:Str->Option Value},P.Nodup->P[i]?=some x->vs[i]?=some v->kindOf x≠some .local->
  bindC kindOf (P.zip vs) m x=some v
 |[],_,_,_,_,h,_,_=>by simp at h
 |_::_,[],_,_,_,_,h,_=>by simp at h
 |p::P,w::vs,0,m,nd,h1,h2,hk=>by simp at h1 h2;subst h1;subst h2;show bindC kindOf ((p,w)::P.zip vs) m p=_;unfold bindC;rw[qE λ v hv=>(nodup_cons.mp nd).1 (of_mem_zip hv).1,J7 hk];simp
 |p::P,w::vs,i+1,m,nd,h1,h2,hk=>by show bindC kindOf ((p,w)::P.zip vs) m x=_;unfold bindC;exact qF (i:=i) (nodup_cons.mp nd).2 (by simpa using h1) (by simpa using h2) hk
def start(N:List Str)(vs:List V):St:=vs.map some++List.replicate (N.length - vs.length) none
def pA(CX:GJ)(P:Program)(w:World)(K:J8)(mg:Str->Option Value)(base:Heap)(N:List Str)(qual:Str)(scope:Scope)(f:Addr)(cd:Value)(A:Around)(outer:List Env)(s:Shared)(H:Hp)(E:XK):Cx where
 prog:=P
 w:=w
 K:=K
 mg:=mg
 base:=base
 A:=A.deeper (envOfC qual scope s.heap.objs.size f cd)
 N:=N
 s₀:=s
 H₀:=H
 env:=envOfC qual scope s.heap.objs.size f cd
 outer:=outer
 stack:=envOfC qual scope s.heap.objs.size f cd::outer
 ex:=[]
 calm:=true
 fn:=λ _=>true
 pn:=[]
 xe:=λ e s'=>wpAny (model P w) (A.deeper (envOfC qual scope s.heap.objs.size f cd)) (leaving (envOfC qual scope s.heap.objs.size f cd) e) (λ _ Ue=>CX outer H s E e Ue) (λ e' Ue=>CX outer H s E e' Ue) s'
theorem uX{sc:Scope}{n:Nat}{x:Str}(h:sc.names.lookup x=some .cell):∃c,(cellsFrom n sc.names []).lookup x=some c:=by have q:=PySem.W.cellsFrom_some sc.names n [] (.inl h);exact Option.isSome_iff_exists.mp q
theorem Bd{CX:GJ}{P:Program}{w:World}{K:J8}{mg:Str->Option Value}{base:Heap}{N ps:List Str}{qual:Str}{scope:Scope}{f:Addr}{cd:Value}{A:Around}{outer:List Env}{s s1:Shared}{H:Hp}{E:XK}{us:List Value}{vs:List V} (S:aM N ps scope) (hd:A.handled=none) (e0:oD P w K mg base A outer s H) (hl:vs.length=ps.length) (r:Vals vs us) (x:InCallC s s.heap.objs.size (bindL (envOfC qual scope s.heap.objs.size f cd).kindOf (ps.zip us) λ _=>none) (cellsFrom (s.heap.objs.size+1) scope.names []) (bindC (envOfC qual scope s.heap.objs.size f cd).kindOf (ps.zip us) λ _=>none) s1):Inv (pA CX P w K mg base N qual scope f cd A outer s H E) [] (start N vs) H s1:=by
 have hpl:ps.length<=N.length:=by have:=J4 List.length S.pre;rw[y8]at this;omega
 obtain⟨h1,tk,rfl,hk⟩:=x.done;have Ed:∀b:Addr,b∉(pA CX P w K mg base N qual scope f cd A outer s H E).ex:=λ b z=>absurd (show b∈([]:List Addr)from z) (by simp);refine⟨⟨e0.mod,S.kind,rfl,rfl,G5 _,λ y z c h1 h2=>?_,λ y hy=>?_,λ y c _ h=>?_,λ _=>hd,Around.frames_deeper e0.frames,.inr ⟨rfl,rfl⟩,λ b z=>absurd z (Ed b),e0.bs,e0.Bz,λ b _ _=>Ed b,λ b z=>absurd z (Ed b),e0.iY,e0.JS⟩,
  rfl,e0.bare,Un.kept hk,⟨_,x.toInCall.ns,λ i y v h1 h2 h3=>?_⟩,λ y c h=>⟨_,x.cell y c h⟩,e0.bh.fresh (G5 _),λ y c h=>?_,λ p hp=>absurd (show p∈([]:List (Addr×Obj))from hp) (by simp),e0.bh.kept hk,?_⟩
 ·exact name_of_addr x.apart (l9 h1) (l9 h2)
 ·have hy:scope.names.lookup y=some .cell\/scope.names.lookup y=some .free:=hy;rcases hy with hy|hy
  ·exact uX hy
  ·exact absurd rfl (S.NP _ (l9 hy))
 ·exact G4 (x.above y c (l9 h))
 ·have hi:i < vs.length:=by
   unfold start at h2;by_cases hi:i < vs.length
   ·exact hi
   ·rw[c7 (by simpa using hi)]at h2;rw[i8]at h2;split at h2 <;> cases h2
  have ha:vs[i]?=some v:=by
   unfold start at h2;rw[c9 (by simpa using hi),s9]at h2;cases e:vs[i]? with
   |none=>rw[e]at h2;cases h2
   |some a=>rw[e]at h2;cases h2;rfl
  obtain⟨u,hu,rv⟩:=r.get ha;have hp:ps[i]?=some y:=by rw[<- S.pre,getElem?_take_of_lt (by omega)];exact h1
  have Wk:ps.Nodup:=by rw[<- S.pre];exact S.nd.sublist (take_sublist _ _)
  refine⟨u,rv,?_⟩;rcases S.par y (k9 hp)with k|k
  ·exact .inl ⟨k,qD Wk hp hu k⟩
  ·obtain⟨c,e⟩:=uX (n:=s.heap.objs.size+1) k;refine .inr ⟨.inl k,c,e,?_⟩;have q:=x.cell y c e;rw[qF Wk hp hu (by show scope.names.lookup y≠_;rw[k];decide)]at q;exact q
 ·exact e0.bh.fresh (G4 (x.above y c (l9 h)))
 ·unfold start;show _=N.length;rw[o6,B4,k5];omega
theorem Ld{CX:GJ}{P:Program}{w:World}{K:J8}{mg:Str->Option Value}{base:Heap}{k:Nat}{f:Addr}{name qual:Str}{params:Arguments}{body:List Stmt}{scope:Scope}{dV kV doc pm dQ ct oc:Value}{an od:Option Addr} {wo:Array (Option Value)} {N ps:List Str} {sp:Sp} (lk:K.lookup f=some ⟨oc,od,.func (PySem.W.fnOf name qual params body scope dV kV doc pm an dQ ct),wo⟩) (hcd:PySem.W.codeIn K dQ qual=true) (S:aM N ps scope) (len:∀vs H Q E,sp vs H Q E->vs.length=ps.length) (dZ:∀(A:Around) (outer:List Env) (s:Shared) (H:Hp) (vs:List V) (Q:VK) (E:XK),cM k (A.deeper (envOfC qual scope s.heap.objs.size f dQ))->sp vs H Q E->
   ∃t,vj (pA CX P w K mg base N qual scope f dQ A outer s H E) body t/\t {nx:=λ _ H'=>Q .bx H',rt:=Q} (start N vs) H):
  cw P w K mg base CX (k+1) f (PySem.W.fnOf name qual params body scope dV kV doc pm an dQ ct) ps sp:=by
 refine⟨len,λ A outer s H args us vs Q E hr e0 hb r Bg=>?_⟩;have hl:=len _ _ _ _ Bg;have KX:K.In s.heap:=e0.mod.Rm.keeps λ b o e=>(e0.bs b o e).1;have lim:s.heap.NoLimit:=e0.mod.nolimit.keeps λ b o e=>(e0.bs b o e).1;have Fb:∀y∈ps.zip us,scope.names.lookup y.1=some .local\/(scope.names.lookup y.1=some .cell/\((cellsFrom (s.heap.objs.size+1) scope.names []).lookup y.1).isSome=true):=λ⟨n,v⟩ hy=>by
  rcases S.par n (of_mem_zip hy).1 with q|q
  ·exact .inl q
  ·exact .inr ⟨q,PySem.W.cellsFrom_some _ _ _ (.inl q)⟩
 refine codeAny_call_function hr.depth (KX _ _ lk) rfl S.co S.gen rfl (PySem.W.codeRec_of KX hcd) (hb _ _ _ _ ?_);refine wpAny_newFunctionEnv_cells S.kind Fb λ env he s1 x=>?_;subst he;refine⟨lim.keeps x.toInCall.keep,codeAny_func ?_⟩;obtain⟨t,ht,hq⟩:=dZ A outer s H vs Q E (hr.deeper _) Bg;have I:Inv (pA CX P w K mg base N qual scope f dQ A outer s H E) [] (start N vs) H s1:=Bd S hr.hd e0 hl r x;refine J1 (ht [] s1 (start N vs) H _ I hq) (λ fl s' hs=>?_) λ e s' hs=>hs;have fin:∀{σ':St} {H':Hp} {v:V} {u:Value},Inv (pA CX P w K mg base N qual scope f dQ A outer s H E) [] σ' H' s'->RelV v u->Q v H'->CE outer P w H s Q u s':=
  λ{σ' H' v u} J rv q=>⟨v,H',J.os,J.bare,J.base,J.bh,rv,q⟩
 cases fl with
 |ret u=>obtain⟨v,σ',H',J,rv,q⟩:=hs;exact fin J rv q
 |next=>obtain⟨σ',H',J,q⟩:=hs;exact fin (v:=V.bx) (u:=Value.none) J rfl q
 |brk=>obtain⟨_,_,_,q⟩:=hs;exact False.elim q
 |cont=>obtain⟨_,_,_,q⟩:=hs;exact False.elim q
section
variable {X:Cx}{x:Str}{p pos:Pos}{e:Expr}{es:List Expr}{t:TA}{id T:String}{r:List V->Hp->VK->Prop}
def SE(r:List V->Hp->VK->Prop)(t:TA):TE:=λ σ H Q=>t σ H λ vs H1=>r vs H1 Q
theorem tX(hc:di X (.builtin id) r)(hg:Gl X x)(hm:X.mg x=none)(hv:bootBuiltins x=some (.builtin id))(ha:PA X (e::es) t)(hn:x≠"__name__":=by decide)(hdb:(x==("__debug__":Str))=false:=by decide) (he:starEach (e::es) X.env=(false,eval e X.env)::starEach es X.env:=by rfl) (hpl:(backTo pos (starEach es X.env)).any (·.1)=false:=by rfl):PE X (.Call (.Name x p) (e::es) [] pos) (SE r t):=by intro pins s σ H Q I h;refine p8 (fj I hg hm hv ?_ hn hdb);exact PyProof.Rows.callWith_builtin1 (cT (ha pos pins s σ H _ I h) λ us s1 ⟨vs,H1,I1,r1,q1⟩=>hc pins s1 σ H1 vs us Q I1 r1 q1) he hpl
theorem ie(hc:di X (.type T) r)(hg:Gl X x)(hm:X.mg x=none)(hv:bootBuiltins x=some (.type T))(ha:PA X (e::es) t)(hn:x≠"__name__":=by decide)(hdb:(x==("__debug__":Str))=false:=by decide) (he:starEach (e::es) X.env=(false,eval e X.env)::starEach es X.env:=by rfl) (hpl:(backTo pos (starEach es X.env)).any (·.1)=false:=by rfl):PE X (.Call (.Name x p) (e::es) [] pos) (SE r t):=by intro pins s σ H Q I h;refine p8 (fj I hg hm hv ?_ hn hdb);exact a8 (cT (ha pos pins s σ H _ I h) λ us s1 ⟨vs,H1,I1,r1,q1⟩=>hc pins s1 σ H1 vs us Q I1 r1 q1) he hpl
end
end L2
namespace HT
open PySem PyProof.Rows
def lexLt:List Int->List Int->Bool
 |[],[]=>false
 |[],_::_=>true
 |_::_,[]=>false
 |x::xs,y::ys=>if x=y then lexLt xs ys else decide (x < y)
theorem eR(x y:Int)(xs ys:List Int):lexLt (x::xs) (y::ys)=if x=y then lexLt xs ys else decide (x < y):=rfl
section
variable {prog:Program}{w:World}{A:Around}{E:Value->Shared->Prop}{s:Shared}
theorem Kk{t b:Addr}{vs ws:List Value}{Q:Value->Shared->Prop}(ht:IsTup s.heap t vs.toArray)(hb:IsTup s.heap b ws.toArray)(hv:vs≠[]) (h1:ws=[]->Q (.ref t) s) (h2:ws≠[]->Q (.ref s.heap.objs.size) {s with heap:=s.heap.push {cls:=.type "tuple",data:=.seq (vs++ws).toArray}}) (hsz:vs.length+ws.length<=sizeLine):wpAny (model prog w) A (binaryOp .Add (.ref t) (.ref b)) Q E s:=by
 obtain⟨⟨cls,dd,data,sl⟩,ho,hc,n,hd⟩:=id ht;obtain⟨⟨ZN,Xj,data2,Wa⟩,Ph,WX,n2,hd2⟩:=id hb;simp only at hc hd WX hd2;subst hc hd WX hd2;have e:vs.toArray++ws.toArray=(vs++ws).toArray:=by simp
 by_cases hw:ws=[]
 ·exact concat_meets ⟨_,ho,rfl⟩ ⟨_,Ph,rfl⟩ noFill_tuple_add seq_tuple_add PySem.F.slot_tuple_add PySem.F.entry_tuple_add (PySem.F.args_tuple_add_2 _ _)
   (tuple_addW1 t b vs.toArray ws.toArray n n2 dd Xj sl Wa (by simpa using hv) (by simp[hw])) ⟨ho,Ph,h1 hw⟩
 ·refine concat_meets ⟨_,ho,rfl⟩ ⟨_,Ph,rfl⟩ noFill_tuple_add seq_tuple_add PySem.F.slot_tuple_add PySem.F.entry_tuple_add (PySem.F.args_tuple_add_2 _ _)
   (tuple_addW2 t b vs.toArray ws.toArray n n2 dd Xj sl Wa (by simpa using hv) (by simpa using hw) (by rw[x5,x5];exact hsz)) ⟨ho,Ph,?_⟩
  rw[e];exact h2 hw
def cx(n d:Nat):Option Int->Nat
 |none=>d
 |some v=>if v < 0 then(v+(n:Int)).toNat else min v.toNat n
theorem vU(n d:Nat)(hd:d<=n)(o:Option Int):cx n d o<=n:=by
 cases o with
 |none=>exact hd
 |some v=>
  show(if v < 0 then(v+(n:Int)).toNat else min v.toNat n)<=n;by_cases hv:v < 0
  ·rw[J6 hv];omega
  ·rw[J7 hv];exact Nat.min_le_right _ _
theorem zA(v:Int)(n d:Nat):(if v < 0 then max (v+(n:Int)) 0 else min v (n:Int))=((cx n d (some v):Nat):Int):=by
 show(if v < 0 then max (v+(n:Int)) 0 else min v (n:Int))=(((if v < 0 then(v+(n:Int)).toNat else min v.toNat n):Nat):Int);by_cases hv:v < 0
 ·simp only[J6 hv];omega
 ·simp only[J7 hv];omega
theorem xu(lo hi:Option Int)(n:Nat):Builtin.Slice.sliceAdjust lo hi 1 (n:Int)=(((cx n 0 lo:Nat):Int),((cx n n hi:Nat):Int)):=by
 have h1:¬((1:Int) < 0):=by omega
 unfold Builtin.Slice.sliceAdjust;simp only[h1,J3];refine Prod.ext ?_ ?_
 ·cases lo with
  |none=>rfl
  |some v=>exact zA v n 0
 ·cases hi with
  |none=>rfl
  |some v=>exact zA v n n
theorem wg(i j:Nat):Builtin.Slice.slicePlaces (i:Int) (j:Int) 1=j - i:=by
 unfold Builtin.Slice.slicePlaces;have h1:(1:Int) > 0:=by omega
 simp only[h1,if_true,Int.ediv_one];split <;> omega
theorem mZ{v:Value}{o:Option Int}{Q:Option Int->Shared->Prop}(p:IsPart v o)(h:Q o s):wpAny (model prog w) A (Builtin.Slice.slicePartIndex v) Q E s:=by
 cases p with
 |none=>exact slicePart_none h
 |int i t=>exact slicePart_int h
theorem fE{sl:Addr}{vl vu:Value}{lo hi:Option Int}{n:Nat}{Q:Int×Int×Nat->Shared->Prop}(hs:s.heap.IsSliceOf sl vl vu .none)(pl:IsPart vl lo)(pu:IsPart vu hi) (h:Q (((cx n 0 lo:Nat):Int),1,cx n n hi - cx n 0 lo) s):wpAny (model prog w) A (Builtin.Slice.sliceApplied (.ref sl) (pure (n:Int))) Q E s:=by obtain⟨os,Oi,Fg,JO⟩:=id hs;unfold Builtin.Slice.sliceApplied Builtin.Slice.sliceFields;refine G9 (G9 (G8 Oi JO (x:=vl) rfl (G9 (G8 Oi JO (x:=vu) rfl (G9 (G8 Oi JO (x:=.none) rfl (H9 ?_)))))));refine G9 (slicePart_none ?_);show wpAny _ _ (if((1:Int)==0)=true then _ else _) _ _ s;rw[J7 (by decide)];refine G9 (mZ pl (G9 (mZ pu (G9 (H9 ?_)))));show wpAny _ _ (match Builtin.Slice.sliceAdjust lo hi 1 (n:Int)with|(lo,hi)=>pure (lo,(1:Int),Builtin.Slice.slicePlaces lo hi 1)) _ _ s;rw[xu lo hi n];show wpAny _ _ (pure (((cx n 0 lo:Nat):Int),(1:Int),Builtin.Slice.slicePlaces ((cx n 0 lo:Nat):Int) ((cx n n hi:Nat):Int) 1)) _ _ s;rw[wg];exact H9 h
theorem DH(xs:Array Value)(i k:Nat):((List.range k).filterMap λ(m:Nat)=>xs[((i:Int)+(m:Int)*1).toNat]?).toArray=((xs.toList.drop i).take k).toArray:=by
 have e:(λ(m:Nat)=>xs[((i:Int)+(m:Int)*1).toNat]?)=λ m=>xs[i+m]?:=by
  funext m;have:((i:Int)+(m:Int)*1).toNat=i+m:=by omega
  rw[this]
 rw[e];have:=pick_run xs i k;rw[filterMap_map]at this;have e2:((λ x=>xs[x]?)∘λ x=>i+x)=λ m=>xs[i+m]?:=rfl;rw[e2]at this;rw[this]
theorem jS{t sl:Addr}{items:Array Value}{vl vu:Value}{lo hi:Option Int}{Q:Value->Shared->Prop}(ht:IsTup s.heap t items)(hs:s.heap.IsSliceOf sl vl vu .none)(pl:IsPart vl lo)(pu:IsPart vu hi) (hw:¬(cx items.size 0 lo=0/\cx items.size items.size hi=items.size)) (h:Q (.ref s.heap.objs.size) {s with heap:=s.heap.push {cls:=.type "tuple",data:=.seq ((items.toList.drop (cx items.size 0 lo)).take (cx items.size items.size hi - cx items.size 0 lo)).toArray}}) (hsz:items.size<=sizeLine):wpAny (model prog w) A (getItem (.ref t) (.ref sl)) Q E s:=by
 have yS:sizeOk (.seq ((items.toList.drop (cx items.size 0 lo)).take (cx items.size items.size hi - cx items.size 0 lo)).toArray):=by show((items.toList.drop (cx items.size 0 lo)).take (cx items.size items.size hi - cx items.size 0 lo)).toArray.size<=sizeLine;rw[x5,y8,length_drop,m7];omega
 have hj:cx items.size items.size hi<=items.size:=vU _ _ (G5 _) hi;obtain⟨os,Oi,Fg,JO⟩:=id hs;have Vx:s.TypeIs (.ref sl) "slice":=⟨os,Oi,Fg⟩;unfold getItem
 try with_reducible refine C6 ?_
 first|refine G9 (H9 ?_)|skip
 refine G9 (wpAny_sequenceKey ht.typeIs (by decide) ?_);refine G9 (i9 (name:=Str.ofString "__getitem__") ht.typeIs a0
  (y6 a0 ht.typeIs entry_tuple_getitem ?_ (args_tuple_getitem _ _)))
 show wpAny _ _ (Builtin.Tuple.tupleItemsOf (.ref t) >>= _) _ _ s;refine G9 (tupleItemsOf_ ht ?_);refine G9 (E6 Vx ?_);rw[J6 (by decide)];refine G9 (fE hs pl pu ?_);have Pj:¬((((cx items.size 0 lo:Nat):Int)==0&&(1:Int)==1&&(cx items.size items.size hi - cx items.size 0 lo)==items.size)=true):=by intro q;rw[y7,y7]at q;have q1:((cx items.size 0 lo:Nat):Int)=0:=eq_of_beq q.1.1;have q2:cx items.size items.size hi - cx items.size 0 lo=items.size:=eq_of_beq q.2;exact hw ⟨by omega,by omega⟩
 show wpAny _ _ (if(((cx items.size 0 lo:Nat):Int)==0&&(1:Int)==1&&(cx items.size items.size hi - cx items.size 0 lo)==items.size)=true then _ else _) _ _ s;rw[J7 Pj,DH]
 first
  |exact G9 (m:=Builtin.Tuple.tupleExact _) (u9 (H9 ⟨_,rfl,H9 h⟩) yS)
  |exact G9 (m:=Builtin.Tuple.tupleExact _) (u9 (G9 (H9 (H9 ⟨_,rfl,H9 h⟩))) yS)
  |exact G9 (G9 (m:=Builtin.Tuple.tupleExact _) (u9 (H9 (H9 ⟨_,rfl,H9 h⟩)) yS))
  |exact G9 (G9 (m:=Builtin.Tuple.tupleExact _) (u9 (H9 ⟨_,rfl,H9 h⟩) yS))
end
end HT
namespace L2
open PySem PySem.Spec PyProof.Rows
abbrev TO:=St->Hp->(Option Int->Hp->Prop)->Prop
def PO(X:Cx)(e:Option Expr)(t:TO):Prop:=
 ∀(pins:List (Addr×Obj)) (s:Shared) (σ:St) (H:Hp) (Q:Option Int->Hp->Prop),Inv X pins σ H s->t σ H Q->
  wpAny (model X.prog X.w) X.A (evalPart e X.env) (λ u s'=>∃o H',Inv X pins σ H' s'/\IsPart u o/\Q o H') X.xe s
def G':TO:=λ _ H Q=>Q none H
def PR(t:TE):TO:=λ σ H Q=>t σ H λ x H1=>∃i,x=.int i/\Q (some i) H1
section
variable {X:Cx}{e:Expr}{te:TE}{lo hi:Option Expr}{tl th:TO}{pos p2:Pos}
theorem IC:PO X none G':=by intro pins s σ H Q I h;rw[evalPart_none];exact H9 ⟨none,H,I,.none,h⟩
theorem IB(h:PE X e te):PO X (some e) (PR te):=by intro pins s σ H Q I hw;rw[evalPart_some];refine cT (h pins s σ H _ I hw) λ u s1 ⟨x,H1,I1,r1,q1⟩=>?_;obtain⟨i,rfl,q⟩:=q1;obtain⟨t,rfl⟩:=r1;exact⟨some i,H1,I1,.int i t,q⟩
def zI(X:Cx)(r:V->Option Int->Option Int->Hp->VK->Prop):Prop:=
 ∀(pins:List (Addr×Obj)) (s:Shared) (σ:St) (H:Hp) (x:V) (v vl vu:Value) (lo hi:Option Int) (sl:Addr) (Q:VK),Inv X pins σ H s->RelV x v->s.heap.IsSliceOf sl vl vu .none->IsPart vl lo->IsPart vu hi->r x lo hi H Q->
  ∃T id,typeLookup (.type T) "__getitem__"=pure (some (.builtin id))/\s.TypeIs v T/\wpAny (model X.prog X.w) X.A (getItem v (.ref sl)) (EP X pins σ Q) X.xe s
theorem zI.or {r r':V->Option Int->Option Int->Hp->VK->Prop}(h:zI X r)(h':zI X r'):zI X (λ x lo hi H Q=>r x lo hi H Q\/r' x lo hi H Q):=by
 intro pins s σ H x v vl vu lo hi sl Q I rx hs pl pu q;rcases q with q|q
 ·exact h pins s σ H x v vl vu lo hi sl Q I rx hs pl pu q
 ·exact h' pins s σ H x v vl vu lo hi sl Q I rx hs pl pu q
def XD(r:V->Option Int->Option Int->Hp->VK->Prop)(te:TE)(tl th:TO):TE:=λ σ H Q=>te σ H λ x H1=>tl σ H1 λ l H2=>th σ H2 λ u H3=>r x l u H3 Q
theorem DM{r:V->Option Int->Option Int->Hp->VK->Prop}(hr:zI X r)(he:PE X e te)(hl:PO X lo tl)(hu:PO X hi th):PE X (.Subscript e (.Slice lo hi none p2) pos) (XD r te tl th):=by intro pins s σ H Q I h;refine Subscript_ (cT (he pins s σ H _ I h) λ v s1 ⟨x,H1,I1,r1,q1⟩=>?_);refine wpAny_Slice (cT (hl pins s1 σ H1 _ I1 q1) λ vl s2 ⟨l,H2,I2,pl,q2⟩=>cT (hu pins s2 σ H2 _ I2 q2) λ vu s3 ⟨u,H3,I3,pu,q3⟩=>?_);rw[evalPart_none];refine H9 ?_;have I4:Inv X pins σ H3 {s3 with heap:=s3.heap.push {cls:=.type "slice",data:=.fields #[vl,vu,.none]}}:=I3.kept (t':=s3.toks) λ b ob q=>j4 _ q;obtain⟨T,id,hT,ht,hg⟩:=hr pins {s3 with heap:=s3.heap.push {cls:=.type "slice",data:=.fields #[vl,vu,.none]}} σ H3 x v vl vu l u s3.heap.objs.size Q I4 r1 (Heap.IsSliceOf.new ..) pl pu q3;show wpAny (model X.prog X.w) X.A (subscriptTail e (.Slice lo hi none p2) v (.ref s3.heap.objs.size)) (EP X pins σ Q) X.xe {s3 with heap:=s3.heap.push {cls:=.type "slice",data:=.fields #[vl,vu,.none]}};exact tail_any (ops:=[.ref s3.heap.objs.size,v]) ht hT hg (by with_unfolding_all rfl)
def uV(xs:List V)(lo hi:Option Int):List V:=(xs.drop (HT.cx xs.length 0 lo)).take (HT.cx xs.length xs.length hi - HT.cx xs.length 0 lo)
theorem lA(xs:List V)(lo hi:Option Int):(uV xs lo hi).length<=xs.length:=by unfold uV;rw[y8,length_drop];omega
def Qj(K:J8):V->Option Int->Option Int->Hp->VK->Prop:=λ x lo hi H Q=>∃a xs,x=.ref a/\fJ K H a xs/\
 ¬(HT.cx xs.length 0 lo=0/\HT.cx xs.length xs.length hi=xs.length)/\∀p,H p=none->Q (.ref p) (upd H p (.tup (uV xs lo hi)))
theorem LN:zI X (Qj X.K):=by
 intro pins s σ H x v vl vu lo hi sl Q I rx hs pl pu h;obtain⟨a,xs,rfl,hx,hw,q⟩:=h;cases rx;obtain⟨ax,r,ht,hz⟩:=I.tuple hx;have hlen:ax.toArray.size=xs.length:=by rw[x5];exact r.length.symm
 refine⟨"tuple",_,a0.lookup,ht.typeIs,?_⟩;refine HT.jS ht hs pl pu (by rw[hlen];exact hw) ?_ (by rw[hlen];exact hz);rw[hlen];refine⟨.ref s.heap.objs.size,_,I.laid (t':=s.toks) (o:=.tup (uV xs lo hi)) (λ b ob q=>j4 _ q) (G5 _) ?_,rfl,q _ (I.bh.fresh (G5 _))⟩;exact⟨D8 (lA xs lo hi) hz,_,(r.drop (HT.cx xs.length 0 lo)).take (HT.cx xs.length xs.length hi - HT.cx xs.length 0 lo),IsTup.new _ _⟩
def Qs(K:J8):R2:=λ x y H Q=>∃a b xs ys,x=.ref a/\y=.ref b/\fJ K H a xs/\fJ K H b ys/\xs≠[]/\xs.length+ys.length<=sizeLine/\
 (ys=[]->Q (.ref a) H)/\(ys≠[]->∀p,H p=none->Q (.ref p) (upd H p (.tup (xs++ys))))
theorem Vals.rE {xs:List V}{us:List Value}(r:Vals xs us):us=[]↔xs=[]:=by
 cases r with
 |nil=>simp
 |cons _ _=>simp
theorem IY:fK X (binaryOp .Add) (Qs X.K):=by intro pins s σ H x y v u Q I rx ry h;obtain⟨a,b,xs,ys,rfl,rfl,ha,hb,hx,hz,q1,q2⟩:=h;cases rx;cases ry;obtain⟨ax,r1,p1,_⟩:=I.tuple ha;obtain⟨uo,r2,p2,_⟩:=I.tuple hb;refine HT.Kk p1 p2 (λ z=>hx (r1.rE.mp z)) (λ z=>⟨.ref a,H,I,rfl,q1 (r2.rE.mp z)⟩) (λ z=>?_) (by rw[<- r1.length,<- r2.length];exact hz);refine⟨.ref s.heap.objs.size,_,I.laid (t':=s.toks) (o:=.tup (xs++ys)) (λ b ob q=>j4 _ q) (G5 _) ?_,rfl,q2 (λ w=>z (r2.rE.mpr w)) _ (I.bh.fresh (G5 _))⟩;exact⟨by rw[o6];exact hz,_,r1.append r2,IsTup.new _ _⟩
end
def A_(n:Nat)(i:Int):Option Nat:=if 0<=i then(if i < n then some i.toNat else none)else if -(n:Int)<=i then some (i+n).toNat else none
def gr{α:Type}(xs:List α)(i:Int):Option α:=(A_ xs.length i).bind λ j=>xs[j]?
theorem yJ{n:Nat}{i:Int}{j:Nat}(h:A_ n i=some j):seqIndex? i n=some j/\j < n/\-(n:Int)<=i/\i < n:=by
 unfold A_ at h;by_cases h0:0<=i
 ·rw[J6 h0]at h;by_cases h1:i < n
  ·rw[J6 h1]at h;have e:i.toNat=j:=A9 h;exact⟨by rw[seqIndex_of h0 h1,e],by omega,by omega,h1⟩
  ·rw[J7 h1]at h;cases h
 ·rw[J7 h0]at h;by_cases h1: -(n:Int)<=i
  ·rw[J6 h1]at h;have e:(i+n).toNat=j:=A9 h;exact⟨by rw[seqIndex_neg (by omega) h1,e],by omega,h1,by omega⟩
  ·rw[J7 h1]at h;cases h
theorem sk{α:Type}{xs:List α}{i:Int}{v:α}(h:gr xs i=some v):∃j,seqIndex? i xs.length=some j/\xs[j]?=some v/\j < xs.length/\-(xs.length:Int)<=i/\i < xs.length:=by
 unfold gr at h;cases e:A_ xs.length i with
 |none=>rw[e]at h;cases h
 |some j=>rw[e]at h;obtain⟨h1,h2,h3,h4⟩:=yJ e;exact⟨j,h1,h,h2,h3,h4⟩
theorem bG{α:Type}{xs:List α}{j:Nat}{v:α}(h:xs[j]?=some v):gr xs (j:Int)=some v:=by
 have hj:j < xs.length:=(g9.mp h).1;have e:A_ xs.length (j:Int)=some j:=by unfold A_;rw[J6 (by omega),J6 (by omega)];simp
 unfold gr;rw[e];exact h
def sA(b:Expr):Prop:=∀o i,subscripted b false o i=operate [o,i] (getItem o i)
def xw(X:Cx)(r:R2):Prop:=
 ∀(value slice:Expr) (pins:List (Addr×Obj)) (s:Shared) (σ:St) (H:Hp) (x y:V) (v u:Value) (Q:VK),Inv X pins σ H s->RelV x v->RelV y u->r x y H Q->
  subscripted slice false v u=operate [v,u] (getItem v u)->wpAny (model X.prog X.w) X.A (subscriptTail value slice v u) (EP X pins σ Q) X.xe s
def V2(X:Cx)(id:String)(r:V->List V->Hp->VK->Prop):Prop:=
 ∀(pins:List (Addr×Obj)) (s:Shared) (σ:St) (H:Hp) (x:V) (xs:List V) (v:Value) (us:List Value) (Q:VK),Inv X pins σ H s->RelV x v->Vals xs us->r x xs H Q->
  wpAny (model X.prog X.w) X.A (call (.builtin id) (v::us)) (EP X pins σ Q) X.xe s
section
variable {X:Cx}{a b:Expr}{ta tb:TE}{pos:Pos}
theorem xw.or {r r':R2}(h:xw X r)(h':xw X r'):xw X (λ x y H Q=>r x y H Q\/r' x y H Q):=by
 intro value slice pins s σ H x y v u Q I rx ry q hs;rcases q with q|q
 ·exact h value slice pins s σ H x y v u Q I rx ry q hs
 ·exact h' value slice pins s σ H x y v u Q I rx ry q hs
theorem QV{r:R2}(hr:xw X r)(ha:PE X a ta)(hb:PE X b tb)(hs:sA b):PE X (.Subscript a b pos) (PU r ta tb):=by intro pins s σ H Q I h;exact Subscript_ (OU ha hb I h λ v u s2 x y H2 I2 rx ry q=>hr a b pins s2 σ H2 x y v u Q I2 rx ry q (hs _ _))
def Qp(K:J8):R2:=λ x y H Q=>∃p xs i v,x=.ref p/\y=.int i/\eW K H p xs/\gr xs i=some v/\Q v H
def Qn(K:J8):R2:=λ x y H Q=>∃p xs i v,x=.ref p/\y=.int i/\fJ K H p xs/\gr xs i=some v/\Q v H
def Qo:R2:=λ x y H Q=>∃z i c,x=.str z/\y=.int i/\z.length<=sizeLine/\gr z.cps.toList i=some c/\Q (.str ⟨#[c]⟩) H
theorem JA:xw X (Qp X.K):=by
 intro value slice pins s σ H x y v u Q I rx ry h hs;obtain⟨p,xs,i,z,rfl,rfl,hq,he,q⟩:=h;cases rx;obtain⟨t,rfl⟩:=ry;obtain⟨ax,r,pl,hz⟩:=I.list hq;obtain⟨j,h1,h2,h3,h4,h5⟩:=sk he;obtain⟨w,ew,gD⟩:=r.get h2;have hl:=r.length;have hn:=kJ;have fin:EP X pins σ Q w s:=⟨z,H,I,gD,q⟩;by_cases h0:0<=i
 ·have hj:i.toNat=j:=by rw[seqIndex_of h0 h5]at h1;exact A9 h1
  exact item_listR pl.isList h0 (by omega) (by rw[hj];simpa using ew) fin hs
 ·have hj:(i+(ax.toArray.size:Int)).toNat=j:=by rw[seqIndex_neg (by omega) h4]at h1;rw[x5,<- hl];exact A9 h1
  exact subscriptTail_builtinR (x:=w) pl.isList.typeIs slot_list_getitem.lookup
   (wpAny_getItem_list_neg (Q:=λ r s'=>r=w/\EP X pins σ Q r s') pl.isList (by omega) (by rw[x5] <;> omega) (by omega) (by rw[hj];simpa using ew) ⟨rfl,fin⟩) hs
theorem N_:xw X (Qn X.K):=by
 intro value slice pins s σ H x y v u Q I rx ry h hs;obtain⟨p,xs,i,z,rfl,rfl,hq,he,q⟩:=h;cases rx;obtain⟨t,rfl⟩:=ry;obtain⟨ax,r,pl,hz⟩:=I.tuple hq;obtain⟨j,h1,h2,h3,h4,h5⟩:=sk he;obtain⟨w,ew,gD⟩:=r.get h2;have hl:=r.length;have hn:=kJ;have fin:EP X pins σ Q w s:=⟨z,H,I,gD,q⟩;exact subscriptTail_builtinR (x:=w) pl.typeIs slot_tuple_getitem.lookup
  (getItem_tuple (j:=j) (Q:=λ r s'=>r=w/\EP X pins σ Q r s') pl (by omega) (by omega) (by rw[x5,<- hl];exact h1) (by simpa using ew) ⟨rfl,fin⟩) hs
theorem N':xw X Qo:=by
 intro value slice pins s σ H x y v u Q I rx ry h hs;obtain⟨z,i,c,rfl,rfl,hz,he,q⟩:=h;obtain⟨t,rfl⟩:=rx;obtain⟨t',rfl⟩:=ry;obtain⟨j,h1,h2,h3,h4,h5⟩:=sk he;have hl:z.cps.toList.length=z.length:=by simp[Str.length]
 rw[hl]at h1 h4 h5;have hn:=kJ;exact tail_any (typeIs_str s z t) slot_str_getitem.lookup (getItem_str (c:=c) (by
  have e1:decide (i < -(2^63:Int))=false:=A7 (by omega);have e2:decide (i ≥ 2^63)=false:=A7 (by omega);rw[e1,e2,Bool.or_false]) (by rw[h1];simpa using h2) ⟨.str ⟨#[c]⟩,H,I.tok _,⟨_,rfl⟩,q⟩) hs
def XR(K:J8):R2:=λ x y H Q=>Qp K x y H Q\/Qn K x y H Q\/Qo x y H Q
theorem Oa:xw X (XR X.K):=JA.or (N_.or N')
theorem wz(ax:List Value)(n j:Nat)(u:Value):Obj.mapSeq (·.setIfInBounds j u) {cls:=.type "list",data:=.seq ax.toArray n}={cls:=.type "list",data:=.seq (ax.set j u).toArray n}:=by simp[Obj.mapSeq]
theorem Inv.lst {pins:List (Addr×Obj)}{σ:St}{H:Hp}{s:Shared}{p:Addr}{xs:List V}(I:Inv X pins σ H s)(h:H p=some (.lst xs)):∃(ax:List Value) (n:Nat),Vals xs ax/\s.heap.get? p=some {cls:=.type "list",data:=.seq ax.toArray n}/\xs.length<=sizeLine:=by obtain⟨z,ax,n,r,e⟩:=I.bh p _ h;exact⟨ax,n,r,e,z⟩
theorem Inv.NU {pins:List (Addr×Obj)}{σ:St}{H:Hp}{s:Shared}{p:Addr}{xs ys:List V}{ax its':List Value}{n n':Nat}{f:Obj->Obj}(I:Inv X pins σ H s)(h:H p=some (.lst xs)) (ho:s.heap.get? p=some {cls:=.type "list",data:=.seq ax.toArray n}) (hf:f {cls:=.type "list",data:=.seq ax.toArray n}={cls:=.type "list",data:=.seq its'.toArray n'}) (r:Vals ys its') (hz:ys.length<=sizeLine) (t:Nat):Inv X pins σ (upd H p (.lst ys)) {s with heap:=s.heap.update p f,toks:=t}:=by
 have e:(s.heap.update p f).get? p=some {cls:=.type "list",data:=.seq its'.toArray n'}:=by rw[j7 f ho (by rw[hf] <;> rfl),hf]
 refine I.write (x:=p) (e:=p) (by rw[h];trivial) (.inl rfl) (λ b u hb q=>(j5 _ _ (J5 hb)).trans q) ⟨_,e⟩ ?_;exact⟨hz,its',n',r,e⟩
def Ql:V->V->V->Hp->(Hp->Prop)->Prop:=λ o i v H Q=>∃p xs k j,o=.ref p/\i=.int k/\H p=some (.lst xs)/\A_ xs.length k=some j/\Q (upd H p (.lst (xs.set j v)))
theorem set_list:sE X Ql:=by
 intro pins s σ H o i v ov iv u Q I ro ri rv h;obtain⟨p,xs,k,j,rfl,rfl,hp,hj,q⟩:=h;cases ro;obtain⟨t,rfl⟩:=ri;obtain⟨ax,n,r,ho,hz⟩:=I.lst hp;obtain⟨h1,h2,h3,h4⟩:=yJ hj;have hl:=r.length;have hn:=kJ;have I':Inv X pins σ (upd H p (.lst (xs.set j v))) {s with heap:=s.heap.update p (Obj.mapSeq (·.setIfInBounds j u))}:=
  I.NU hp ho (wz ax n j u) (r.set rv j) (by rw[length_set];exact hz) s.toks
 by_cases h0:0<=k
 ·have hk:k.toNat=j:=by rw[seqIndex_of h0 h4]at h1;exact A9 h1
  exact PySem.W.ki_setAt ho h0 (by omega) (by rw[x5,<- hl];exact h4) (by rw[hk];exact⟨_,I',q⟩)
 ·have hk:(k+(ax.toArray.size:Int)).toNat=j:=by rw[seqIndex_neg (by omega) h3]at h1;rw[x5,<- hl];exact A9 h1
  exact PySem.W.ki_setBack ho (by omega) (by rw[x5,<- hl];exact h3) (by omega) (by rw[hk];exact⟨_,I',q⟩)
theorem jq(lo hi:Option Int)(n:Nat):(sliceBounds lo hi none n).1=((HT.cx n 0 lo:Nat):Int)/\(sliceBounds lo hi none n).2.1=((HT.cx n n hi:Nat):Int)/\(sliceBounds lo hi none n).2.2=1:=by
 refine⟨?_,?_,rfl⟩
 ·cases lo with
  |none=>simp[sliceBounds,HT.cx]
  |some i=>
   simp only[sliceBounds,HT.cx,Option.getD_none,show(1:Int) > 0 by decide,if_true];by_cases h:i < 0
   ·simp only[h,if_true] <;> omega
   ·simp only[h,J3] <;> omega
 ·cases hi with
  |none=>simp[sliceBounds,HT.cx]
  |some i=>
   simp only[sliceBounds,HT.cx,Option.getD_none,show(1:Int) > 0 by decide,if_true];by_cases h:i < 0
   ·simp only[h,if_true] <;> omega
   ·simp only[h,J3] <;> omega
theorem oS(ax:List Value)(lo hi:Option Int):slicePick ax.toArray lo hi none=((ax.drop (HT.cx ax.length 0 lo)).take (HT.cx ax.length ax.length hi - HT.cx ax.length 0 lo)).toArray:=by obtain⟨h1,h2,h3⟩:=jq lo hi ax.toArray.size;unfold slicePick;rw[h1,h2,h3];simp only[sliceRange_one,pick_run,x5] <;> rfl
def Qk(K:J8):V->Option Int->Option Int->Hp->VK->Prop:=λ x lo hi H Q=>∃a xs,x=.ref a/\eW K H a xs/\∀p,H p=none->Q (.ref p) (upd H p (.lst (uV xs lo hi)))
theorem Hj:zI X (Qk X.K):=by intro pins s σ H x v vl vu lo hi sl Q I rx hs pl pu h;obtain⟨a,xs,rfl,hx,q⟩:=h;cases rx;obtain⟨ax,r,ht,hz⟩:=I.list hx;have hlen:=r.length;refine⟨"list",_,slot_list_getitem.lookup,ht.isList.typeIs,?_⟩;refine wpAny_getItem_list_slice ht.isList hs pl pu .none (by simp) ?_ (by rw[x5] <;> omega);rw[oS,<- hlen];refine⟨.ref s.heap.objs.size,_,I.laid (t':=s.toks) (o:=.lst (uV xs lo hi)) (λ b ob q=>j4 _ q) (G5 _) ?_,rfl,q _ (I.bh.fresh (G5 _))⟩;exact⟨D8 (lA xs lo hi) hz,_,0,(r.drop (HT.cx xs.length 0 lo)).take (HT.cx xs.length xs.length hi - HT.cx xs.length 0 lo),m8 _ rfl⟩
def gg:V->Bool
 | .bx=>true
 | .bl _=>true
 | .int _=>true
 | .str _=>true
 |_=>false
def Lg:V->V->Bool
 | .bx,.bx=>true
 | .bl a,.bl b=>a==b
 | .bl a,.int b=>(if a then 1 else 0)==b
 | .int a,.bl b=>a==(if b then 1 else 0)
 | .int a,.int b=>a==b
 | .str a,.str b=>a==b
 |_,_=>false
theorem OF{A:Around}{s:Shared}{y x:V}{u v:Value}(ry:RelV y u)(rx:RelV x v)(fy:gg y=true)(fx:gg x=true):SeqAt.EqAt A s u v (Lg y x):=by
 cases y with
 |bx=>
  cases ry;cases x with
  |bx=>cases rx;exact SeqAt.EqAt.same _
  |bl b=>cases rx;exact SeqAt.EqAt.none_bool b
  |int b=>obtain⟨t,rfl⟩:=rx;exact SeqAt.EqAt.none_int b t
  |str b=>obtain⟨t,rfl⟩:=rx;exact SeqAt.EqAt.none_str b t
  |_=>exact absurd (show false=true from fx) n9
 |bl a=>
  cases ry;cases x with
  |bx=>cases rx;exact SeqAt.EqAt.bool_none a
  |bl b=>cases rx;exact SeqAt.EqAt.bool_bool a b
  |int b=>obtain⟨t,rfl⟩:=rx;exact SeqAt.EqAt.bool_int a b t
  |str b=>obtain⟨t,rfl⟩:=rx;exact SeqAt.EqAt.bool_str a b t
  |_=>exact absurd (show false=true from fx) n9
 |int a=>
  obtain⟨t',rfl⟩:=ry;cases x with
  |bx=>cases rx;exact SeqAt.EqAt.int_none a t'
  |bl b=>cases rx;exact SeqAt.EqAt.int_bool a t' b
  |int b=>obtain⟨t,rfl⟩:=rx;exact SeqAt.EqAt.int_int a t' b t
  |str b=>obtain⟨t,rfl⟩:=rx;exact SeqAt.EqAt.int_str a t' b t
  |_=>exact absurd (show false=true from fx) n9
 |str a=>
  obtain⟨t',rfl⟩:=ry;cases x with
  |bx=>cases rx;exact SeqAt.EqAt.str_none a t'
  |bl b=>cases rx;exact SeqAt.EqAt.str_bool a t' b
  |int b=>obtain⟨t,rfl⟩:=rx;exact SeqAt.EqAt.str_int a t' b t
  |str b=>obtain⟨t,rfl⟩:=rx;exact SeqAt.EqAt.str_str a t' b t
  |_=>exact absurd (show false=true from fx) n9
 |_=>exact absurd (show false=true from fy) n9
def JV(x:V)(u:Value):Bool:=match u with
 | .none=>Lg .bx x
 | .bool b=>Lg (.bl b) x
 | .int i _=>Lg (.int i) x
 | .str z _=>Lg (.str z) x
 |_=>false
theorem Fy{x y:V}{u:Value}(r:RelV y u)(f:gg y=true):JV x u=Lg y x:=by
 cases y with
 |bx=>cases r;rfl
 |bl b=>cases r;rfl
 |int i=>obtain⟨t,rfl⟩:=r;rfl
 |str z=>obtain⟨t,rfl⟩:=r;rfl
 |_=>exact absurd (show false=true from f) n9
theorem sr{x:V}:∀{xs:List V} {us:List Value},Vals xs us->xs.all gg=true->us.any (JV x)=xs.any λ y=>Lg y x
 |_,_,.nil,_=>rfl
 |y::xs,u::us,.cons r t,f=>by rw[all_cons,y7]at f;rw[any_cons,any_cons,Fy r f.1,sr t f.2]
theorem nK{A:Around}{s:Shared}{x:V}{v:Value}(rx:RelV x v)(fx:gg x=true):∀{xs:List V} {us:List Value},Vals xs us->xs.all gg=true->∀u∈us,SeqAt.EqAt A s u v (JV x u)
 |_,_,.nil,_=>λ u hu=>by cases hu
 |y::xs,u::us,.cons r t,f=>λ u' hu=>by
  rw[all_cons,y7]at f;rcases D1.mp hu with rfl|hu
  ·rw[Fy r f.1];exact OF r rx f.1 fx
  ·exact nK rx fx t f.2 u' hu
def Ro(x:V)(xs:List V):Bool:=xs.any λ y=>Lg y x
def XS(K:J8)(neg:Bool):R2:=λ x y H Q=>∃p xs,y=.ref p/\(eW K H p xs\/fJ K H p xs)/\gg x=true/\xs.all gg=true/\Q (.bl (if neg then !Ro x xs else Ro x xs)) H
theorem AK:fK X (compareOp .In) (XS X.K false):=by
 intro pins s σ H x y v u Q I rx ry h;obtain⟨p,xs,rfl,hq,fx,fs,q⟩:=h;cases ry;rcases hq with hq|hq
 ·obtain⟨ax,r,pl,hz⟩:=I.list hq;refine SeqAt.in_listAt (JV x) pl.isList (λ w hw=>nK rx fx r fs w (by simpa using hw)) ⟨.bl _,H,I,rfl,?_⟩;rw[show ax.toArray.any (JV x)=ax.any (JV x) by simp,sr r fs];exact q
 ·obtain⟨ax,r,pl,hz⟩:=I.tuple hq;refine SeqAt.in_tupleAt (JV x) pl (λ w hw=>nK rx fx r fs w (by simpa using hw)) ⟨.bl _,H,I,rfl,?_⟩;rw[show ax.toArray.any (JV x)=ax.any (JV x) by simp,sr r fs];exact q
theorem rD:fK X (compareOp .NotIn) (λ x y H Q=>∃i j,x=.str i/\y=.str j/\Q (.bl (!(!(Builtin.Str.occurrences j i 0 j.length 1).isEmpty))) H):=by intro pins s σ H x y v u Q I rx ry h;obtain⟨i,j,rfl,rfl,q⟩:=h;obtain⟨t,rfl⟩:=rx;obtain⟨t',rfl⟩:=ry;exact notIn_str ⟨.bl _,H,I,rfl,q⟩
theorem sg:di X (.builtin "len") (λ xs H Q=>∃p ys,xs=[.ref p]/\(eW X.K H p ys\/fJ X.K H p ys)/\Q (.int ys.length) H):=by
 intro pins s σ H xs us Q I r h;obtain⟨p,ys,rfl,hq,q⟩:=h;obtain⟨u,rfl,rx⟩:=vals1 r;cases rx;have hn:=kJ;rcases hq with hq|hq
 ·obtain⟨ax,r',pl,hz⟩:=I.list hq;have hlen:=r'.length;exact Calls.call_len_list pl.isList (by simp only[x5] <;> omega) ⟨.int ys.length,H,I.tok _,⟨s.toks+1,by rw[x5,hlen]⟩,q⟩
 ·obtain⟨ax,r',pl,hz⟩:=I.tuple hq;have hlen:=r'.length;exact len_tuple pl (by simp only[x5] <;> omega) ⟨.int ys.length,H,I.tok _,⟨s.toks+1,by rw[x5,hlen]⟩,q⟩
theorem sf:di X (.builtin "len") (λ xs H Q=>∃z,xs=[.str z]/\z.length<=sizeLine/\Q (.int z.length) H):=by intro pins s σ H xs us Q I r h;obtain⟨z,rfl,hz,q⟩:=h;obtain⟨u,rfl,t,rfl⟩:=vals1 r;have hn:=kJ;exact len_str (by omega) ⟨.int z.length,H,I.tok _,⟨_,rfl⟩,q⟩
theorem di.or {f:Value}{r r':List V->Hp->VK->Prop}(h:di X f r)(h':di X f r'):di X f (λ xs H Q=>r xs H Q\/r' xs H Q):=by
 intro pins s σ H xs us Q I rs q;rcases q with q|q
 ·exact h pins s σ H xs us Q I rs q
 ·exact h' pins s σ H xs us Q I rs q
theorem r_:di X (.type "list") (λ xs H Q=>∃p ys,xs=[.ref p]/\(eW X.K H p ys\/fJ X.K H p ys)/\∀l,H l=none->Q (.ref l) (upd H l (.lst ys))):=by
 intro pins s σ H xs us Q I r h;obtain⟨p,ys,rfl,hq,q⟩:=h;obtain⟨u,rfl,rx⟩:=vals1 r;cases rx;have fin:∀(ax:List Value),Vals ys ax->ys.length<=sizeLine->∀(h':Heap) (c':Nat),(∀b o',s.heap.get? b=some o'->h'.get? b=some o')->
   h'.get? s.heap.objs.size=some {cls:=.type "list",dict:=none,data:=.seq ax.toArray c',slots:=#[]}->EP X pins σ Q (.ref s.heap.objs.size) {s with heap:=h'}:=λ ax r' hz h' c' kp e=>
  ⟨.ref s.heap.objs.size,_,I.laid (t':=s.toks) kp (G5 _) (show bq X.prog X.w _ h' _ (.lst ys)from⟨hz,ax,c',r',e⟩),rfl,q _ (I.bh.fresh (G5 _))⟩
 rcases hq with hq|hq
 ·obtain⟨ax,r',pl,hz⟩:=I.list hq;have hlen:=r'.length;obtain⟨o,ho,hc,n,hd⟩:=pl.isList;exact call_list_seq p (.inl rfl) ho hc hd (λ h' c' kp e=>fin ax r' hz h' c' kp e) (by simp only[x5] <;> omega)
 ·obtain⟨ax,r',pl,hz⟩:=I.tuple hq;have hlen:=r'.length;obtain⟨o,ho,hc,n,hd⟩:=pl;exact call_list_seq p (.inr rfl) ho hc hd (λ h' c' kp e=>fin ax r' hz h' c' kp e) (by simp only[x5] <;> omega)
theorem pB:di X (.type "tuple") (λ xs H Q=>∃p ys,xs=[.ref p]/\((eW X.K H p ys/\∀l,H l=none->Q (.ref l) (upd H l (.tup ys)))\/(fJ X.K H p ys/\Q (.ref p) H))):=by
 intro pins s σ H xs us Q I r h;obtain⟨p,ys,rfl,h⟩:=h;obtain⟨u,rfl,rx⟩:=vals1 r;cases rx;rcases h with⟨hq,q⟩|⟨hq,q⟩
 ·obtain⟨ax,r',pl,hz⟩:=I.list hq;have hlen:=r'.length;refine call_tuple_list pl.isList (λ h' kp=>?_) (by simp only[x5] <;> omega);have I1:Inv X pins σ H {s with heap:=h'}:=I.kept (t':=s.toks) kp;have I2:Inv X pins σ (upd H h'.objs.size (.tup ys)) {s with heap:=h'.push {cls:=.type "tuple",data:=.seq ax.toArray}}:=
   I1.laid (t':=s.toks) (λ b o e=>j4 _ e) (G5 _) (show bq X.prog X.w _ _ _ (.tup ys)from⟨hz,ax,r',IsTup.new _ _⟩)
  exact⟨.ref h'.objs.size,_,I2,rfl,q _ (I1.bh.fresh (G5 _))⟩
 ·obtain⟨ax,r',pl,hz⟩:=I.tuple hq;exact call_tuple_same pl ⟨.ref p,H,I,rfl,q⟩
def Sy(K:J8)(T:String)(x:V)(H:Hp):Prop:=match x with
 | .str _=>T="str"
 | .int _=>T="int"
 | .ref p=>(T="list"/\∃xs,eW K H p xs)\/(T="tuple"/\∃o,K.lookup p=some o/\o.cls=.type "tuple"/\o.dict=none)\/
   (T="dict"/\((∃kvs,H p=some (.dK kvs))\/∃kvs,H p=some (.dT kvs)))\/(T="set"/\∃S n,H p=some (.set S n))
 |_=>False
theorem B_{pins:List (Addr×Obj)}{σ:St}{H:Hp}{s:Shared}{T:String}{x:V}{v:Value}(I:Inv X pins σ H s)(r:RelV x v)(ty:Sy X.K T x H):s.TypeIs v T/\∀a,v=.ref a->∃ob,s.heap.get? a=some ob/\ob.dict=none:=by
 cases x with
 |str z=>obtain⟨t,rfl⟩:=r;cases(show T="str" from ty);exact⟨typeIs_str s z t,λ _ e=>nomatch e⟩
 |int i=>obtain⟨t,rfl⟩:=r;cases(show T="int" from ty);exact⟨typeIs_int s i t,λ _ e=>nomatch e⟩
 |ref p=>
  cases r;rcases ty with⟨rfl,xs,hq⟩|⟨rfl,o,hk,hc,hd⟩|⟨rfl,hk⟩|⟨rfl,S,n,hk⟩
  ·obtain⟨ax,_,pl,_⟩:=I.list hq;refine⟨pl.isList.typeIs,λ a e=>?_⟩;cases e;obtain⟨o,n,e,c,hd,_⟩:=pl;exact⟨o,e,hd⟩
  ·refine⟨⟨o,I.oY p o hk,hc⟩,λ a e=>?_⟩;cases e;exact⟨o,I.oY _ o hk,hd⟩
  ·have z:∃o,s.heap.get? p=some o/\o.ExactDict:=by
    rcases hk with⟨kvs,hk⟩|⟨kvs,hk⟩
    ·obtain⟨_,_,_,_,o,_,_,e,ex,_⟩:=I.bh p _ hk;exact⟨o,e,ex⟩
    ·obtain⟨_,_,_,_,o,_,_,e,ex,_⟩:=I.bh p _ hk;exact⟨o,e,ex⟩
   obtain⟨o,e,ex⟩:=z;refine⟨⟨o,e,ex.1⟩,λ a e2=>?_⟩;cases e2;exact⟨o,e,ex.2.1⟩
  ·obtain⟨o,_,_,_,e,ex,_⟩:=I.bh p _ hk;refine⟨⟨o,e,ex.1⟩,λ a e2=>?_⟩;cases e2;exact⟨o,e,ex.2.1⟩
 |_=>exact False.elim ty
def T7(K:J8)(T:String)(r:V->List V->Hp->VK->Prop)(to:TE):TE:=λ σ H Q=>to σ H λ x H1=>Sy K T x H1/\r x [] H1 Q
def XH(K:J8)(T:String)(r:V->List V->Hp->VK->Prop)(to:TE)(t:TA):TE:=λ σ H Q=>to σ H λ x H1=>Sy K T x H1/\t σ H1 λ xs H2=>r x xs H2 Q
variable {o e:Expr}{es:List Expr}{to:TE}{t:TA}{name:Str}{apos cZ:Pos}{T id:String}{r:V->List V->Hp->VK->Prop}
theorem Nn(pa:PlainAttrs T)(slot:Slot T name id)(hty:typeOf (.builtin id)=pure (.type "method_descriptor"))(hm:V2 X id r)(ho:PE X o to) (hbase:attributeBase o name X.env (eval o X.env)=eval o X.env:=by rfl) (hline:(apos.endLine==cZ.line)=true:=by rfl):PE X (.Call (.Attribute o name apos) [] [] cZ) (T7 X.K T r to):=by intro pins s σ H Q I h;refine wpAny_Call_method0_late hbase hline (cT (ho pins s σ H _ I h) λ v s1 ⟨x,H1,I1,r1,ty,q1⟩=>?_);obtain⟨h1,h2⟩:=B_ I1 r1 ty;exact⟨T,id,pa,slot,hty,h1,h2,Calls.callWith_builtin rfl (PySem.evalArgs_none (hm pins s1 σ H1 x [] v [] Q I1 r1 .nil q1))⟩
theorem QX(pa:PlainAttrs T)(slot:Slot T name id)(hty:typeOf (.builtin id)=pure (.type "method_descriptor"))(hm:V2 X id r)(ho:PE X o to)(ha:PA X (e::es) t) (hbase:attributeBase o name X.env (eval o X.env)=eval o X.env:=by rfl) (hfew:((backTo cZ (starEach (e::es) X.env)).all (λ x=>!x.1)&&(backToKw cZ (keywordEach [] X.env)).all (λ x=>x.1.isSome)
   &&decide ((e::es).length+([]:List Keyword).length+(if([]:List Keyword).isEmpty then 0 else 1) < 30))=true:=by rfl)
  (hline:(apos.endLine==cZ.line)=true:=by rfl) (hs:starEach (e::es) X.env=(false,eval e X.env)::starEach es X.env:=by rfl) (hplain:(backTo cZ (starEach es X.env)).any (·.1)=false:=by rfl):
  PE X (.Call (.Attribute o name apos) (e::es) [] cZ) (XH X.K T r to t):=by
 intro pins s σ H Q I h;refine wpAny_Call_method_late hbase hfew hline rfl (cT (ho pins s σ H _ I h) λ v s1 ⟨x,H1,I1,r1,ty,q1⟩=>?_);obtain⟨h1,h2⟩:=B_ I1 r1 ty;refine⟨T,id,pa,slot,hty,h1,h2,?_⟩;have hA:=ha cZ pins s1 σ H1 _ I1 q1;rw[hs]at hA ⊢;refine Calls.callWith_builtin (by show(false||(backTo cZ (starEach es X.env)).any (·.1))=false;rw[hplain] <;> rfl) (Calls.evalArgs_plain ?_);exact cT hA λ us s2 ⟨vs,H2,I2,r2,q2⟩=>hm pins s2 σ H2 x vs v us Q I2 r1 r2 q2
end
def Ks(X:Cx)(id:String)(r:V->List V->Hp->VK->Prop):Prop:=
 ∀(pins:List (Addr×Obj)) (s:Shared) (σ:St) (H:Hp) (x:V) (xs:List V) (v:Value) (us:List Value) (Q:VK),Inv X pins σ H s->RelV x v->Vals xs us->r x xs H Q->
  wpAny (model X.prog X.w) X.A (call (.builtin id) (v::us)) (EP X pins σ Q) X.xe s
theorem Vals.one:∀{x:V} {us:List Value},Vals [x] us->∃u,us=[u]/\RelV x u
 |_,_,.cons r .nil=>⟨_,rfl,r⟩
theorem Vals.zero:∀{us:List Value},Vals [] us->us=[]
 |_,.nil=>rfl
theorem Vals.dropLast {xs:List V}{us:List Value}(h:Vals xs us):Vals xs.dropLast us.dropLast:=by
 induction h with
 |nil=>exact .nil
 |cons r t ih=>
  cases t with
  |nil=>exact .nil
  |cons q t'=>exact .cons r ih
theorem Vals.eraseIdx:∀{xs:List V} {us:List Value} (i:Nat),Vals xs us->Vals (xs.eraseIdx i) (us.eraseIdx i)
 |_,_,_,.nil=>.nil
 |_,_,0,.cons _ t=>t
 |_,_,i+1,.cons r t=>.cons r (Vals.eraseIdx i t)
theorem Vals.rep {xs:List V}{us:List Value}(h:Vals xs us):∀k:Nat,Vals (List.replicate k xs).flatten (List.replicate k us).flatten
 |0=>.nil
 |k+1=>by rw[m6,m6,w6,w6];exact Vals.append h (Vals.rep h k)
theorem wV{α:Type}(l:List α):l.eraseIdx (l.length - 1)=l.dropLast:=by
 induction l with
 |nil=>rfl
 |cons a r ih=>
  cases r with
  |nil=>rfl
  |cons b r=>
   have e:(a::b::r).length - 1=((b::r).length - 1)+1:=by have h1:(a::b::r).length=r.length+2:=rfl;have h2:(b::r).length=r.length+1:=rfl;omega
   rw[e,eraseIdx_cons_succ,ih]
   all_goals rfl
theorem qg{α:Type}:∀(l:List α) (i:Nat),(l.eraseIdx i).length<=l.length
 |[],_=>G5 _
 |_::_,0=>Nat.le_succ _
 |_::r,i+1=>Nat.succ_le_succ (qg r i)
theorem foldl_rep(ax:List Value):∀(k:Nat) (acc:List Value),
  List.foldl (λ x1 x2=>x1++x2) acc.toArray (List.replicate k ax.toArray)=(acc++(List.replicate k ax).flatten).toArray
 |0,acc=>by simp
 |k+1,acc=>by
  have e:acc.toArray++ax.toArray=(acc++ax).toArray:=by simp
  have e2:(acc++ax)++(List.replicate k ax).flatten=acc++(List.replicate (k+1) ax).flatten:=by rw[m6,w6,w9]
  rw[<- e2,<- foldl_rep ax k (acc++ax),<- e,m6,foldl_cons]
section
variable {X:Cx}{pins:List (Addr×Obj)}{σ:St}{H:Hp}{s:Shared}{l b:Addr}{xs ys zs:List V}
theorem Inv.Jp {ax its':List Value}{n:Nat}{f:Array Value->Array Value}{t':Nat}(I:Inv X pins σ H s)(hH:H l=some (.lst xs)) (e:s.heap.get? l=some {cls:=.type "list",data:=.seq ax.toArray n}) (hf:f ax.toArray=its'.toArray) (hv:Vals ys its') (hz:ys.length<=sizeLine):Inv X pins σ (upd H l (.lst ys)) {s with heap:=s.heap.update l (Obj.mapSeq f),toks:=t'}:=by have q:=PySem.IsL.update e f;rw[hf]at q;refine I.write (x:=l) (e:=l) (by rw[hH];exact trivial) (.inl rfl) (λ b' u hb hu=>(j5 s.heap (Obj.mapSeq f) (J5 hb)).trans hu) ⟨_,q⟩ ?_;exact⟨hz,its',_,hv,q⟩
theorem Inv.Ri {ax:List Value}{t':Nat}(I:Inv X pins σ H s)(hv:Vals ys ax)(hz:ys.length<=sizeLine):Inv X pins σ (upd H s.heap.objs.size (.lst ys)) {s with heap:=s.heap.push {cls:=.type "list",data:=.seq ax.toArray},toks:=t'}:=
 I.laid (λ _ _ q=>j4 _ q) (G5 _) ⟨hz,ax,0,hv,m8 _ rfl⟩
theorem Inv.fresh (I:Inv X pins σ H s):H s.heap.objs.size=none:=I.bh.fresh (G5 _)
theorem Inv.ue (I:Inv X pins σ H s)(hH:H l=some (.lst xs)):xs.length<=sizeLine/\∃(ax:List Value) (n:Nat),Vals xs ax/\xs.length=ax.length/\s.heap.get? l=some {cls:=.type "list",data:=.seq ax.toArray n}:=by obtain⟨z,ax,n,r,e⟩:=I.bh l _ hH;exact⟨z,ax,n,r,r.length,e⟩
theorem ua{n:Nat}(h:n<=sizeLine):Builtin.List.listTooLong n=false:=by unfold Builtin.List.listTooLong;exact A7 (by omega)
end
section
variable {X:Cx}
def ye:V->List V->Hp->VK->Prop:=λ x vs H Q=>∃l xs y,x=.ref l/\vs=[y]/\H l=some (.lst xs)/\xs.length < sizeLine/\Q .bx (upd H l (.lst (xs++[y])))
theorem AR:Ks X "list.append" ye:=by intro pins s σ H x vs v us Q I rx rv h;obtain⟨l,xs,y,rfl,rfl,hH,hz,q⟩:=h;cases rx;obtain⟨u,rfl,ru⟩:=rv.one;obtain⟨z,ax,n,r,hl,e⟩:=I.ue hH;refine J0 F.slot_list_append ⟨_,e,rfl⟩ F.entry_list_append (F.args_list_append_2 _ _) (PySem.list_append l ax.toArray n u (by rw[x5];omega)) ⟨e,?_⟩;refine⟨.bx,_,I.Jp (its':=ax++[u]) hH e (by simp) (r.append (.cons ru .nil)) ?_,rfl,q⟩;rw[o6,j9];omega
def yd:V->List V->Hp->VK->Prop:=λ x vs H Q=>∃l b xs zs,x=.ref l/\vs=[.ref b]/\H l=some (.lst xs)/\H b=some (.lst zs)/\xs.length+zs.length<=sizeLine/\Q .bx (upd H l (.lst (xs++zs)))
theorem AQ:Ks X "list.extend" yd:=by
 intro pins s σ H x vs v us Q I rx rv h;obtain⟨l,b,xs,zs,rfl,rfl,hH,hB,hz,q⟩:=h;cases rx;obtain⟨u,rfl,ru⟩:=rv.one;cases ru;obtain⟨z,ax,n,r,hl,e⟩:=I.ue hH;obtain⟨z2,uo,n2,r2,Om,e2⟩:=I.ue hB;have hsz:ax.toArray.size+uo.toArray.size<=sizeLine:=by rw[x5,x5];omega
 have E_:¬(!ax.toArray.isEmpty&&Builtin.List.listTooLong (ax.toArray.size+uo.toArray.size))=true:=by rw[ua hsz,Bool.and_false];exact n9
 refine J0 F.slot_list_extend ⟨_,e,rfl⟩ F.entry_list_extend (F.args_list_extend_2 _ _)
  (AutoSeq1.list_extend_list_list_0 l ax.toArray n b uo.toArray n2 E_ (by rw[x5];omega) (by omega)) ⟨e,e2,?_⟩
 refine⟨.bx,_,I.Jp (its':=ax++uo) hH e (by simp) (r.append r2) ?_,rfl,q⟩;rw[o6];omega
def Uk:V->List V->Hp->VK->Prop:=λ x vs H Q=>∃l xs y,x=.ref l/\vs=[]/\H l=some (.lst xs)/\xs[xs.length - 1]?=some y/\Q y (upd H l (.lst xs.dropLast))
theorem NS:Ks X "list.pop" Uk:=by
 intro pins s σ H x vs v us Q I rx rv h;obtain⟨l,xs,y,rfl,rfl,hH,hy,q⟩:=h;cases rx;have U4:=rv.zero;subst U4;obtain⟨z,ax,n,r,hl,e⟩:=I.ue hH;obtain⟨u,hu,ru⟩:=r.get hy;have Bf:ax.toArray[ax.toArray.size - 1]?=some u:=by show ax.toArray[ax.length - 1]?=some u;rw[<- k4,<- hl];exact hu
 refine J0 F.slot_list_pop ⟨_,e,rfl⟩ F.entry_list_pop (F.args_list_pop_1 _) (MeetsSeq.list_pop_last l ax.toArray n u Bf (by rw[x5];omega)) ⟨e,?_⟩;refine⟨y,_,I.Jp (its':=ax.dropLast) hH e ?_ r.dropLast ?_,ru,q⟩
 ·show ax.toArray.eraseIdxIfInBounds (ax.toArray.size - 1)=ax.dropLast.toArray;rw[x5,eraseIdxIfInBounds_toArray,wV]
 ·rw[length_dropLast];omega
def Mw:V->List V->Hp->VK->Prop:=λ x vs H Q=>∃l xs i k y,x=.ref l/\vs=[.int i]/\H l=some (.lst xs)/\-(2^63)<=i/\i < 2^63/\seqIndex? i xs.length=some k/\xs[k]?=some y/\Q y (upd H l (.lst (xs.eraseIdx k)))
theorem Ei:Ks X "list.pop" Mw:=by
 intro pins s σ H x vs v us Q I rx rv h;obtain⟨l,xs,i,k,y,rfl,rfl,hH,h1,h2,hk,hy,q⟩:=h;cases rx;obtain⟨u,rfl,ru⟩:=rv.one;obtain⟨t,rfl⟩:=ru;obtain⟨z,ax,n,r,hl,e⟩:=I.ue hH;obtain⟨w,hw,gD⟩:=r.get hy;refine J0 F.slot_list_pop ⟨_,e,rfl⟩ F.entry_list_pop (F.args_list_pop_2 _ _)
  (MeetsSeq.list_pop_at l ax.toArray n i t k w (fitsIndex_both h1 h2) (by rw[x5,<- hl];exact hk) (by rw[<- k4];exact hw) (by rw[x5];omega)) ⟨e,?_⟩
 refine⟨y,_,I.Jp (its':=ax.eraseIdx k) hH e ?_ (r.eraseIdx k) ?_,gD,q⟩
 ·show ax.toArray.eraseIdxIfInBounds k=(ax.eraseIdx k).toArray;rw[eraseIdxIfInBounds_toArray]
 ·have:=qg xs k;omega
def Um:R2:=λ x y H Q=>∃l b xs zs,x=.ref l/\y=.ref b/\H l=some (.lst xs)/\H b=some (.lst zs)/\xs.length+zs.length<=sizeLine/\∀p,H p=none->Q (.ref p) (upd H p (.lst (xs++zs)))
theorem NC:fK X (binaryOp .Add) Um:=by
 intro pins s σ H x y v u Q I rx ry h;obtain⟨l,b,xs,zs,rfl,rfl,hH,hB,hz,q⟩:=h;cases rx;cases ry;obtain⟨z,ax,n,r,hl,e⟩:=I.ue hH;obtain⟨z2,uo,n2,r2,Om,e2⟩:=I.ue hB;refine PySem.P.add_list e e2 ?_ (by rw[x5,x5];omega);have ea:ax.toArray++uo.toArray=(ax++uo).toArray:=by simp
 rw[ea];exact⟨.ref _,_,I.Ri (t':=s.toks) (r.append r2) (by rw[o6];omega),rfl,q _ I.fresh⟩
def Uj:R2:=λ x y H Q=>∃l k xs,x=.ref l/\y=.int k/\H l=some (.lst xs)/\-(2^63)<=k/\k < 2^63/\xs.length*k.toNat<=sizeLine/\
 ∀p,H p=none->Q (.ref p) (upd H p (.lst (List.replicate k.toNat xs).flatten))
theorem len_rep{α:Type}(xs:List α)(k:Nat):(List.replicate k xs).flatten.length=k*xs.length:=by
 induction k with
 |zero=>simp
 |succ k ih=>rw[m6,w6,o6,ih,Nat.succ_mul,Nat.add_comm]
theorem Nu:fK X (binaryOp .Mult) Uj:=by
 intro pins s σ H x y v u Q I rx ry h;obtain⟨l,k,xs,rfl,rfl,hH,h1,h2,hz,q⟩:=h;cases rx;obtain⟨t,rfl⟩:=ry;obtain⟨z,ax,n,r,hl,e⟩:=I.ue hH;have hlen:ax.toArray.size*k.toNat<=sizeLine:=by rw[x5,<- hl];exact hz
 have Vw:¬ax.toArray.size*k.toNat > (2^63 - 1) / 8:=by
  have:(sizeLine:Nat)<=(2^63 - 1) / 8:=by decide
  omega
 have RI:¬(!Builtin.List.listFitsIndex k)=true:=by rw[fitsIndex_both h1 h2];exact n9
 have E_:¬Builtin.List.listTooLong (ax.toArray.size*k.toNat)=true:=by rw[ua hlen];exact n9
 have EY:List.foldl (λ x1 x2=>x1++x2) #[] (List.replicate (if ax.toArray.isEmpty=true then 0 else k.toNat) ax.toArray)=(List.replicate k.toNat ax).flatten.toArray:=by
  have f0:∀m:Nat,List.foldl (λ x1 x2=>x1++x2) #[] (List.replicate m ax.toArray)=(List.replicate m ax).flatten.toArray:=λ m=>by have:=foldl_rep ax m [];rw[A5]at this;exact this
  rw[f0];cases ax with
  |nil=>simp
  |cons a r'=>rw[J7 (by simp)]
 refine wpAny_binaryOp_repeat_ref (T:="list") (U:="int") (by decide) ⟨_,e,rfl⟩ (λ s'=>typeIs_int s' k t) noFill_list_mul F.fills_int_mul F.slot_int_rmul repeat_list F.slot_int_index.lookup
  (J0 F.slot_int_rmul (typeIs_int s k t) F.entry_int_rmul (F.args_int_rmul_2 _ _) (int___rmul___int_list k t l ax.toArray n)
   ⟨e,rfl,⟨_,e,rfl⟩,J0 F.slot_list_mul ⟨_,e,rfl⟩ F.entry_list_mul (F.args_list_mul_2 _ _) (AutoListH.list___mul___list_int_3 l ax.toArray n k t RI Vw E_) ⟨e,?_⟩⟩)
 rw[EY];exact⟨.ref _,_,I.Ri (t':=s.toks) (r.rep k.toNat) (by rw[len_rep,Nat.mul_comm];exact hz),rfl,q _ I.fresh⟩
end
section
variable {prog:Program}{w:World}{A:Around}{E:Value->Shared->Prop}{s:Shared}
set_option maxRecDepth 100000 in
end
end L2
namespace Xu
open PySem PySem.W PySem.Calls PyProof.Rows
theorem lH{P:Params}{h:Heap}:∀(ns:List Int) (vs:List Value),WellAll P h vs (ns.map WData.int)->IntsAre vs ns:=by
 intro ns
 induction ns with
 |nil=>intro vs w;rw[map_nil]at w;cases w;exact .nil
 |cons n ns ih=>
  intro vs w;rw[C9]at w;cases w with
  |cons a b=>cases a;exact .cons _ _ (ih _ b)
theorem An{l:OpenLaw}{n:Nat}(hn:l.most=some n){P:Params}{h:Heap}{args:List WData}{vals:List Value} (JK:l.row.toRowW.claim.pre args=true) (U0:WellAll P h vals args):∃a vs ns,vals=[Value.ref a]/\args=[WData.list (ns.map WData.int)]/\h.get? a=some {cls:=.type "list",data:=.seq vs.toArray}/\IntsAre vs ns/\ns.length<=n:=by
 have Yt:WShape.hasAll [] args [.list .int]=true:=(pre_splitW JK).1;have hc:l.pre.holds [] {args:=args}=true:=(pre_splitW JK).2;obtain⟨d,r,rfl,h1,h2⟩:=hasAllW_cons Yt;obtain rfl:=hasAllW_nil h2;obtain⟨xs,rfl,h3⟩:=hasW_list h1;obtain⟨ns,rfl⟩:=items_int h3;have hlen:ns.length<=n:=by
  unfold OpenLaw.pre at hc;have h4:(WTm.not (.lt (.lit (.int (n:Int))) (.len (.arg 0)))).holds [] {args:=[.list (ns.map .int)]}=true:=by have h4:=(holds_andW hc).1;rw[hn]at h4;exact h4
  have h5:=condW_of h4 (w_not (w_lt w_lit (w_len_list (w_arg rfl))));rw[B4]at h5;refine y0 λ q=>?_;have q':(n:Int) < ((ns.length:Nat):Int):=by omega
  first
   |(rw[C0 q']at h5;exact absurd h5 (by decide))
   |(simp at h5;omega)
 cases U0 with
 |cons w1 w2=>
  cases w2;cases w1 with
  |list ho Fi=>exact⟨_,_,ns,rfl,rfl,ho,lH ns _ Fi,hlen⟩
theorem AE(l:OpenLaw)(args:List WData):l.row.toRowW.claim.post args (.bool true) args=true:=
 postW_of (r:=l.row.toRowW) (X:=(true==true))
  (show WShape.has [] (.bool true) .bool=true by first|rfl|decide|simp[WShape.has,WShape.arms,WShape.armsAll])
  (show(WTm.eq .res (.lit (.bool true))).value [] {args:=args,res:=some (.bool true),after:=args}=some (.bool (true==true))from w_eq_bool (w_res rfl) w_lit) rfl
theorem ve{l:OpenLaw}{n:Nat}{q:Program}{loose:List Str}{XP:(Str->Option Value)->Heap->Prop}{YP:World->Heap->Prop}{d:DefRec} (hn:l.most=some n) (RK:d.params.defaults=[]) (call:∀(w:World) (s₀ s₁:Shared) (mg mb:Str->Option Value) (fa:Addr) (o:Obj) (pm cd doc:Value) (a:Addr) (vs:List Value) (ns:List Int),
   Ground q loose [] XP w s₀ mg mb s₁.heap->YP w s₁.heap->
   s₁.heap.get? fa=some o->o.data=.func (docDef d.name d.params d.body d.scope pm cd doc)->s₁.heap.CodeRec cd d.name->mg d.name=some (.ref fa)->
   s₁.heap.get? a=some {cls:=.type "list",data:=.seq vs.toArray}->IntsAre vs ns->ns.length<=n->s₁.gens=#[]->
   codeAny (model l.prog w) callerA (.call (.ref fa) ⟨[.ref a],[]⟩) (λ r s'=>r=.ok (.ret (.bool true))/\OldK s₁.heap s'.heap/\s'.os=s₁.os/\AllBare s'.gens) s₁):
  WalkO q loose XP YP l.row.toRowW d [] (λ f vs=>PySem.call f vs):=by
 intro w s₀ s₁ mg mb G Y fa o pm cd doc dV kV ho hd hcd hD RF hg args vals as JK YG hrd U0 hlo;obtain rfl:dV=.none:=Dflts.none hD RK;obtain rfl:kV=.none:=Dflts.noKw hD;obtain⟨a,vs,ns,rfl,rfl,EX,hints,hlen⟩:=An hn JK U0;refine enter_call (E7 (call w s₀ s₁ mg mb fa o pm cd doc a vs ns G Y ho (fd_plain hd) hcd RF EX hints hlen hg) λ r s' hq=>?_);obtain⟨rfl,h2,h3,h4⟩:=hq;exact⟨.inl ⟨.bool true,.bool true,[],rfl,λ _=>rfl,.bool true,AE l _,λ _=>⟨List.Pairwise.nil,λ _ hm=>(nomatch hm)⟩⟩,h2,h3,h4⟩
end Xu
namespace L2
open PySem PySem.Spec PyProof.Rows
theorem pL:∀{vs:List Value} {ns:List Int},IntsAre vs ns->Vals (ns.map V.int) vs
 |_,_,.nil=>.nil
 |_,_,.cons n t h=>.cons ⟨t,rfl⟩ (pL h)
def bX(s:Stmt):Arguments:=match s with
 | .FunctionDef _ a _ _ _ _ _ _ _ _=>a
 |_=>{posonlyargs:=[],args:=[],vararg:=none,kwonlyargs:=[],kw_defaults:=[],kwarg:=none,defaults:=[]}
def bA(s:Stmt):List Stmt:=match s with
 | .FunctionDef _ _ b _ _ _ _ _ _ _=>b
 |_=>[]
def aq(s:Stmt):Scope:=match s with
 | .FunctionDef _ _ _ _ _ _ sc _ _ _=>sc
 |_=>{kind:=.function,names:=[],isGenerator:=false,isCoroutine:=false}
abbrev fA:GJ:=λ _ _ _ _ _ _=>False
abbrev E0:XK:=λ _ _ _=>False
theorem QZ{X:Cx}:Passes fA X E0:=λ _ _ _ _ _ _ _ h=>h.elim
structure jk(K:J8)(x qual:Str)(st:Stmt)(f:Addr)(fd:FuncData):Prop where
 ex:∃(oc:Value) (od:Option Addr) (kV doc pm:Value) (an:Option Addr) (dQ ct:Value) (wo:Array (Option Value)),
  fd=PySem.W.fnOf x qual (bX st) (bA st) (aq st) .none kV doc pm an dQ ct/\K.lookup f=some ⟨oc,od,.func fd,wo⟩/\PySem.W.codeIn K dQ qual=true
 kp:PySem.W.keepIn K (.ref f)=true
section
variable {P:Program}{w:World}{K:J8}{mg:Str->Option Value}{base:Heap}
theorem jk.ok {x qual:Str}{st:Stmt}{f:Addr}{fd:FuncData}{N ps:List Str}{k:Nat}{sp:Sp}(F:jk K x qual st f fd)(S:aM N ps (aq st))(len:∀vs H Q E,sp vs H Q E->vs.length=ps.length) (dZ:∀(dQ:Value) (A:Around) (outer:List Env) (s:Shared) (H:Hp) (vs:List V) (Q:VK) (E:XK),cM k (A.deeper (envOfC qual (aq st) s.heap.objs.size f dQ))->sp vs H Q E->
   ∃t,vj (pA fA P w K mg base N qual (aq st) f dQ A outer s H E).Jl (bA st) t/\t {nx:=λ _ H'=>Q .bx H',rt:=Q} (start N vs) H):cw P w K mg base fA (k+1) f fd ps sp:=by
 obtain⟨oc,od,kV,doc,pm,an,dQ,ct,wo,rfl,lk,hcd⟩:=F.ex;refine Ld lk hcd S len λ A outer s H vs Q E hr Bg=>?_;obtain⟨t,h,q⟩:=dZ dQ A outer s H vs Q E hr Bg;exact⟨t,h.Jl,q⟩
theorem jk.binds {x qual:Str}{st:Stmt}{f:Addr}{fd:FuncData}{ps:List Str}(F:jk K x qual st f fd) (h:∀(kV doc pm:Value) (an:Option Addr) (dQ ct:Value) (us:List Value),us.length=ps.length->bindArgs (PySem.W.fnOf x qual (bX st) (bA st) (aq st) .none kV doc pm an dQ ct) ⟨us,[]⟩=pure (ps.zip us)):Binds K fd ps []:=by obtain⟨oc,od,kV,doc,pm,an,dQ,ct,wo,rfl,lk,hcd⟩:=F.ex;exact .all (h kV doc pm an dQ ct)
theorem OD{x qual:Str}{st:Stmt}{f:Addr}{oc:Value}{od an:Option Addr}{wo:Array (Option Value)}{kV doc pm dQ ct:Value}(l:K.lookup f=some ⟨oc,od,.func (PySem.W.fnOf x qual (bX st) (bA st) (aq st) .none kV doc pm an dQ ct),wo⟩) (c:PySem.W.codeIn K dQ qual=true) (k:PySem.W.keepIn K (.ref f)=true):jk K x qual st f (PySem.W.fnOf x qual (bX st) (bA st) (aq st) .none kV doc pm an dQ ct):=⟨⟨oc,od,kV,doc,pm,an,dQ,ct,wo,rfl,l,c⟩,k⟩
end
end L2
namespace L2
open PySem PySem.Spec PyProof.Rows
section
variable {X:Cx}{pins:List (Addr×Obj)}{σ:St}{H:Hp}{s:Shared}
theorem Inv.pP {D:Addr}{o:HO}(I:Inv X pins σ H s)(hn:H D=none)(new:bq X.prog X.w (upd H D o) s.heap D o) (hL:D≠X.env.locals) (hs:X.s₀.heap.objs.size<=D) (hc:∀x c,X.env.cells.lookup x=some c->c≠D) (hp:∀p∈X.pn++pins,p.1≠D):Inv X pins σ (upd H D o) s:=by
 have ne:∀{b:Addr} {u:HO},H b=some u->b≠D:=λ e=>bJ e hn;have nb:∀(b:Addr) (ob:Obj),X.s₀.heap.get? b=some ob->b≠D:=λ b ob e=>D4 (p6 (D5 e) hs);refine⟨I.ok,I.os,I.bare,⟨I.base.keep,I.base.slot,λ b ob e n hx=>?_,I.base.there,λ b xs e=>?_,λ b ob u e=>?_,λ b ps e=>?_⟩,I.loc,I.cell,?_,λ x c e=>?_,λ p RB=>?_,λ b u e=>?_,I.len⟩
 ·rw[aG (nb b ob e)];exact I.base.free b ob e n hx
 ·have q:=I.base.km b xs e;rw[aG (ne q)];exact q
 ·have q:=I.base.kQ b ob u e;rw[aG (ne q)];exact q
 ·obtain⟨m,q⟩:=I.base.lG b ps e;exact⟨m,by rw[aG (ne q)];exact q⟩
 ·rw[aG (J5 hL)];exact I.free
 ·rw[aG (hc x c e)];exact I.fH x c e
 ·obtain⟨e,n,r⟩:=I.pin p RB;exact⟨e,by rw[aG (hp p RB)];exact n,r⟩
 ·by_cases hb:b=D
  ·subst hb;rw[aP]at e;cases e;exact new
  ·rw[aG hb]at e;exact(I.bh b u e).ko (λ c v _ q=>q) (λ c q=>by rw[aG (ne q)];exact q) λ c xs q=>by rw[aG (ne q)];exact q
end
def bt(cells:List (Str×Addr)):List (Str×NameKind)->List (Str×Addr)->List (Str×Addr)
 |[],acc=>acc
 |(n,k)::r,acc=>if(k==.free)=true then bt cells r ((n,(cells.lookup n).getD 0)::acc)else bt cells r acc
theorem fW{cells:List (Str×Addr)}:∀(names:List (Str×NameKind)) (acc:List (Str×Addr)),(∀n,(n,NameKind.free)∈names->∃c,cells.lookup n=some c)-> (∀x c,acc.lookup x=some c->cells.lookup x=some c)->∀x c,(bt cells names acc).lookup x=some c->cells.lookup x=some c
 |[],acc,_,h,x,c,e=>h x c e
 |(n,k)::r,acc,hc,h,x,c,e=>by
  unfold bt at e;by_cases hk:(k==NameKind.free)=true
  ·rw[J6 hk]at e;refine fW r _ (λ m hm=>hc m (k8 _ hm)) (λ y d q=>?_) x c e;have JN:k=NameKind.free:=by simpa using hk
   obtain⟨c0,e0⟩:=hc n (by rw[JN];exact n6);rw[x9]at q;cases hy:(y==n)with
   |true=>
    rw[hy]at q;have yn:y=n:=by simpa using hy
    subst yn;rw[e0]at q;rw[e0];exact q
   |false=>rw[hy]at q;exact h y d q
  ·rw[J7 hk]at e;exact fW r _ (λ m hm=>hc m (k8 _ hm)) h x c e
theorem gU{cells:List (Str×Addr)}{x:Str}:∀(names:List (Str×NameKind)) (acc:List (Str×Addr)),((acc.lookup x).isSome=true)->((bt cells names acc).lookup x).isSome=true
 |[],acc,h=>h
 |(n,k)::r,acc,h=>by
  unfold bt;split
  ·refine gU r _ ?_;rw[x9];cases hy:(x==n)with
   |true=>rfl
   |false=>exact h
  ·exact gU r _ h
theorem iC{cells:List (Str×Addr)}{x:Str}:∀(names:List (Str×NameKind)) (acc:List (Str×Addr)),(x,NameKind.free)∈names->((bt cells names acc).lookup x).isSome=true
 |[],acc,h=>absurd h (by simp)
 |(n,k)::r,acc,h=>by
  unfold bt;rcases D1.mp h with e|h
  ·cases e;rw[J6 (by decide)];refine gU r _ ?_;rw[x9];simp
  ·split
   ·exact iC r _ h
   ·exact iC r _ h
theorem dP{scope:Scope}{env:Env}(hc:∀n,(n,NameKind.free)∈scope.names->∃c,env.cells.lookup n=some c):closureFor scope env=pure (bt env.cells scope.names []):=by
 unfold closureFor;have all:∀(names:List (Str×NameKind)) (acc:List (Str×Addr)),(∀n,(n,NameKind.free)∈names->∃c,env.cells.lookup n=some c)->
   (forIn names acc (λ(x:Str×NameKind) (cs:List (Str×Addr))=>(match x with|(name,kind)=>if(kind==.free)=true then(do let c <- cellOf env name;pure (ForInStep.yield ((name,c)::cs)))else pure (ForInStep.yield cs):Sem (ForInStep (List (Str×Addr))))))=(pure (bt env.cells names acc):Sem (List (Str×Addr))):=by
  intro names
  induction names with
  |nil=>intro acc _;rfl
  |cons y r ih=>
   intro acc hc;obtain⟨n,k⟩:=y;rw[forIn_cons];unfold bt;dsimp only;by_cases hk:(k==NameKind.free)=true
   ·rw[J6 hk,J6 hk];have JN:k=NameKind.free:=by simpa using hk
    obtain⟨c0,e0⟩:=hc n (by rw[JN];exact n6);unfold cellOf;rw[e0];exact ih _ λ m hm=>hc m (k8 _ hm)
   ·rw[J7 hk,J7 hk];exact ih _ λ m hm=>hc m (k8 _ hm)
 have q:=all scope.names [] hc;refine Eq.trans ?_ (J4 (λ m=>m >>= pure) q);rfl
theorem nA{env:Env}:∀{names:List (Str×NameKind)} {x:Str},names.lookup x=some .free-> (names.map λ(n,k)=>if(k==NameKind.free&&env.scope.kind==.function&&env.kindOf n==some .cell)then(n,NameKind.cell)else(n,k)).lookup x=some .cell\/ (names.map λ(n,k)=>if(k==NameKind.free&&env.scope.kind==.function&&env.kindOf n==some .cell)then(n,NameKind.cell)else(n,k)).lookup x=some .free
 |[],_,h=>by simp at h
 |(n,k)::r,x,h=>by
  have ih:=@nA env r x;rw[C9];dsimp only;cases hx:x==n with
  |true=>
   rw[x9,hx]at h;have h':k=NameKind.free:=by simpa using h
   subst h';split
   ·left;rw[x9,hx]
   ·right;rw[x9,hx]
  |false=>
   rw[x9,hx]at h;have ih:=ih h;split
   ·rw[x9,hx];exact ih
   ·rw[x9,hx];exact ih
theorem rX{prog:Program}{w:World}{A:Around}{R:Result->Shared->Prop}{s:Shared}{elt target iter:Expr}{ifs:List Expr}{scope:Scope}{pos:Pos}{it acc:Value}{env:Env}(I:Nat->Shared->Prop) (turn:∀n s,I n s->wpAny (model prog w) A (pyNext it) (λ r s1=>match r with
   |none=>R (.ok .next) s1
   |some v=>wpAny (model prog w) A (letOwnedTupleGo target it v) (λ _ s2=>wpAny (model prog w) A (assign target env v) (λ _ s3=>
     wpAny (model prog w) A (forIn ifs true λ c r=>if r=true then do let ok <- isTrue c env (eval c env);pure (ForInStep.yield ok)else pure (ForInStep.yield r)) (λ ok s4=>
      if ok=true then wpAny (model prog w) A (eval elt env) (λ x s5=>
       wpAny (model prog w) A (call (.builtin "list.append") [acc,x]) (λ _ s6=>∃m,m < n/\I m s6) (λ _ _=>False) s5) (λ _ _=>False) s4
      else ∃m,m < n/\I m s4) (λ _ _=>False) s3) (λ _ _=>False) s2) (λ _ _=>False) s1) (λ _ _=>False) s)
  (n:Nat) (h:I n s):
  codeAny (model prog w) A (.compLoop (.ListComp elt [⟨target,iter,ifs,0⟩] scope pos) 0 it acc env) R s:=by
 refine codeAny_loop rfl I (λ n s hI=>?_) n h;show wpAny _ A ((compTurn (.ListComp elt [⟨target,iter,ifs,0⟩] scope pos) 0 it acc env).onRaise (λ x=>do noteFrame x env;theTreesLotGoes x)) _ _ s;refine wpAny_noted ?_;rw[compTurn_list];refine wpAny_noRaise (G9 (wpAny_standAt (G9 (J1 (turn n s hI) (λ r s1 h1=>?_) λ _ _ h'=>h'))));cases r with
 |none=>exact H9 h1
 |some v=>
  refine G9 (J1 h1 (λ _ s2 h2=>?_) λ _ _ h'=>h');refine G9 (J1 h2 (λ _ s3 h3=>G9 (J1 h3 (λ ok s4 h4=>?_) λ _ _ h'=>h')) λ _ _ h'=>h');cases ok with
  |false=>exact H9 ⟨rfl,h4⟩
  |true=>exact G9 (G9 (J1 h4 (λ x s5 h5=>G9 (J1 h5 (λ _ s6 h6=>H9 (H9 ⟨rfl,h6⟩)) λ _ _ h'=>h')) λ _ _ h'=>h'))
end L2
namespace L2
open PySem PySem.Spec PyProof.Rows
def bz(X:Cx)(scope:Scope)(cl:List (Str×Addr))(tgs:List Str)(fr:List Nat)(C:Addr)(fp:List Addr)(s:Shared)(H:Hp):Cx:=
 {X with N:=tgs++fr.map (λ j=>X.N.getD j ""),s₀:=s,H₀:=H,env:=compEnvC scope cl C X.env,outer:=X.stack,ex:=fp,fn:=λ x=>scope.names.lookup x==some .cell,pn:=[]}
def ff(n:Nat)(fr:List Nat)(σ:St):St:=List.replicate n none++fr.map (λ j=>σ.getD j none)
structure Gs(X:Cx)(scope:Scope)(C:Addr)(h1:Heap)(cl:List (Str×Addr)):Prop where
 look:∀x c,cl.lookup x=some c->X.env.cells.lookup x=some c\/(C < c/\h1.IsCell c none)
 inj:∀x y c,cl.lookup x=some c->cl.lookup y=some c->x=y
 has:∀x,(x,NameKind.free)∈scope.names\/(x,NameKind.cell)∈scope.names->∃c,cl.lookup x=some c
 OE:∀x c,scope.names.lookup x=some .free->cl.lookup x=some c->X.env.cells.lookup x=some c
 own:∀x c,scope.names.lookup x=some .cell->cl.lookup x=some c->C < c
structure kg(X:Cx)(scope:Scope)(fr:List Nat):Prop where
 kind:scope.kind=.function
 cells:∀y∈scope.names,y.2=.cell->scope.names.lookup y.1=some .cell
 names:∀y∈scope.names,y.2=.local->scope.names.lookup y.1=some .local
 has:∀n,(n,NameKind.free)∈scope.names->X.env.kindOf n=some .cell\/X.env.kindOf n=some .free
 fr:∀j∈fr,j < X.N.length/\scope.names.lookup (X.N.getD j "")=some .free
def jh(n:Nat)(g:TG):Prop:=∀x σ H Q,g x σ H Q->g x σ H λ σ2 H2=>Q σ2 H2/\σ2.length=σ.length/\∀k,n<=k->σ2[k]?=σ[k]?
theorem iy{n i:Nat}(h:i < n):jh n (cC i):=λ x σ H Q q=>⟨q,by simp,λ k hk=>by rw[l6 (by omega)]⟩
def mI(n:Nat)(g:zH):Prop:=∀xs σ H Q,g xs σ H Q->g xs σ H λ σ2 H2=>Q σ2 H2/\σ2.length=σ.length/\∀k,n<=k->σ2[k]?=σ[k]?
theorem Fq{n:Nat}:mI n rT:=λ xs σ H Q q=>⟨q.1,q.2,rfl,λ _ _=>rfl⟩
def Py(X:Cx)(ifs:List Expr)(t:TT):Prop:=
 ∀(pins:List (Addr×Obj)) (s:Shared) (σ:St) (H:Hp) (Q:Bool->Hp->Prop),Inv X pins σ H s->t σ H Q->
  wpAny (model X.prog X.w) X.A (forIn ifs true λ c r=>if r=true then do let ok <- isTrue c X.env (eval c X.env);pure (ForInStep.yield ok)else pure (ForInStep.yield r)) (TP X pins σ Q) X.xe s
def TR:TT:=λ _ H Q=>Q true H
theorem IF{X:Cx}:Py X [] TR:=λ _ s σ H Q I h=>wpAny_tests_nil ⟨H,I,h⟩
theorem IE{X:Cx}{c:Expr}{t:TT}(h:PT X c t):Py X [c] t:=λ pins s σ H Q I q=>wpAny_tests_one (h pins s σ H Q I q)
def td(wi:TI)(g:TG)(tt:TT)(te:TE)(n:Nat)(fr:List Nat):TE:=λ σ H Q=>wi σ H λ J H1=>∃W:Nat->Nat->List V->Hp->Prop,(∃m,W 0 m [] H1)/\∀i m acc H,W i m acc H->
 acc.length<=sizeLine/\((J.stop i H/\∀p,H p=none->Q (.ref p) (upd H p (.lst acc)))\/
  (J.go i H/\∃N:List V->Hp->Prop,(∀Gg H',N Gg H'->∃m',m' < m/\W (i+1) m' Gg H')/\∀x H',J.GL i H x H'->g x (ff n fr σ) H' λ σ2 H2=>tt σ2 H2 λ b H3=>if b=true then te σ2 H3 λ y H4=>N (acc++[y]) H4 else N acc H3))
theorem gF{env:Env}:∀{names:List (Str×NameKind)} {x:Str} {k0:NameKind}, (names.map λ(n,k)=>if(k==NameKind.free&&env.scope.kind==.function&&env.kindOf n==some .cell)then(n,NameKind.cell)else(n,k)).lookup x=some k0->(k0=.cell\/k0=.free)->(x,NameKind.free)∈names\/(x,NameKind.cell)∈names
 |[],_,_,h,_=>by simp at h
 |(n,k)::r,x,k0,h,hk=>by
  have ih:=@gF env r x k0;rw[C9]at h;dsimp only at h;cases hx:x==n with
  |true=>
   have xn:x=n:=by simpa using hx
   subst xn;by_cases RL:(k==NameKind.free&&env.scope.kind==.function&&env.kindOf x==some .cell)=true
   ·have:k=NameKind.free:=by have:=(y7 _ _).mp RL;have:=(y7 _ _).mp this.1;simpa using this.1
    subst this;exact .inl n6
   ·rw[J7 RL,x9,hx]at h;have h':k=k0:=by simpa using h
    subst h';rcases hk with e|e
    ·subst e;exact .inr n6
    ·subst e;exact .inl n6
  |false=>
   have z:(x,NameKind.free)∈r\/(x,NameKind.cell)∈r:=by
    refine ih ?_ hk;split at h
    ·rw[x9,hx]at h;exact h
    ·rw[x9,hx]at h;exact h
   exact z.imp (k8 _) (k8 _)
theorem ig{x n:Str}{a:Addr}{acc:List (Str×Addr)}{c:Addr}(h:((n,a)::acc).lookup x=some c):(x=n/\c=a)\/(x≠n/\acc.lookup x=some c):=by
 rw[x9]at h;cases e:x==n with
 |true=>rw[e]at h;exact .inl ⟨by simpa using e,(A9 h).symm⟩
 |false=>rw[e]at h;exact .inr ⟨by simpa using e,h⟩
set_option tactic.hygienic true in
theorem rZ:∀(names:List (Str×NameKind)) (h:Heap) (acc:List (Str×Addr)) (x:Str) (c:Addr),(cellsFrom h.objs.size names acc).lookup x=some c->acc.lookup x=some c\/(h.objs.size<=c/\(pushCells h names).IsCell c none)
 |[],_,_,_,_,e=>.inl e
 |(n,k)::r,h,acc,x,c,e=>by
  unfold cellsFrom at e;unfold pushCells;split at e
  ·rename_i hk;rw[J6 hk];have sz:=C4 h {cls:=.type "cell",data:=.cell none};rw[<- sz]at e;rcases rZ r _ _ x c e with z|z
   ·rcases ig z with⟨_,q⟩|⟨_,q⟩
    ·subst q;exact .inr ⟨G5 _,_,pushCells_keeps r _ _ _ (m8 _ rfl),rfl⟩
    ·exact .inl q
   ·exact .inr ⟨by have:=z.1;rw[sz]at this;omega,z.2⟩
  ·rename_i hk;rw[J7 hk];exact rZ r h acc x c e
theorem xj:∀(names:List (Str×NameKind)) (n:Nat) (acc:List (Str×Addr)),(∀x c,acc.lookup x=some c->c < n)->(∀x y c,acc.lookup x=some c->acc.lookup y=some c->x=y)->∀x y c,(cellsFrom n names acc).lookup x=some c->(cellsFrom n names acc).lookup y=some c->x=y
 |[],_,_,_,hi=>hi
 |(m,k)::r,n,acc,lt,hi=>by
  unfold cellsFrom;split
  ·refine xj r (n+1) _ (λ x c e=>?_) (λ x y c e1 e2=>?_)
   ·rcases ig e with⟨_,q⟩|⟨_,q⟩
    ·rw[q];exact Nat.lt_succ_self n
    ·exact x8 (lt x c q)
   ·rcases ig e1 with⟨a1,q1⟩|⟨a1,q1⟩ <;> rcases ig e2 with⟨a2,q2⟩|⟨a2,q2⟩
    ·rw[a1,a2]
    ·exact absurd (q1▸lt y c q2) (C8 _)
    ·exact absurd (q2▸lt x c q1) (C8 _)
    ·exact hi x y c q1 q2
  ·exact xj r n acc lt hi
theorem mD{x:Str}:∀(names:List (Str×NameKind)) (n:Nat) (acc:List (Str×Addr)),(∃c,acc.lookup x=some c)->∃c,(cellsFrom n names acc).lookup x=some c
 |[],_,_,h=>h
 |(m,k)::r,n,acc,⟨c,h⟩=>by
  unfold cellsFrom;split
  ·refine mD r _ _ ?_;rw[x9];cases x==m with
   |true=>exact⟨_,rfl⟩
   |false=>exact⟨c,h⟩
  ·exact mD r n acc ⟨c,h⟩
theorem xk{x:Str}:∀(names:List (Str×NameKind)) (n:Nat) (acc:List (Str×Addr)),(x,NameKind.cell)∈names->∃c,(cellsFrom n names acc).lookup x=some c
 |[],_,_,h=>absurd h (by simp)
 |(m,k)::r,n,acc,h=>by
  unfold cellsFrom;rcases D1.mp h with e|h
  ·cases e;rw[J6 (by decide)];exact mD r _ _ ⟨n,by rw[x9];simp⟩
  ·split
   ·exact xk r _ _ h
   ·exact xk r _ _ h
set_option tactic.hygienic true in
theorem xl{x:Str}:∀(names:List (Str×NameKind)) (n:Nat) (acc:List (Str×Addr)),(x,NameKind.cell)∉names->(cellsFrom n names acc).lookup x=acc.lookup x
 |[],_,_,_=>rfl
 |(m,k)::r,n,acc,h=>by
  unfold cellsFrom;split
  ·rename_i hk;rw[xl r _ _ λ z=>h (k8 _ z),x9];cases e:x==m with
   |false=>rfl
   |true=>
    have e1:x=m:=by simpa using e
    have e2:k=.cell:=by simpa using hk
    subst e1 e2;exact absurd n6 h
  ·exact xl r n acc λ z=>h (k8 _ z)
set_option tactic.hygienic true in
theorem xi{x:Str}{lo:Nat}:∀(names:List (Str×NameKind)) (n:Nat) (acc:List (Str×Addr)),lo<=n->((x,NameKind.cell)∈names\/∀c,acc.lookup x=some c->lo<=c)->∀c,(cellsFrom n names acc).lookup x=some c->lo<=c
 |[],_,_,_,h,c,e=>by
  rcases h with h|h
  ·cases h
  ·exact h c e
 |(m,k)::r,n,acc,hn,h,c,e=>by
  unfold cellsFrom at e;split at e
  ·refine xi r (n+1) _ (by omega) ?_ c e;rcases h with h|h
   ·rcases D1.mp h with q|q
    ·cases q;exact .inr λ c e=>by
      rcases ig e with⟨_,z⟩|⟨z,_⟩
      ·rw[z];exact hn
      ·exact absurd rfl z
    ·exact .inl q
   ·exact .inr λ c e=>by
     rcases ig e with⟨_,z⟩|⟨_,z⟩
     ·rw[z];exact hn
     ·exact h c z
  ·rename_i hk;refine xi r n acc hn ?_ c e;rcases h with h|h
   ·rcases D1.mp h with q|q
    ·cases q;exact absurd rfl hk
    ·exact .inl q
   ·exact .inr h
section
variable {M:Model}{A:Around}{E:Value->Shared->Prop}{s:Shared}
theorem AO{scope:Scope}{globals:Addr}{closure:List (Str×Addr)}{qual:Str}{func:Option Addr}{code:Value}{env:Env}{builtins:Addr}{Q:Env->Shared->Prop} (hQ:Q (newEnv scope s.heap.objs.size globals (cellsFrom (s.heap.objs.size+1) scope.names closure) qual func code (some env) builtins) {s with heap:=pushCells (s.heap.push {cls:=.type "dict",data:=.dict #[]}) scope.names}):wpAny M A (newFunctionEnv scope globals closure [] qual func code (some env) builtins) Q E s:=by simp only[newFunctionEnv,Option.isSome_some,if_true];refine G9 (wpAny_alloc ?_);refine G9 (wpAny_layCells _ (λ name kind cells=>by cases YI:kind==NameKind.cell <;> simp[YI]) _ _ _ _ ?_);rw[show({s with heap:=s.heap.push {cls:=.type "dict",data:=.dict #[]}}:Shared).heap.objs.size=s.heap.objs.size+1 from C4 ..];exact G9 (H9 (H9 hQ))
end
section
variable {X:Cx}{scope:Scope}{tgs:List Str}{fr:List Nat}
theorem OR{pins:List (Addr×Obj)}{σ:St}{H:Hp}{s:Shared}{fp:List Addr}{C:Addr}{h1:Heap}{cl:List (Str×Addr)}(B:kg X scope fr)(L:Gs X scope C h1 cl)(I:Inv X pins σ H s)(hC:s.heap.objs.size<=C)(f:∀b∈fp,ke X pins H b)(Gz:∀b∈fp,b < s.heap.objs.size): (bz X scope cl tgs fr C fp s H).Ok:=by
 refine⟨I.ok.mod,B.kind,I.ok.glob,I.ok.blt,hC,L.inj,λ x hx=>?_,λ x c h e=>?_,I.ok.hd,I.ok.frames,.inl rfl,λ b hb=>⟨D4 (p6 (Gz b hb) hC),λ x c e=>?_⟩,
  I.bs,D8 I.ok.Bz I.sz,λ b o e hb=>?_,λ b hb hs=>?_,I.stack,I.qU⟩
 ·rcases hx with hx|hx
  ·exact L.has x (gF hx (.inl rfl))
  ·exact L.has x (gF hx (.inr rfl))
 ·exact D8 hC (G4 (L.own x c (by simpa[bz]using h) e))
 ·rcases L.look x c e with z|z
  ·exact(f b hb).2.2.2.2.1 x c z
  ·exact λ q=>absurd (p5 hC z.1) (Nat.not_lt.mpr (G4 (q▸Gz b hb)))
 ·rcases(f b hb).2.2.2.1 with z|z
  ·exact I.ok.AN b o e z
  ·exact absurd (p6 (D5 e) (D8 I.ok.Bz z)) (C8 _)
 ·rcases D1.mp (I.mY b hs)with z|z
  ·exact(f b hb).2.1 z
  ·exact(f b hb).2.2.1 z
theorem Ko{pins:List (Addr×Obj)}{σ:St}{H:Hp}{s s1:Shared}{fp:List Addr}{C:Addr}{m:Str->Option Value}{cl:List (Str×Addr)}(B:kg X scope fr)(L:Gs X scope C s1.heap cl)(I:Inv X pins σ H s)(hC:s.heap.objs.size<=C)(f:∀b∈fp,ke X pins H b)(Gz:∀b∈fp,b < s.heap.objs.size) (ho:s1.os=s.os) (hg:AllBare s1.gens) (hk:∀b o,s.heap.get? b=some o->s1.heap.get? b=some o) (hn:s1.heap.Ns C m):Inv (bz X scope cl tgs fr C fp s H) [] (ff tgs.length fr σ) H s1:=by
 refine⟨OR B L I hC f Gz,ho,hg,Un.kept hk,⟨m,hn,λ i x v e1 e2 e3=>?_⟩,λ x c e=>?_,I.bh.fresh hC,λ x c e=>?_,λ p hp=>absurd hp (by simp[bz]),I.bh.kept hk,by simp[ff,bz]⟩
 ·-- a free name:ax VT value
  have e1:(tgs++fr.map (λ j=>X.N.getD j ""))[i]?=some x:=e1;have hi:tgs.length<=i:=by refine y0 λ iX=>?_;unfold ff at e2;rw[c9 (by simpa using iX),i8,J6 iX]at e2;cases e2
  unfold ff at e2;rw[c7 (by simpa using hi),k5,s9]at e2;rw[c7 hi,s9]at e1;cases ej:fr[i - tgs.length]? with
  |none=>rw[ej]at e1;cases e1
  |some j=>
   rw[ej]at e1 e2;have VP:X.N.getD j ""=x:=A9 e1;have Xh:σ.getD j none=some v:=A9 e2;obtain⟨hj,hl⟩:=B.fr j (k9 ej);have hN:X.N[j]?=some x:=by rw[c8,i5 hj]at VP;rw[i5 hj];exact J4 some VP
   have hs:σ[j]?=some (some v):=by
    have Tg:j < σ.length:=by rw[I.len];exact hj
    rw[c8,i5 Tg]at Xh;rw[i5 Tg];exact J4 some Xh
   rw[VP]at hl;obtain⟨m0,yT,Vl⟩:=I.loc;have RG:(x,NameKind.free)∈scope.names:=l9 hl;have kinds:=B.has x RG;obtain⟨u,ru,lu⟩:=Vl j x v hN hs (by rcases kinds with z|z;exact .inr (.inl z);exact .inr (.inr z));refine⟨u,ru,.inr ⟨nA hl,?_⟩⟩;obtain⟨c,hc⟩:=L.has x (.inl RG);refine⟨c,hc,?_⟩;rcases lu with⟨kl,_⟩|⟨_,c',Ou,z⟩
   ·rcases kinds with z|z <;> (rw[z]at kl;cases kl)
   ·have:c=c':=by have:=L.OE x c hl hc;rw[this]at Ou;exact A9 Ou
    subst this;obtain⟨o,ho,hd⟩:=z;exact⟨o,hk _ _ ho,hd⟩
 ·rcases L.look x c e with z|z
  ·obtain⟨v,o,Bh,hd⟩:=I.cell x c z;exact⟨v,o,hk _ _ Bh,hd⟩
  ·exact⟨none,z.2⟩
 ·rcases L.look x c e with z|z
  ·exact I.fH x c z
  ·exact I.bh.fresh (D8 hC (G4 z.1))
theorem OS{pins:List (Addr×Obj)}{σ:St}{H:Hp}{s:Shared}{h2:Heap}(B:kg X scope fr)(I:Inv X pins σ H s)(hs:s.heap.objs.size<=h2.objs.size):Gs X scope h2.objs.size (pushCells (h2.push {cls:=.type "dict",data:=.dict #[]}) scope.names) (cellsFrom (h2.objs.size+1) scope.names (bt X.env.cells scope.names [])):=by
 have look:∀x c,(bt X.env.cells scope.names []).lookup x=some c->X.env.cells.lookup x=some c:=
  fW scope.names [] (λ n hn=>I.ok.has n (B.has n hn)) λ x c e=>by simp at e
 have sz:=C4 h2 {cls:=.type "dict",data:=.dict #[]};refine⟨λ x c e=>?_,xj _ _ _ (λ x c e=>?_) (λ x y c e1 e2=>I.ok.inj x y c (look x c e1) (look y c e2)),λ x h=>?_,λ x c h e=>?_,λ x c h e=>?_⟩
 ·rw[<- sz]at e;rcases rZ _ _ _ x c e with z|z
  ·exact .inl (look x c z)
  ·exact .inr ⟨p6 (by rw[sz];exact Nat.lt_succ_self _) z.1,z.2⟩
 ·obtain⟨v,hv⟩:=I.cell x c (look x c e);exact x8 (p6 hv.lt hs)
 ·rcases h with h|h
  ·exact mD _ _ _ (Option.isSome_iff_exists.mp (iC scope.names [] h))
  ·exact xk _ _ _ h
 ·rw[xl _ _ _ λ z=>by have:=B.cells _ z rfl;rw[h]at this;cases this]at e;exact look x c e
 ·exact xi (lo:=h2.objs.size+1) _ _ _ (G5 _) (.inl (l9 h)) c e
end
end L2
namespace L2
open PySem PySem.Spec PyProof.Rows
section
variable {X:Cx}{scope:Scope}{tgs:List Str}{fr:List Nat}{tg elt iter:Expr}{ifs:List Expr}{pos:Pos}{wi:TI}{g:TG}{tt:TT}{te:TE}
theorem toF{α:Type}{M:Model}{A:Around}{E:Value->Shared->Prop}{s:Shared}{t:Sem α}{Q Q':α->Shared->Prop}(hE:∀e s,E e s->False)(h:wpAny M A t Q E s)(hQ:∀a s,Q a s->Q' a s):wpAny M A t Q' (λ _ _=>False) s:=
 J1 h hQ hE
theorem qB{pins:List (Addr×Obj)}{σ:St}{H:Hp}{s:Shared}{R:Value->Addr->Result->Shared->Prop}{E:Value->Shared->Prop}{J:It}{fp:List Addr}{it:Addr}{tn:Nat->Heap->Prop}{Qe:List V->Hp->Prop} (B:kg X scope fr) (hc:X.calm=true) (hE:∀e s,X.xe e s->False) (hg:∀cl C fp s H,PG (bz X scope cl tgs fr C fp s H) tg g) (gk:jh tgs.length g) (ht:∀cl C fp s H,Py (bz X scope cl tgs fr C fp s H) ifs tt) (he:∀cl C fp s H,PE (bz X scope cl tgs fr C fp s H) elt te) (I:Inv X pins σ H s) (T:Turn X.prog X.w X.K tg J fp it tn) (st:tn 0 s.heap) (f:∀b∈fp,ke X pins H b) (W:Nat->Nat->List V->Hp->Prop) (m0:Nat) (w0:W 0 m0 [] H) (turn:∀i m acc H,W i m acc H->acc.length<=sizeLine/\((J.stop i H/\Qe acc H)\/(J.go i H/\∃N:List V->Hp->Prop,(∀Gg H',N Gg H'->∃m',m' < m/\W (i+1) m' Gg H')/\∀x H',J.GL i H x H'->g x (ff tgs.length fr σ) H' λ σ2 H2=>tt σ2 H2 λ b H3=>
   if b=true then te σ2 H3 λ y H4=>N (acc++[y]) H4 else N acc H3)))
  (fin:∀(D C:Addr) (s1:Shared) (H1:Hp) (acc:List V) (ax:List Value),s.heap.objs.size<=D->s.heap.objs.size<=C->D≠C->Inv X pins σ H1 s1->H1 C=none->H1 D=none->(∃m,s1.heap.Ns C m)->
   s1.heap.PlainList D ax.toArray->Vals acc ax->acc.length<=sizeLine->Qe acc H1->R (.ref D) C (.ok .next) s1):
  wpAny (model X.prog X.w) X.A (newList []) (λ acc s3=>wpAny (model X.prog X.w) X.A (newFunctionEnv scope X.env.globals (bt X.env.cells scope.names []) [] X.env.qual none .none (some X.env)) (λ R7 s4=>
   codeAny (model X.prog X.w) X.A (.compStart (.ListComp elt [⟨tg,iter,ifs,0⟩] scope pos) 0 (.ref it) acc {R7 with scope:=relabel scope X.env}) (R acc R7.locals) s4) E s3) E s:=by
 have Gz:∀b∈fp,b < s.heap.objs.size:=λ b hb=>by obtain⟨o,e,_⟩:=T.obj 0 _ st b hb;exact D5 e
 refine u9 (AO ?_);dsimp only;generalize VD:s.heap.push {cls:=.type "list",dict:=none,data:=.seq ([]:List Value).toArray}=H2;have hC:H2.objs.size=s.heap.objs.size+1:=by rw[<- VD,C4]
 have L0:=OS (h2:=H2) B I (by omega);have RD:(pushCells (H2.push {cls:=.type "dict",data:=.dict #[]}) scope.names).Ns H2.objs.size (λ _=>none):=(Heap.Ns.new H2 (.type "dict")).keeps (pushCells_keeps _ _);have UQ:∀b o,H2.get? b=some o->(pushCells (H2.push {cls:=.type "dict",data:=.dict #[]}) scope.names).get? b=some o:=λ b o e=>pushCells_keeps _ _ b o (j4 _ e);generalize pushCells (H2.push {cls:=.type "dict",data:=.dict #[]}) scope.names=h1 at L0 RD UQ ⊢;have OA:s.heap.objs.size≠H2.objs.size:=by omega
 have JP:s.heap.objs.size<=H2.objs.size:=by omega
 have below:∀b,b < s.heap.objs.size->b≠H2.objs.size/\b≠s.heap.objs.size:=λ b hb=>⟨by omega,by omega⟩;have old:∀b o,s.heap.get? b=some o->h1.get? b=some o:=λ b o e=>UQ b o (VD▸j4 _ e);have lI:h1.PlainList s.heap.objs.size #[]:=⟨_,UQ _ _ (VD▸m8 _ rfl)⟩;have V':tn 0 h1:=T.keep _ _ _ st λ b _ o e=>old b o e;have UL:∀x c,(cellsFrom (H2.objs.size+1) scope.names (bt X.env.cells scope.names [])).lookup x=some c->X.env.cells.lookup x=some c\/H2.objs.size < c:=λ x c e=>(L0.look x c e).imp id λ z=>z.1;generalize cellsFrom (H2.objs.size+1) scope.names (bt X.env.cells scope.names [])=cl at L0 UL ⊢;generalize hCd:H2.objs.size=C at*;generalize RP:s.heap.objs.size=D at*;have Za:∀b,b < D->b < s.heap.objs.size:=λ b hb=>by rw[RP];exact hb
 have fD:=I.kR (b:=D) (H':=H) (E5 RP) (I.bh.fresh (E5 RP));have KC:∀b,b≠X.env.locals->b∉X.fs->b∉sN X.stack:=λ b h1 h2 hb=>(D1.mp (I.mY b hb)).elim h1 h2;have vA:∀b∈fp,b∉sN X.stack:=λ b hb=>KC b (f b hb).2.1 (f b hb).2.2.1;have ZM:∀x c,cl.lookup x=some c->c≠D:=λ x c e=>(UL x c e).elim (fD.2.2.2.2.1 x c) λ z q=>absurd (p5 JP (q▸z)) (C8 _);have loop:∀s3:Shared,s3={s with heap:=h1}->
   codeAny (model X.prog X.w) X.A (.compLoop (.ListComp elt [⟨tg,iter,ifs,0⟩] scope pos) 0 (.ref it) (.ref D) (compEnvC scope cl C X.env)) (R (.ref D) C) s3:=by
  rintro s3 rfl;have Z7:Inv (bz X scope cl tgs fr C fp s H) [] (ff tgs.length fr σ) H {s with heap:=h1}:=
   Ko B L0 I (by rw[RP];exact JP) f (λ b hb=>Za b (Gz b hb)) rfl I.bare old RD
  refine rX (λ n s'=>∃(i:Nat) (acc:List V) (ax:List Value) (H':Hp),Inv (bz X scope cl tgs fr C fp s H) [] (ff tgs.length fr σ) H' s'/\tn i s'.heap/\(∀b∈fp,H' b=none)/\H' D=none/\
   s'.heap.PlainList D ax.toArray/\Vals acc ax/\W i n acc H') ?_ m0 ⟨0,[],[],H,Z7,V',λ b hb=>(f b hb).1,fD.1,lI,.nil,w0⟩
  rintro n s3 ⟨i,acc,ax,H3,I3,Qb,RS,Zb,⟨nl,EX⟩,SX,w3⟩;obtain⟨hz,h⟩:=turn i n acc H3 w3;have Xs:Inv (bz X scope cl tgs fr C fp s H) [(D,{cls:=.type "list",data:=.seq ax.toArray nl})] (ff tgs.length fr σ) H3 s3:=I3.jH λ p hp=>by
   have e:p=(D,{cls:=.type "list",data:=.seq ax.toArray nl}):=by simpa using hp
   subst e;exact⟨EX,Zb,OA,KC D fD.2.1 fD.2.2.1,λ v e=>by cases e⟩
  have fY:∀{H':Hp},(∀b∈fp,H' b=none)->∀b∈fp,ke (bz X scope cl tgs fr C fp s H) [(D,{cls:=.type "list",data:=.seq ax.toArray nl})] H' b:=λ hn b hb=>
   ⟨hn b hb,(below b (Gz b hb)).1,vA b hb,.inl hb,λ x c e=>(UL x c e).elim ((f b hb).2.2.2.2.1 x c) λ z q=>absurd (p6 (Gz b hb) (D8 JP (G4 (q▸z)))) (C8 _),λ p hp=>by
    have e:p=(D,{cls:=.type "list",data:=.seq ax.toArray nl}):=by simpa[bz]using hp
    subst e;exact J5 (below b (Gz b hb)).2⟩
  rcases h with⟨stop,q⟩|⟨go,N,hN,step⟩
  ·refine cT (T.done (bz X scope cl tgs fr C fp s H) rfl rfl rfl hc i _ s3 _ H3 _ Xs (fY RS) Qb stop) λ r s4 ⟨hr,I4⟩=>?_;subst hr;have pD:=I4.pin (D,{cls:=.type "list",data:=.seq ax.toArray nl}) (by simp);have IX:Inv X pins σ H3 s4:=I.R9 (ch:=fp) I4.os I4.base I4.bh I4.bare λ b hb=>⟨(f b hb).2.2.2.1,(f b hb).2.1,(f b hb).2.2.2.2.1,(f b hb).2.2.2.2.2⟩;obtain⟨m4,WD,_⟩:=I4.loc;exact fin D C s4 H3 acc ax (G5 _) JP OA IX I4.free pD.2.1 ⟨m4,WD⟩ ⟨nl,pD.1⟩ SX hz q
  ·refine cT (T.item (bz X scope cl tgs fr C fp s H) rfl rfl rfl hc i _ s3 _ H3 _ Xs (fY RS) Qb go) λ r s4 ⟨u,hr,h4⟩=>?_;subst hr;refine cT h4 λ _ s5 ⟨x,H5,I5,r5,y5,He,VH⟩=>?_;have V7:=I5.pinned (fY VH) (T.obj _ _ He);refine toF hE (hg _ _ _ _ _ _ s5 _ H5 x u _ V7 r5 (gk x _ H5 _ (step x H5 y5))) λ _ s6 ⟨σ6,H6,I6,q6,UN,k6⟩=>?_;refine toF hE (ht _ _ _ _ _ _ s6 σ6 H6 _ I6 q6) λ ok s7 ⟨H7,I7,q7⟩=>?_;have wk:∀{H':Hp} {s':Shared} {pl:List (Addr×Obj)},Inv (bz X scope cl tgs fr C fp s H) pl σ6 H' s'->Inv (bz X scope cl tgs fr C fp s H) pl (ff tgs.length fr σ) H' s':=λ J=>
    J.weak UN.symm λ k v e=>by
     by_cases hk:tgs.length<=k
     ·rw[k6 k hk];exact e
     ·unfold ff at e;rw[c9 (by simpa using hk),i8,J6 (by omega)]at e;cases e
   cases ok with
   |false=>simp only[o7,J3]at q7 ⊢;obtain⟨m',hm,w7⟩:=hN _ _ q7;have pD:=I7.pin (D,{cls:=.type "list",data:=.seq ax.toArray nl}) (by simp);refine⟨m',hm,i+1,acc,ax,H7,wk (I7.jH (pins':=[]) λ p hp=>absurd hp (by simp)),T.keep _ _ _ He λ b hb o e=>(I7.pin (b,o) (j8 _ (j8 _ (dO hb e)))).1,λ b hb=>?_,pD.2.1,⟨nl,pD.1⟩,SX,w7⟩;obtain⟨o,e,d⟩:=T.obj _ _ He b hb;exact(I7.pin (b,o) (j8 _ (j8 _ (dO hb e)))).2.1
   |true=>
    simp only[if_true]at q7 ⊢;refine toF hE (he _ _ _ _ _ _ s7 σ6 H7 _ I7 q7) λ uy s8 ⟨y,H8,I8,r8,n8⟩=>?_;obtain⟨m',hm,w8⟩:=hN _ _ n8;have pD:=I8.pin (D,{cls:=.type "list",data:=.seq ax.toArray nl}) (by simp);have hits:ax.toArray.size<=sizeLine:=by have:=SX.length;simp only[x5];omega
    refine wpAny_list_append_plain (hsz:=hits) (show s8.heap.PlainList D ax.toArray from⟨nl,pD.1⟩) λ h9 Vk Wv=>?_;have I9:Inv (bz X scope cl tgs fr C fp s H) [] σ6 H8 {s8 with heap:=h9,toks:=s8.toks}:=
     (I8.jH (pins':=[]) λ p hp=>absurd hp (by simp)).turned (it:=D) (λ b o hb e=>Wv.extBut b o hb e) pD.2.1 OA (.inr (E5 RP)) ZM λ p hp=>absurd hp (by simp[bz])
    refine⟨m',hm,i+1,acc++[y],ax++[uy],H8,wk I9,T.keep _ _ _ He λ b hb o e=>Wv.extBut b o (below b (Gz b hb)).2 (I8.pin (b,o) (j8 _ (j8 _ (dO hb e)))).1,λ b hb=>?_,pD.2.1,?_,SX.append (.cons r8 .nil),w8⟩
    ·obtain⟨o,e,d⟩:=T.obj _ _ He b hb;exact(I8.pin (b,o) (j8 _ (j8 _ (dO hb e)))).2.1
    ·have e:(ax++[uy]).toArray=ax.toArray.push uy:=by simp
     rw[e];exact Vk
 exact codeAny_compStart_list (loop _ rfl) (T.self _ 0 _ _ _ V' (loop _ rfl))
theorem rq(B:kg X scope fr)(hc:X.calm=true)(hE:∀e s,X.xe e s->False)(hi:PI X tg iter wi) (hg:∀cl C fp s H,PG (bz X scope cl tgs fr C fp s H) tg g) (gk:jh tgs.length g) (ht:∀cl C fp s H,Py (bz X scope cl tgs fr C fp s H) ifs tt) (he:∀cl C fp s H,PE (bz X scope cl tgs fr C fp s H) elt te) (hs:∀x,foldedSetIterable iter X.env x=pure x:=by intro _;rfl):PE X (.ListComp elt [⟨tg,iter,ifs,0⟩] scope pos) (td wi g tt te tgs.length fr):=by intro pins s σ H Q I h;rw[eval_ListComp];have vB:=dP (scope:=scope) (env:=X.env) λ n hn=>I.ok.has n (B.has n hn);refine wpAny_comprehension_free (use:=none) rfl hs vB B.kind B.names (J1 (hi pins s σ H _ I h) (λ xv s1 h1=>J1 h1 (λ S9 s2 h2=>?_) λ _ _ e=>e) λ _ _ e=>e);obtain⟨it,fp,tn,J,H2,rfl,I2,T,Gv,f2,W,⟨m0,w0⟩,turn⟩:=h2;refine qB (R:=λ acc C=>compPost (model X.prog X.w) X.A X.xe none (EP X pins σ Q) acc C) (Qe:=λ acc H=>∀p,H p=none->Q (.ref p) (upd H p (.lst acc))) B hc hE hg gk ht he I2 T Gv f2 W m0 w0 turn ?_;intro D C s1 H1 acc ax hD hC OA I1 nC nD ⟨m,hn⟩ hl rv hz q;refine⟨m,hn,λ h' jN=>?_⟩;have fC:=I2.kR (b:=C) (H':=H1) hC nC;have fD:=I2.kR (b:=D) (H':=H1) hD nD;have I3:Inv X pins σ H1 {s1 with heap:=h',toks:=s1.toks}:=I1.turned (it:=C) (λ b o hb e=>jN.extBut b o hb e) nC fC.2.1 fC.2.2.2.1 fC.2.2.2.2.1 fC.2.2.2.2.2;obtain⟨k,e⟩:=hl.extBut jN.extBut OA;exact⟨.ref D,upd H1 D (.lst acc),I3.pP nD ⟨hz,ax,k,rv,e⟩ fD.2.1 (D8 I2.sz hD) fD.2.2.2.2.1 fD.2.2.2.2.2,rfl,q D nD⟩
theorem we{i:Nat}{y:Str}{py tm:Pos}(hN:X.N.Nodup)(hiy:X.N[i]?=some y)(hy:Loc X.env.scope y)(B:kg X scope fr)(hc:X.calm=true)(hE:∀e s,X.xe e s->False)(hi:PI X tg iter wi) (hg:∀cl C fp s H,PG (bz X scope cl tgs fr C fp s H) tg g) (gk:jh tgs.length g) (ht:∀cl C fp s H,Py (bz X scope cl tgs fr C fp s H) ifs tt) (he:∀cl C fp s H,PE (bz X scope cl tgs fr C fp s H) elt te) (hsw:swapsWith (.ListComp elt [⟨tg,iter,ifs,0⟩] scope pos) (some (.Name y py)) tm.line X.env=pure true:=by rfl) (hf:X.fn y=true\/X.env.scope.names.lookup y=some .local:=by first|exact .inl rfl|exact .inr rfl|assumption) (hs:∀x,foldedSetIterable iter X.env x=pure x:=by intro _;rfl):PS X (.Assign [.Name y py] (.ListComp elt [⟨tg,iter,ifs,0⟩] scope pos) tm) (Ha (td wi g tt te tgs.length fr) (cC i)):=by
 intro pins s σ H D0 I h;rw[exec_Assign_Name_used _ _ _ _ hsw];have vB:=dP (scope:=scope) (env:=X.env) λ n hn=>I.ok.has n (B.has n hn);refine G9 (wpAny_standAt (G9 ?_));show wpAny _ X.A (do let _ <- comprehension (.ListComp elt [⟨tg,iter,ifs,0⟩] scope pos) scope X.env _ (newList []) false (eval iter X.env) (some (assign (.Name y py) X.env))) _ _ s;refine G9 (J1 (wpAny_comprehension_free (use:=some (assign (.Name y py) X.env)) (Q:=λ _ s'=>SP X pins D0 .next s') rfl hs vB B.kind B.names
  (J1 (hi pins s σ H _ I h) (λ xv s1 h1=>J1 h1 (λ S9 s2 h2=>?_) λ _ _ e=>e) λ _ _ e=>e)) (λ _ s' hq=>H9 (H9 hq)) λ _ _ e=>e)
 obtain⟨it,fp,tn,J,H2,rfl,I2,T,Gv,f2,W,⟨m0,w0⟩,turn⟩:=h2;refine qB (R:=λ acc C=>compPost (model X.prog X.w) X.A X.xe (some (assign (.Name y py) X.env)) (λ _ s'=>SP X pins D0 .next s') acc C) (Qe:=λ acc H=>∀p,H p=none->cC i (.ref p) σ (upd H p (.lst acc)) D0.nx) B hc hE hg gk ht he I2 T Gv f2 W m0 w0 turn ?_;intro D C s1 H1 acc ax hD hC OA I1 nC nD ⟨m,hn⟩ hl rv hz q;have fC:=I2.kR (b:=C) (H':=H1) hC nC;have fD:=I2.kR (b:=D) (H':=H1) hD nD;obtain⟨k,e⟩:=hl;have I3:Inv X pins σ (upd H1 D (.lst acc)) s1:=I1.pP nD ⟨hz,ax,k,rv,e⟩ fD.2.1 (D8 I2.sz hD) fD.2.2.2.2.1 fD.2.2.2.2.2;show wpAny _ X.A (assign (.Name y py) X.env (.ref D)) _ _ s1;refine wpAny_assign_Name (pV I3 hN hiy hy (show RelV (.ref D) (.ref D)from rfl) (λ s2 J2 ⟨a,JJ,ha⟩=>?_) hf);have aC:C≠a:=by
  rcases ha with z|z
  ·rw[z];exact fC.2.1
  ·exact J5 (fC.2.2.2.2.1 _ _ z)
 refine⟨m,hn.sameBut JJ aC,λ h' jN=>?_⟩;have X3:(upd H1 D (.lst acc)) C=none:=by rw[aG (J5 OA)];exact nC
 have I4:Inv X pins (σ.set i (some (.ref D))) (upd H1 D (.lst acc)) {s2 with heap:=h',toks:=s2.toks}:=J2.turned (it:=C) (λ b o hb e=>jN.extBut b o hb e) X3 fC.2.1 fC.2.2.2.1 fC.2.2.2.2.1 fC.2.2.2.2.2;exact⟨_,_,I4,q D nD⟩
end
end L2
namespace L2
open PySem PySem.Spec PyProof.Rows
def xg(x:Str)(lo hi:Option Int):Str:=⟨((x.cps.toList.drop (HT.cx x.length 0 lo)).take (HT.cx x.length x.length hi - HT.cx x.length 0 lo)).toArray⟩
theorem Cd(lo hi:Option Int)(n:Nat):Builtin.Str.strSliceIndices lo hi 1 n=sliceRange ((HT.cx n 0 lo:Nat):Int) ((HT.cx n n hi:Nat):Int) 1:=by obtain⟨h1,h2,h3⟩:=jq lo hi n;rw[<- h1,<- h2];rfl
set_option tactic.hygienic true in
theorem Al(x:Str)(lo hi:Option Int):Txt.slice x lo hi=xg x lo hi:=by
 have e:((Builtin.Str.strSliceIndices lo hi 1 x.length).filterMap (x.cps[·]?)).toArray=(xg x lo hi).cps:=by rw[Cd,sliceRange_one,pick_run];rfl
 unfold Txt.slice;split
 ·rename_i h;have hl:(Builtin.Str.strSliceIndices lo hi 1 x.length).length=x.length:=by simpa using h
  rw[Cd,sliceRange_one,B4,x3]at hl;have b1:=HT.vU x.length 0 (G7 _) lo;have b2:=HT.vU x.length x.length (G5 _) hi;have hlen:x.cps.toList.length=x.length:=by simp[Str.length]
  unfold xg;by_cases h0:x.length=0
  ·have:x.cps.toList=[]:=j0.mp (by omega);rw[this];cases x with
   |mk c=>simp at this;subst this;simp
  ·have ea:HT.cx x.length 0 lo=0:=by omega
   have eb:HT.cx x.length x.length hi=x.length:=by omega
   rw[ea,eb,drop_zero,Nat.sub_zero,j2 (by omega)]
 ·exact J4 Str.mk e
section
variable {X:Cx}
def Ui:V->Option Int->Option Int->Hp->VK->Prop:=λ x lo hi H Q=>∃z,x=.str z/\z.length<=sizeLine/\Q (.str (xg z lo hi)) H
theorem wH{h:Heap}{sl:Addr}{vl vu:Value}{lo hi:Option Int}(hs:h.IsSliceOf sl vl vu .none)(pl:IsPart vl lo)(pu:IsPart vu hi):∃l u:Option (Int×Tok),h.IsSlice sl l u none/\l.map (·.1)=lo/\u.map (·.1)=hi:=by
 cases pl with
 |none=>
  cases pu with
  |none=>exact⟨none,none,hs,rfl,rfl⟩
  |int i t=>exact⟨none,some (i,t),hs,rfl,rfl⟩
 |int i t=>
  cases pu with
  |none=>exact⟨some (i,t),none,hs,rfl,rfl⟩
  |int j u=>exact⟨some (i,t),some (j,u),hs,rfl,rfl⟩
theorem LO:zI X Ui:=by intro pins s σ H x v vl vu lo hi sl Q I rx hs pl pu h;obtain⟨z,rfl,hz,q⟩:=h;obtain⟨t,rfl⟩:=rx;obtain⟨l,u,Pc,rfl,rfl⟩:=wH hs pl pu;refine⟨"str",_,PySem.F.slot_str_getitem.lookup,typeIs_str _ _ _,wpAny_getItem_str_slice (l:=l) (u:=u) (st:=none) Pc rfl ?_⟩;rw[<- Al]at q;exact post_val_or_str ⟨D8 (Txt.slice_le z _ _) hz,λ t' k=>⟨.str (Txt.slice z (l.map (·.1)) (u.map (·.1))),H,I.tok k,⟨_,rfl⟩,q⟩⟩
def Qm:R2:=λ x y H Q=>∃z n,x=.str z/\y=.int n/\MulOk z n/\Q (.str (Txt.mul z n)) H
theorem wq:fK X (binaryOp .Mult) Qm:=by intro pins s σ H x y v u Q I rx ry h;obtain⟨z,n,rfl,rfl,bh,q⟩:=h;obtain⟨t,rfl⟩:=rx;obtain⟨t',rfl⟩:=ry;exact SB.mul bh λ t' k=>⟨.str (Txt.mul z n),H,I.tok k,⟨_,rfl⟩,q⟩
theorem va(hc:X.calm=true):di X (.builtin "all") (λ xs H Q=>∃(p:Addr) (bs:List Bool),xs=[.ref p]/\eW X.K H p (bs.map V.bl)/\Q (.bl (bs.all id)) H):=by
 intro pins s σ H xs us Q I r h;obtain⟨p,bs,rfl,hq,q⟩:=h;obtain⟨u,rfl,r1⟩:=vals1 r;cases r1;obtain⟨ax,rv,pl,hz⟩:=I.list hq;refine call_all_walk (wpAny_pyIter_list pl.isList ?_);have eZ:p≠s.heap.objs.size:=by obtain⟨o,n,e,_⟩:=pl;exact D4 (D5 e)
 have hlen:ax.length=bs.length:=by rw[<- rv.length,B4]
 refine⟨s.heap.objs.size,_,_,_,_,_,λ i=>(bs[i]?).getD false,rfl,Walks.list (A:=X.A.in1) (show X.A.in1.handled=none from I.ok.hd hc) s.heap.objs.size p eZ ax.toArray,⟨⟨_,m8 _ rfl,rfl,rfl⟩,pl.isList.at λ o e=>j4 _ e⟩,?_,λ h' tk hk=>?_⟩
 ·intro i v s' Q' E' hP hQ;have W3:ax[i]?=some v:=by simpa using hP
  have hi:i < bs.length:=by rw[<- hlen];exact(g9.mp W3).1
  have hb:(bs.map V.bl)[i]?=some (V.bl bs[i]):=by simp[hi]
  obtain⟨u,hu,ru⟩:=rv.get hb;rw[W3]at hu;cases hu;have e:v=Value.bool bs[i]:=ru;subst e;have:(bs[i]?).getD false=bs[i]:=by simp[hi]
  dsimp only at hQ;rw[this]at hQ;exact wpAny_truthy_bool hQ
 ·refine⟨.bl (bs.all id),H,I.kept (t':=tk) λ b o e=>hk b o (by simpa using D4 (D5 e)) (j4 _ e),?_,q⟩;show Value.bool _=Value.bool _;congr 1;rw[x5,hlen];rw[A3];simp only[A2,mem_range,id];constructor
  ·intro h b hb;obtain⟨i,hi,rfl⟩:=mem_iff_getElem.mp hb;have:=h i hi;simpa[hi]using this
  ·intro h i hi;simpa[hi]using h bs[i] (y9 hi)
end
def Pz(x:Str):It:=⟨λ i _=>i < x.cps.size,λ i H v H'=>H'=H/\∃c,x.cps[i]?=some c/\v=.str ⟨#[c]⟩,λ i _=>i=x.cps.size⟩
theorem sZ{P:Program}{w:World}{K:J8}{tg:Expr}(it:Addr)(x:Str)(t:Tok)(ty:String)(hty:["enumerate","zip","dict_itemiterator","dict_reverseitemiterator","odict_iterator","itertools.zip_longest","itertools.pairwise"].contains ty=false) (W:∀A':Around,A'.handled=none->Walks P w A' it [it] [it] x.cps.size (SignAt x) (λ i h=>h.IsStrIter it ty x t i)) (self:∀(A:Around) (i:Nat) (s:Shared) (Q:Value->Shared->Prop) (E:Value->Shared->Prop),s.heap.IsStrIter it ty x t i->Q (.ref it) s->wpAny (model P w) A (pyIter (.ref it)) Q E s):Turn P w K tg (Pz x) [it] it (λ i h=>h.IsStrIter it ty x t i) where
 mem:=by simp
 obj:=λ i h st b hb=>by
  have e:b=it:=by simpa using hb
  subst e;obtain⟨o,e,c,d⟩:=st;exact⟨o,e,λ v z=>by rw[d]at z;cases z⟩
 keep:=λ i h h' st k=>by obtain⟨o,e,c,d⟩:=st;exact⟨o,k it (by simp) o e,c,d⟩
 item:=by intro X hP hw hK hc i pins s σ H E I hf st hg;subst hP hw hK;obtain⟨f0,f1,f2,f3,f4,f5⟩:=hf it (by simp);refine(W X.A (I.ok.hd hc)).item i s _ _ hg st λ v h' tk hv jj kk=>?_;obtain⟨c,u,hx,rfl⟩:=hv;have I1:Inv X pins σ H {s with heap:=h',toks:=tk}:=I.turned (λ b o hb e=>kk b o (by simpa using hb) e) f0 f1 f3 f4 f5;obtain⟨o,e,cc,d⟩:=id jj;exact⟨_,rfl,uF (s:={s with heap:=h',toks:=tk}) e cc d hty ⟨.str ⟨#[c]⟩,H,I1,⟨u,rfl⟩,⟨rfl,c,hx,rfl⟩,jj,λ b hb=>(hf b hb).1⟩⟩
 done:=by intro X hP hw hK hc i pins s σ H E I hf st hg;subst hP hw hK;obtain⟨f0,f1,f2,f3,f4,f5⟩:=hf it (by simp);have hg:i=x.cps.size:=hg;subst hg;exact(W X.A (I.ok.hd hc)).done s _ _ st λ h' tk kk=>⟨rfl,I.turned (λ b o hb e=>kk b o (by simpa using hb) e) f0 f1 f3 f4 f5⟩
 self:=self
end L2
namespace L2
open PySem PySem.Spec PyProof.Rows
section
variable {X:Cx}
theorem xw.imp {r r':R2}(h:xw X r)(k:∀x y H Q,r' x y H Q->r x y H Q):xw X r':=λ value slice pins s σ H x y v u Q I rx ry q=>h value slice pins s σ H x y v u Q I rx ry (k x y H Q q)
theorem zI.imp {r r':V->Option Int->Option Int->Hp->VK->Prop}(h:zI X r)(k:∀x lo hi H Q,r' x lo hi H Q->r x lo hi H Q):zI X r':=
 λ pins s σ H x v vl vu lo hi sl Q I rx hs pl pu q=>h pins s σ H x v vl vu lo hi sl Q I rx hs pl pu (k x lo hi H Q q)
def Z6(K:J8):R2:=λ x y H Q=>match x,y with
 | .ref p,.int i=>∃xs v,(eW K H p xs\/fJ K H p xs)/\gr xs i=some v/\Q v H
 | .str z,.int i=>z.length<=sizeLine/\∃c,gr z.cps.toList i=some c/\Q (.str ⟨#[c]⟩) H
 |_,_=>False
theorem aI:xw X (Z6 X.K):=Oa.imp λ x y H Q q=>by
 cases x <;> cases y <;> first
  |exact False.elim q
  |(obtain⟨xs,v,h|h,e,q⟩:=q
    ·exact .inl ⟨_,xs,_,v,rfl,rfl,h,e,q⟩
    ·exact .inr (.inl ⟨_,xs,_,v,rfl,rfl,h,e,q⟩))
  |(obtain⟨hz,c,e,q⟩:=q
    exact .inr (.inr ⟨_,_,c,rfl,rfl,hz,e,q⟩))
def Z5(K:J8):V->Option Int->Option Int->Hp->VK->Prop:=λ x lo hi H Q=>match x with
 | .str z=>z.length<=sizeLine/\Q (.str (xg z lo hi)) H
 | .ref a=>Qk K (.ref a) lo hi H Q\/Qj K (.ref a) lo hi H Q
 |_=>False
theorem fR:zI X (Z5 X.K):=(LO.or (Hj.or LN)).imp λ x lo hi H Q q=>by cases x <;> first|exact False.elim q|exact .inl ⟨_,rfl,q⟩|exact .inr q
end
end L2
namespace L2
open PySem PySem.Spec PyProof.Rows
structure bT(P:Program)(w:World)(K:J8)(mg:Str->Option Value)(base:Heap)(k:Nat)(x:Str)(ps:List Str)(sp:Sp):Prop where
 ex:∃(f:Addr) (fd:FuncData),cw P w K mg base fA k f fd ps sp/\mg x=some (.ref f)/\PySem.W.keepIn K (.ref f)=true/\Binds K fd ps []
theorem bT.of {P:Program}{w:World}{K:J8}{mg:Str->Option Value}{base:Heap}{k:Nat}{x qual:Str}{ps:List Str}{sp:Sp}{st:Stmt}{f:Addr}{fd:FuncData}(F:jk K x qual st f fd)(G:cw P w K mg base fA k f fd ps sp)(hm:mg x=some (.ref f))(b:Binds K fd ps []):bT P w K mg base k x ps sp:=⟨f,fd,G,hm,F.kp,b⟩
def tD(sp:Sp)(t:TA):TE:=λ σ H Q=>t σ H λ vs H1=>sp vs H1 Q E0
section
variable {X:Cx}{x:Str}{p pos:Pos}{e:Expr}{es:List Expr}{t:TA}{k j:Nat}{ps:List Str}{sp:Sp}
theorem Nm(d:bT X.prog X.w X.K X.mg X.base k x ps sp)(hr:cM k X.A)(hg:Gl X x)(ha:PA X (e::es) t)(hdb:(x==("__debug__":Str))=false:=by decide)(he:starEach (e::es) X.env=(false,eval e X.env)::starEach es X.env:=by rfl) (hpl:(backTo pos (starEach es X.env)).any (·.1)=false:=by rfl):PE X (.Call (.Name x p) (e::es) [] pos) (tD sp t):=by
 obtain⟨f,fd,G,hm,kp,b⟩:=d.ex;intro pins s σ H Q I h;have h':KA sp [] E0 t σ H Q:=by
  show t σ H λ vs H1=>sp (vs++[]) H1 Q E0;have e:(λ(vs:List V) (H1:Hp)=>sp (vs++[]) H1 Q E0)=λ vs H1=>sp vs H1 Q E0:=by funext vs H1;rw[A4]
  rw[e];exact h
 exact IM (E:=E0) G hr hg hm kp b .nil QZ ha hdb he hpl pins s σ H Q I h'
end
def vd(X:Cx)(scope:Scope)(fr:List Nat):Bool:=
 (scope.kind==.function)&&(scope.names.all λ y=>(y.2 != .cell||scope.names.lookup y.1==some .cell)&&(y.2 != .local||scope.names.lookup y.1==some .local)&&(y.2 != .free||X.env.kindOf y.1==some .cell||X.env.kindOf y.1==some .free))&&
 (fr.all λ j=>decide (j < X.N.length)&&scope.names.lookup (X.N.getD j "")==some .free)
theorem cp{X:Cx}{scope:Scope}{fr:List Nat}(h:vd X scope fr=true):kg X scope fr:=by
 unfold vd at h;rw[y7,y7]at h;obtain⟨⟨h1,h2⟩,h3⟩:=h;rw[A2]at h2 h3;refine⟨by simpa using h1,λ y hy hl=>?_,λ y hy hl=>?_,λ n hn=>?_,λ j hj=>?_⟩
 ·have:=h2 y hy;simp only[y7]at this;have:=this.1.1;rw[hl]at this;simpa using this
 ·have:=h2 y hy;simp only[y7]at this;have:=this.1.2;rw[hl]at this;simpa using this
 ·have:=h2 _ hn;simp only[y7]at this;have:=this.2;simpa using this
 ·have:=h3 j hj;rw[y7]at this;exact⟨by simpa using this.1,by simpa using this.2⟩
section
variable {X:Cx}{tg:Expr}
def UU(K:J8)(tl:TE):TI:=λ σ H R=>tl σ H λ x H1=>match x with
 | .str z=>R (Pz z) H1
 | .ref a=>(∃xs,eW K H1 a xs/\R (TF K a) H1)\/(∃xs,fJ K H1 a xs/\R (V4 K a) H1)
 |_=>False
theorem Nc{l:Expr}{tl:TE}(hl:PE X l tl):PI X tg l (UU X.K tl):=by
 intro pins s σ H R I h;have vw:PE X l (λ σ' H' Q=>Q=Q/\tl σ' H' Q):=λ pins s σ H Q I q=>hl pins s σ H Q I q.2;refine cT (hl pins s σ H _ I h) λ v s1 ⟨x,H1,I1,r1,q1⟩=>?_;have fp:∀b∈[s1.heap.objs.size],ke X pins H1 b:=λ b hb=>by
  have e:b=s1.heap.objs.size:=by simpa using hb
  subst e;exact I1.kR (G5 _) (I1.bh.fresh (G5 _))
 cases x with
 |str z=>
  have q:R (Pz z) H1:=q1;obtain⟨t,rfl⟩:=r1;cases ha:z.cps.all (· < 128)
  ·exact wpAny_pyIter_wide ha ⟨s1.heap.objs.size,[s1.heap.objs.size],_,Pz z,H1,rfl,I1.kept (t':=s1.toks) λ b o e=>j4 _ e,sZ _ z t "str_iterator" (by decide) (λ A' hA=>Walks.strWide hA _ z t) (λ _ _ _ _ _ st h=>wpAny_pyIter_striter_wide st h),⟨_,m8 _ rfl,rfl,rfl⟩,fp,q⟩
  ·exact wpAny_pyIter_ascii ha ⟨s1.heap.objs.size,[s1.heap.objs.size],_,Pz z,H1,rfl,I1.kept (t':=s1.toks) λ b o e=>j4 _ e,sZ _ z t "str_ascii_iterator" (by decide) (λ A' hA=>Walks.strAscii hA _ z t) (λ _ _ _ _ _ st h=>wpAny_pyIter_striter_ascii st h),⟨_,m8 _ rfl,rfl,rfl⟩,fp,q⟩
 |ref a=>
  cases(show v=Value.ref a from r1);rcases q1 with⟨xs,hq,q⟩|⟨xs,hq,q⟩
  ·obtain⟨ax,rv,p,hz⟩:=I1.list hq;exact wpAny_pyIter_list p.isList ⟨s1.heap.objs.size,[s1.heap.objs.size],_,_,H1,rfl,I1.kept (t':=s1.toks) λ b o e=>j4 _ e,Ab a _,⟨_,m8 _ rfl,rfl,rfl⟩,fp,q⟩
  ·obtain⟨ax,rv,p,hz⟩:=I1.tuple hq;exact wpAny_pyIter_tuple (show s1.heap.IsTuple a ax.toArray from p) ⟨s1.heap.objs.size,[s1.heap.objs.size],_,_,H1,rfl,I1.kept (t':=s1.toks) λ b o e=>j4 _ e,vK a _,⟨_,m8 _ rfl,rfl,rfl⟩,fp,q⟩
 |_=>exact False.elim q1
end
end L2
namespace L2
open PySem PySem.Spec PyProof.Rows
inductive IK where
 |i (n:Int)
 |t (ks:List IK)
noncomputable instance:DecidableEq IK:=λ a b=>Classical.propDecidable (a=b)
mutual
def IK.dep:IK->Nat
 | .i _=>0
 | .t ks=>IK.ja ks+1
def IK.ja:List IK->Nat
 |[]=>0
 |k::ks=>max k.dep (IK.ja ks)
end
mutual
def d_:IK->Int
 | .i n=>hashInt n
 | .t ks=>reduceHash (Builtin.Tuple.tupleHashOf (rO ks))
def rO:List IK->List Int
 |[]=>[]
 |k::ks=>d_ k::rO ks
end
mutual
def Be:IK->Nat
 | .i _=>1
 | .t ks=>gR ks+1
def gR:List IK->Nat
 |[]=>0
 |k::ks=>Be k+gR ks
end
def b2i(b:Bool):Int:=if b then 1 else 0
mutual
def ck(h:Heap):IK->Value->Prop
 | .i n,v=>(∃t,v=.int n t)\/∃b:Bool,v=.bool b/\n=b2i b
 | .t ks,v=>∃(a:Addr) (o:Obj) (ax:List Value) (n:Nat),v=.ref a/\h.get? a=some o/\o.cls=.type "tuple"/\o.data=.seq ax.toArray n/\bC h ks ax
def bC(h:Heap):List IK->List Value->Prop
 |[],vs=>vs=[]
 |k::ks,vs=>∃v r,vs=v::r/\ck h k v/\bC h ks r
end
mutual
def vp:IK->PyData->Prop
 | .i n,d=>d=.int n\/∃b:Bool,d=.bool b/\n=b2i b
 | .t ks,d=>∃ds,d=.tuple ds/\gQ ks ds
def gQ:List IK->List PyData->Prop
 |[],ds=>ds=[]
 |k::ks,ds=>∃d r,ds=d::r/\vp k d/\gQ ks r
end
theorem uA:∀ks:List IK,rO ks=ks.map d_
 |[]=>by unfold rO;rfl
 |k::ks=>by unfold rO;rw[uA ks];rfl
theorem ux:∀(ks ls:List IK),gR (ks++ls)=gR ks+gR ls
 |[],ls=>by rw[A5];unfold gR;split <;> omega
 |k::ks,ls=>by rw[A1];have:=ux ks ls;show Be k+gR (ks++ls)=Be k+gR ks+gR ls;omega
theorem ER(k:IK):gR [k]=Be k:=by show Be k+gR []=Be k;unfold gR;omega
theorem ES:gR []=0:=by unfold gR;rfl
theorem fI:∀{ks:List IK} {k:IK},k∈ks->k.dep<=IK.ja ks
 |k0::ks,k,h=>by
  show k.dep<=max k0.dep (IK.ja ks);rcases D1.mp h with rfl|h
  ·exact Nat.le_max_left _ _
  ·exact D8 (fI h) (Nat.le_max_right _ _)
section
variable {prog:Program}{w:World}
theorem qr{A:Around}{E:Value->Shared->Prop}{s:Shared}{b:Bool}{Q:Int->Shared->Prop}(h:Q (hashInt (b2i b)) {s with toks:=s.toks+1}):wpAny (model prog w) A (pyHash (.bool b)) Q E s:=by have hT:s.TypeIs (.bool b) "bool":=rfl;have hr:=rawHash_range (b2i b);unfold pyHash;have hv:[Value.bool b].any Value.onHeap=false:=rfl;refine G9 ?_;rw[cRoomFor,J7 (by rw[hv];exact n9)];refine H9 ?_;refine G9 (B9 hT F.slot_bool_hash.lookup ?_);show wpAny _ _ (if(some (Value.builtin "int.__hash__")==some Value.none)=true then _ else _) Q E s;rw[J7 (by rw[beq_builtin_none];exact n9)];refine G9 (B9 hT F.slot_bool_hash.lookup ?_);show wpAny _ _ (callSpecialIfBoundUnlessNone? (.bool b) "__hash__" _ >>= _) Q E s;refine G9 (wpAny_callSpecialIfBoundUnlessNone?_slot hT F.slot_bool_hash (y6 F.slot_bool_hash hT entry_int_hash (show wpAny _ _ (do ret (<- mkInt (rawHash (b2i b)))) _ _ s from wpAny_ret_mkInt ?_) (args_int_hash _)));show wpAny _ _ (if(decide (-(2:Int)^63<=rawHash (b2i b))&&decide (rawHash (b2i b) < 2^63))=true then _ else _) Q E _;rw[J6 (by rw[C0 hr.1,C0 hr.2];rfl)];exact H9 h
theorem yP:∀(n:Nat) (k:IK),k.dep<=n->∀{A:Around} {E:Value->Shared->Prop} {s:Shared} {v:Value} {Q:Int->Shared->Prop},A.units+k.dep < cLine->ck s.heap k v->Q (d_ k) {s with toks:=s.toks+Be k}->wpAny (model prog w) A (pyHash v) Q E s:=by
 intro n
 induction n with
 |zero=>
  intro k hk A E s v Q hu hi h;cases k with
  |i m=>
   unfold ck at hi;unfold d_ Be at h;rcases hi with⟨t,rfl⟩|⟨b,rfl,rfl⟩
   ·exact wpAny_pyHash_int h
   ·exact qr h
  |t ks=>unfold IK.dep at hk;omega
 |succ n ih=>
  intro k hk A E s v Q hu hi h;cases k with
  |i m=>
   unfold ck at hi;unfold d_ Be at h;rcases hi with⟨t,rfl⟩|⟨b,rfl,rfl⟩
   ·exact wpAny_pyHash_int h
   ·exact qr h
  |t ks=>
   unfold ck at hi;obtain⟨a,o,ax,m,rfl,ho,hc,hd,hits⟩:=hi;have gn:IK.ja ks<=n:=by unfold IK.dep at hk;omega
   have hu1:A.units+(IK.ja ks+1) < cLine:=by unfold IK.dep at hu;exact hu
   have hT:s.TypeIs (.ref a) "tuple":=⟨o,ho,hc⟩;unfold pyHash;(first|unfold pyHashByItsType|skip);(first|refine G9 (wpAny_cRoomFor_or (.inr (show A.units < cLine by omega)) ?_)|skip);refine G9 (B9 hT F.slot_tuple_hash.lookup ?_);show wpAny _ _ (if(some (Value.builtin "tuple.__hash__")==some Value.none)=true then _ else _) Q E s;rw[J7 (by rw[beq_builtin_none];exact n9)];refine G9 (B9 hT F.slot_tuple_hash.lookup ?_);show wpAny _ _ (callSpecialIfBoundUnlessNone? (.ref a) "__hash__" _ >>= _) Q E s;refine G9 (wpAny_callSpecialIfBoundUnlessNone?_slot hT F.slot_tuple_hash (y6 F.slot_tuple_hash hT F.entry_tuple_hash ?_ (F.args_tuple_hash_1 _)));show wpAny _ _ (Builtin.Tuple.tupleItemsOf (.ref a) >>= _) _ _ s;refine G9 (wpAny_tupleItemsOf ho hd (G9 ?_));rw[<- q9];refine wpAny_forIn_list _ (λ rest (b:Array Int) s'=>∃done left,ks=done++left/\bC s.heap left rest/\b.toList=done.map d_/\s'={s with toks:=s.toks+gR done}) _ ?_ ?_ _ _ ⟨[],ks,rfl,hits,rfl,by rw[ES];rfl⟩
   ·rintro x rest b s' ⟨done,left,rfl,hl,hb,rfl⟩;cases left with
    |nil=>unfold bC at hl;cases hl
    |cons k1 left=>
     unfold bC at hl;obtain⟨v,r,e,h1,h2⟩:=hl;cases e;have hm:=fI (ks:=done++k1::left) (k:=k1) (by simp);refine G9 (ih k1 (by omega) (A:=A.in1) (show A.units+1+_ < cLine by omega) h1 ?_);have fin:∃d2 l2,done++k1::left=d2++l2/\bC s.heap l2 rest/\(b.push (d_ k1)).toList=d2.map d_/\({s with toks:=s.toks+gR done+Be k1}:Shared)={s with toks:=s.toks+gR d2}:=
      ⟨done++[k1],left,by simp,h2,by simp[hb],by rw[ux,ER,Nat.add_assoc]⟩
     first|exact H9 fin|exact G9 (H9 (H9 fin))
   ·rintro b s' ⟨done,left,rfl,hl,hb,rfl⟩;cases left with
    |cons k1 left=>unfold bC at hl;obtain⟨v,r,e,_⟩:=hl;cases e
    |nil=>
     rw[A4]at h;show wpAny _ _ (retInt (Builtin.Tuple.tupleHashOf b.toList)) _ _ _;rw[hb,<- uA];refine wpAny_ret_mkInt ?_;show wpAny _ _ (if(decide (-(2:Int)^63<=Builtin.Tuple.tupleHashOf (rO done))&&decide (Builtin.Tuple.tupleHashOf (rO done) < 2^63))=true then _ else _) Q E _;unfold d_ Be reduceHash at h;by_cases hr:(decide (-(2:Int)^63<=Builtin.Tuple.tupleHashOf (rO done))&&decide (Builtin.Tuple.tupleHashOf (rO done) < 2^63))=true
     ·rw[J6 hr]at h ⊢;exact H9 (by simpa[Nat.add_assoc]using h)
     ·rw[J7 hr]at h ⊢;exact G9 (wpAny_rule (H9 (by simpa[Nat.add_assoc]using h)))
end
end L2
namespace L2
open PySem PySem.Spec PyProof.Rows
mutual
theorem nU{h:Heap}:∀(k:IK) {v:Value},ck h k v->∃d as,vp k d/\Reads h v d as
 | .i n,v,x=>by
  unfold ck at x;unfold vp;rcases x with⟨t,rfl⟩|⟨b,rfl,rfl⟩
  ·exact⟨_,_,.inl rfl,Reads.int n t⟩
  ·exact⟨_,_,.inr ⟨b,rfl,rfl⟩,Reads.bool b⟩
 | .t ks,v,x=>by unfold ck at x;obtain⟨a,o,ax,n,rfl,ho,hc,hd,q⟩:=x;obtain⟨ds,as,p,r⟩:=ql ks q;unfold vp;exact⟨_,_,⟨ds,rfl,p⟩,reads_tuple_at ho hc hd (by simpa using r)⟩
theorem ql{h:Heap}:∀(ks:List IK) {vs:List Value},bC h ks vs->∃ds as,gQ ks ds/\ReadsAll h vs ds as
 |[],vs,x=>by unfold bC at x;subst x;unfold gQ;exact⟨_,_,rfl,ReadsAll.nil⟩
 |k::ks,vs,x=>by unfold bC at x;obtain⟨v,r,rfl,h1,h2⟩:=x;obtain⟨d,as,p,a⟩:=nU k h1;obtain⟨ds,bs,q,b⟩:=ql ks h2;unfold gQ;exact⟨_,_,⟨d,ds,rfl,p,q⟩,ReadsAll.cons a b⟩
end
mutual
theorem wI:∀(k:IK) {d:PyData},vp k d->d.canLay0=true
 | .i n,d,x=>by unfold vp at x;rcases x with rfl|⟨b,rfl,_⟩ <;> simp[PyData.canLay0]
 | .t ks,d,x=>by unfold vp at x;obtain⟨ds,rfl,q⟩:=x;simp only[PyData.canLay0];exact yK ks q
theorem yK:∀(ks:List IK) {ds:List PyData},gQ ks ds->PyData.canLayAll0 ds=true
 |[],ds,x=>by unfold gQ at x;subst x;simp[PyData.canLayAll0]
 |k::ks,ds,x=>by unfold gQ at x;obtain⟨d,r,rfl,p,q⟩:=x;simp only[PyData.canLayAll0];rw[wI k p,yK ks q];rfl
end
mutual
theorem wJ:∀(k:IK) {d:PyData},vp k d->d.depth=k.dep
 | .i n,d,x=>by unfold vp at x;unfold IK.dep;rcases x with rfl|⟨b,rfl,_⟩ <;> simp[PyData.depth]
 | .t ks,d,x=>by unfold vp at x;obtain⟨ds,rfl,q⟩:=x;unfold IK.dep;simp only[PyData.depth];rw[yL ks q]
theorem yL:∀(ks:List IK) {ds:List PyData},gQ ks ds->PyData.depthAll ds=IK.ja ks
 |[],ds,x=>by unfold gQ at x;subst x;unfold IK.ja;simp[PyData.depthAll]
 |k::ks,ds,x=>by unfold gQ at x;obtain⟨d,r,rfl,p,q⟩:=x;unfold IK.ja;simp only[PyData.depthAll];rw[wJ k p,yL ks q]
end
theorem Jt{n m:Int}{d e:PyData}(x:d=.int n\/∃b:Bool,d=.bool b/\n=b2i b)(y:e=.int m\/∃b:Bool,e=.bool b/\m=b2i b):PyData.eqv d e=true↔n=m:=by
 rcases x with rfl|⟨b,rfl,rfl⟩ <;> rcases y with rfl|⟨c,rfl,rfl⟩
 ·simp[PyData.eqv]
 ·simp[PyData.eqv,b2i]
 ·simp[PyData.eqv,b2i]
 ·cases b <;> cases c <;> simp[PyData.eqv,b2i]
mutual
theorem K1:∀(a b:IK) {d e:PyData},vp a d->vp b e->(PyData.eqv d e=true↔a=b)
 | .i n,.i m,d,e,x,y=>by unfold vp at x y;rw[Jt x y];simp
 | .i n,.t ks,d,e,x,y=>by unfold vp at x y;obtain⟨ds,rfl,_⟩:=y;rcases x with rfl|⟨b,rfl,_⟩ <;> simp[PyData.eqv]
 | .t ks,.i n,d,e,x,y=>by unfold vp at x y;obtain⟨ds,rfl,_⟩:=x;rcases y with rfl|⟨b,rfl,_⟩ <;> simp[PyData.eqv]
 | .t ks,.t ls,d,e,x,y=>by unfold vp at x y;obtain⟨ds,rfl,p⟩:=x;obtain⟨es,rfl,q⟩:=y;simp only[PyData.eqv,IK.t.injEq];exact EL ks ls p q
theorem EL:∀(as bs:List IK) {ds es:List PyData},gQ as ds->gQ bs es->(PyData.eqvAll ds es=true↔as=bs)
 |[],[],ds,es,x,y=>by unfold gQ at x y;subst x;subst y;simp[PyData.eqvAll]
 |[],b::bs,ds,es,x,y=>by unfold gQ at x y;obtain⟨d,r,rfl,_⟩:=y;subst x;simp[PyData.eqvAll]
 |a::as,[],ds,es,x,y=>by unfold gQ at x y;obtain⟨d,r,rfl,_⟩:=x;subst y;simp[PyData.eqvAll]
 |a::as,b::bs,ds,es,x,y=>by unfold gQ at x y;obtain⟨d,r,rfl,p1,p2⟩:=x;obtain⟨e,r2,rfl,q1,q2⟩:=y;simp only[PyData.eqvAll,y7,List.cons.injEq];rw[K1 a b p1 q1,EL as bs p2 q2]
end
mutual
theorem rN{h:Heap}:∀(x y:IK) {v:Value},ck h x v->ck h y v->x=y
 | .i n,.i m,v,a,b=>by
  unfold ck at a b;rcases a with⟨t,rfl⟩|⟨c,rfl,rfl⟩ <;> rcases b with⟨u,e⟩|⟨d,e,f⟩ <;> cases e
  ·rfl
  ·rw[f]
 | .i n,.t ks,v,a,b=>by unfold ck at a b;obtain⟨_,_,_,_,e,_⟩:=b;rcases a with⟨t,rfl⟩|⟨c,rfl,rfl⟩ <;> cases e
 | .t ks,.i n,v,a,b=>by unfold ck at a b;obtain⟨_,_,_,_,e,_⟩:=a;rcases b with⟨t,rfl⟩|⟨c,rfl,rfl⟩ <;> cases e
 | .t ks,.t ls,v,a,b=>by unfold ck at a b;obtain⟨a1,o1,i1,n1,rfl,g1,_,d1,q1⟩:=a;obtain⟨a2,o2,i2,n2,e,g2,_,d2,q2⟩:=b;cases e;rw[g1]at g2;cases g2;rw[d1]at d2;cases d2;rw[yM ks ls q1 q2]
theorem yM{h:Heap}:∀(xs ys:List IK) {vs:List Value},bC h xs vs->bC h ys vs->xs=ys
 |[],[],vs,_,_=>rfl
 |[],y::ys,vs,a,b=>by unfold bC at a b;subst a;obtain⟨_,_,e,_⟩:=b;cases e
 |x::xs,[],vs,a,b=>by unfold bC at a b;subst b;obtain⟨_,_,e,_⟩:=a;cases e
 |x::xs,y::ys,vs,a,b=>by unfold bC at a b;obtain⟨v,r,rfl,a1,a2⟩:=a;obtain⟨v2,r2,e,b1,b2⟩:=b;cases e;rw[rN x y a1 b1,yM xs ys a2 b2]
end
mutual
theorem yO{h h':Heap}(q:∀b o,o.cls=.type "tuple"->h.get? b=some o->h'.get? b=some o):∀(k:IK) {v:Value},ck h k v->ck h' k v
 | .i n,v,x=>by unfold ck at x ⊢;exact x
 | .t ks,v,x=>by unfold ck at x ⊢;obtain⟨a,o,ax,n,e,ho,hc,hd,r⟩:=x;exact⟨a,o,ax,n,e,q a o hc ho,hc,hd,uw q ks r⟩
theorem uw{h h':Heap}(q:∀b o,o.cls=.type "tuple"->h.get? b=some o->h'.get? b=some o):∀(ks:List IK) {vs:List Value},bC h ks vs->bC h' ks vs
 |[],vs,x=>by unfold bC at x ⊢;exact x
 |k::ks,vs,x=>by unfold bC at x ⊢;obtain⟨v,r,e,h1,h2⟩:=x;exact⟨v,r,e,yO q k h1,uw q ks h2⟩
end
theorem Od{h:Heap}{k:IK}{v:Value}(x:ck h k v){d:Addr}{o:Obj}{es:Array DictEntry}{ep:Nat}(ho:h.get? d=some o)(hd:o.data=.dict es ep){h':Heap}(hs:Heap.SameBut d h h'):ck h' k v:=by
 have gen:∀(n:Nat) (k:IK),k.dep<=n->∀v,ck h k v->ck h' k v:=by
  intro n
  induction n with
  |zero=>
   intro k hk v x;cases k with
   |i m=>unfold ck at x ⊢;exact x
   |t ks=>unfold IK.dep at hk;omega
  |succ n ih=>
   intro k hk v x;cases k with
   |i m=>unfold ck at x ⊢;exact x
   |t ks=>
    unfold ck at x ⊢;obtain⟨a,o',ax,m,e,Bh,hc,oO,r⟩:=x;have eZ:a≠d:=λ z=>by subst z;rw[ho]at Bh;cases Bh;rw[hd]at oO;cases oO
    refine⟨a,o',ax,m,e,(hs.2 a eZ).trans Bh,hc,oO,?_⟩;have gn:IK.ja ks<=n:=by unfold IK.dep at hk;omega
    have all:∀(ls:List IK) (vs:List Value),(∀l∈ls,l.dep<=n)->bC h ls vs->bC h' ls vs:=by
     intro ls
     induction ls with
     |nil=>intro vs _ y;unfold bC at y ⊢;exact y
     |cons l ls Yc=>intro vs hl y;unfold bC at y ⊢;obtain⟨v,r,e,h1,h2⟩:=y;exact⟨v,r,e,ih l (hl l (n6 ..)) v h1,Yc r (λ z hz=>hl z (k8 _ hz)) h2⟩
    exact all ks ax (λ l hl=>D8 (fI hl) gn) r
 exact gen k.dep k (G5 _) v x
section
variable {prog:Program}{w:World}
theorem EO:∀(n:Nat) (k:IK),k.dep<=n->∀{A:Around} {E:Value->Shared->Prop} {s:Shared} {v:Value} {Q:Bool->Shared->Prop},ck s.heap k v->Q true s->wpAny (model prog w) A (eqIsQuiet n v) Q E s:=by
 intro n
 induction n with
 |zero=>
  intro k hk A E s v Q hi h;cases k with
  |i m=>unfold ck at hi;rcases hi with⟨t,rfl⟩|⟨b,rfl,_⟩ <;> rw[eqIsQuiet_byValue _ rfl] <;> exact H9 h
  |t ks=>unfold IK.dep at hk;omega
 |succ n ih=>
  intro k hk A E s v Q hi h;cases k with
  |i m=>unfold ck at hi;rcases hi with⟨t,rfl⟩|⟨b,rfl,_⟩ <;> rw[eqIsQuiet_byValue _ rfl] <;> exact H9 h
  |t ks=>
   unfold ck at hi;obtain⟨a,o,ax,m,rfl,ho,hc,hd,hits⟩:=hi;have gn:IK.ja ks<=n:=by unfold IK.dep at hk;omega
   have hT:s.TypeIs (.ref a) "tuple":=⟨o,ho,hc⟩;unfold eqIsQuiet;refine G9 (B9 hT F.slot_tuple_eq.lookup ?_);show wpAny _ _ (isInstance (.ref a) (.type "tuple") >>= _) _ _ s;refine G9 (A0 hT isSubtype_tuple_tuple ?_);simp only[Bool.not_true,o7,J3];refine G9 (C3 ho hd (G9 ?_));show wpAny _ _ (forIn ax.toArray _ _) _ _ s;rw[<- q9];refine wpAny_forIn_list _ (λ rest r s'=>r.1=none/\s'=s/\∃left,(∀l∈left,l∈ks)/\bC s.heap left rest) _ ?_ ?_ _ _ ⟨rfl,rfl,ks,λ l hl=>hl,hits⟩
   ·rintro x rest r s' ⟨hr,rfl,left,o_,hl⟩;cases left with
    |nil=>unfold bC at hl;cases hl
    |cons k1 left=>unfold bC at hl;obtain⟨v,r',e,h1,h2⟩:=hl;cases e;refine G9 (ih k1 (D8 (fI (o_ k1 (n6 ..))) gn) h1 ?_);simp only[Bool.not_true,o7,J3];exact H9 ⟨rfl,rfl,left,λ l hl=>o_ l (k8 _ hl),h2⟩
   ·rintro⟨r1,r2⟩ s' ⟨hr,rfl,_⟩;simp only at hr;subst hr;exact H9 h
def aQ(prog:Program)(w:World):HeapKind prog w IK where
 is:=λ h k a=>k.dep<=5/\ck h k (.ref a)
 hash:=d_
 draws:=Be
 room:=λ A=>A.units+8 < cLine
 inj:=λ hx hy=>rN _ _ hx.2 hy.2
 keeps:=λ x ho hd hs=>⟨x.1,Od x.2 ho hd hs⟩
 pyHash:=λ hu hk h=>yP 5 _ hk.1 (by have:=hk.1;omega) hk.2 h
 eqBool:=λ{A E s x y a b Q} hu hx hy h=>by
  obtain⟨dx,as,px,ra⟩:=nU x hx.2;obtain⟨dy,bs,py,rb⟩:=nU y hy.2;refine SeqAt.eqAt_reads dx dy A s _ _ _ _ ra rb (wI x px) (wI y py) ?_ prog w E Q ?_
  ·rw[wJ x px,wJ y py];have:=hx.1;have:=Nat.min_le_left x.dep y.dep;omega
  ·have e:PyData.eqv dx dy=decide (x=y):=by rw[A3,u6];exact K1 x y px py
   rw[e];exact h
 quiet:=λ hk h=>EO 8 _ (D8 hk.1 (by decide)) hk.2 h
end
end L2
namespace L2
open PySem PySem.Spec PyProof.Rows
section
variable {κ:Type}[DecidableEq κ]
def iQ(kvs:List (κ×V))(k:κ):Option V:=(kvs.find? λ kv=>decide (kv.1=k)).map (·.2)
def putK(kvs:List (κ×V))(k:κ)(v:V):List (κ×V):=
 if(kvs.any λ kv=>decide (kv.1=k))=true then kvs.map (λ kv=>if kv.1=k then(kv.1,v)else kv)else kvs++[(k,v)]
theorem mO{p:κ×V}{r:List (κ×V)}{k:κ}(e:p.1=k):iQ (p::r) k=some p.2:=by simp[iQ,A6,e]
theorem mP{p:κ×V}{r:List (κ×V)}{k:κ}(e:¬p.1=k):iQ (p::r) k=iQ r k:=by simp[iQ,A6,e]
theorem mQ(k:κ):∀kvs:List (κ×V),(kvs.any λ kv=>decide (kv.1=k))=(iQ kvs k).isSome
 |[]=>rfl
 |p::r=>by
  rw[any_cons];by_cases e:p.1=k
  ·simp only[mO e,C0 e,Bool.true_or,Option.isSome_some]
  ·rw[mP e,A7 e,Bool.false_or];exact mQ k r
theorem gN(kvs:List (κ×V))(k:κ)(v:V):(putK kvs k v).length<=kvs.length+1:=by
 unfold putK;split
 ·rw[B4];omega
 ·rw[o6,y3,length_nil];omega
theorem jZ.eN {o:Option V}{u:Option Value}(r:jZ o u):o.isSome=u.isSome:=by
 cases o with
 |none=>cases u with
  |none=>rfl
  |some _=>exact(show False from r).elim
 |some _=>cases u with
  |none=>exact(show False from r).elim
  |some _=>rfl
theorem KV.val {kvs:List (κ×V)}{vs:List (κ×Value)}(r:KV kvs vs)(k:κ):jZ (iQ kvs k) (valueAt vs k):=by
 unfold KV at r
 induction r with
 |nil=>exact True.intro
 |@cons p q ps qs h t ih=>
  obtain⟨h1,h2⟩:=h;by_cases e:p.1=k
  ·have e':q.1=k:=h1.symm.trans e;have b:valueAt (q::qs) k=some q.2:=by simp[valueAt,A6,e']
   rw[mO e,b];exact h2
  ·have e':¬q.1=k:=λ z=>e (h1.trans z);have b:valueAt (q::qs) k=valueAt qs k:=by simp[valueAt,A6,e']
   rw[mP e,b];exact ih
theorem KV.any {kvs:List (κ×V)}{vs:List (κ×Value)}(r:KV kvs vs)(k:κ):(kvs.any λ kv=>decide (kv.1=k))=vs.any λ kv=>decide (kv.1=k):=by
 unfold KV at r
 induction r with
 |nil=>rfl
 |cons h t ih=>rw[any_cons,any_cons,ih,h.1]
theorem KV.CV {kvs:List (κ×V)}{vs:List (κ×Value)}(r:KV kvs vs)(k:κ){y:V}{u:Value}(ry:RelV y u):KV (kvs.map λ kv=>if kv.1=k then(kv.1,y)else kv) (vs.map λ kv=>if kv.1=k then(kv.1,u)else kv):=by
 unfold KV at r ⊢
 induction r with
 |nil=>exact .nil
 |@cons p q ps qs h t ih=>
  rw[C9,C9];refine .cons ?_ ih;obtain⟨h1,h2⟩:=h;by_cases e:p.1=k
  ·rw[J6 e,J6 (h1.symm.trans e)];exact⟨h1,ry⟩
  ·rw[J7 e,J7 (λ z=>e (h1.trans z))];exact⟨h1,h2⟩
theorem KV.put {kvs:List (κ×V)}{vs:List (κ×Value)}(r:KV kvs vs)(k:κ){y:V}{u:Value}(ry:RelV y u):KV (putK kvs k y) (stored vs k u):=by
 unfold putK stored;rw[r.any k];by_cases e:(vs.any λ kv=>decide (kv.1=k))=true
 ·rw[J6 e,J6 e];exact r.CV k ry
 ·rw[J7 e,J7 e];exact Paired.snoc r ⟨rfl,ry⟩
theorem KV.length {kvs:List (κ×V)}{vs:List (κ×Value)}(r:KV kvs vs):kvs.length=vs.length:=C7 r
end
theorem qi{P:Program}{w:World}{k:Key}{u:Value}(r:RelV (kV k) u):(cB P w).is k u=true:=by
 cases k with
 |inl i=>obtain⟨t,e⟩:=(show ∃t,u=Value.int i t from r);subst e;exact ud P w i t
 |inr x=>obtain⟨t,e⟩:=(show ∃t,u=Value.str x t from r);subst e;exact uc P w x t
theorem qj{P:Program}{w:World}:∀{ks:List Key} {us:List Value},Vals (ks.map kV) us->ItemsAre (cB P w) ks us
 |[],_,r=>by rw[map_nil]at r;cases r;exact .nil
 |k::ks,_,r=>by
  rw[C9]at r;cases r with
  |cons h t=>exact .cons (qi h) (qj t)
abbrev KT(H:Hp):List (List Key×V)->List (List Key×Addr×Value)->Prop:=Paired λ p q=>p.1=q.1/\H q.2.1=some (.tup (p.1.map kV))/\RelV p.2 q.2.2
theorem KT.val {H:Hp}{kvs:List (List Key×V)}{xs:List (List Key×Addr×Value)}(r:KT H kvs xs)(k:List Key):jZ (iQ kvs k) ((atKey xs k).map (·.2)):=by
 induction r with
 |nil=>exact True.intro
 |@cons p q ps qs h t ih=>
  obtain⟨h1,_,h2⟩:=h;by_cases e:p.1=k
  ·have e':q.1=k:=h1.symm.trans e;have b:atKey (q::qs) k=some q.2:=by simp[atKey,A6,e']
   rw[mO e,b];exact h2
  ·have e':¬q.1=k:=λ z=>e (h1.trans z);have b:atKey (q::qs) k=atKey qs k:=by simp[atKey,A6,e']
   rw[mP e,b];exact ih
theorem KT.CV {H:Hp}{kvs:List (List Key×V)}{xs:List (List Key×Addr×Value)}(r:KT H kvs xs)(k:List Key){y:V}{u:Value}(ry:RelV y u):KT H (kvs.map λ kv=>if kv.1=k then(kv.1,y)else kv) (xs.map (putAt k u)):=by
 induction r with
 |nil=>exact .nil
 |@cons p q ps qs h t ih=>
  rw[C9,C9];refine .cons ?_ ih;obtain⟨h1,h2,h3⟩:=h;unfold putAt;by_cases e:p.1=k
  ·rw[J6 e,J6 (h1.symm.trans e)];exact⟨h1,h2,ry⟩
  ·rw[J7 e,J7 (λ z=>e (h1.trans z))];exact⟨h1,h2,h3⟩
theorem KT.put {H:Hp}{kvs:List (List Key×V)}{xs:List (List Key×Addr×Value)}(r:KT H kvs xs)(k:List Key){b:Addr}{y:V}{u:Value}(hb:H b=some (.tup (k.map kV)))(ry:RelV y u):KT H (putK kvs k y) (storedH xs k b u):=by
 have e:(kvs.any λ kv=>decide (kv.1=k))=(atKey xs k).isSome:=by rw[mQ,(r.val k).eN,x4]
 unfold putK storedH;rw[e];by_cases q:(atKey xs k).isSome=true
 ·rw[J6 q,J6 q];exact r.CV k ry
 ·rw[J7 q,J7 q];exact Paired.snoc r ⟨rfl,hb,ry⟩
theorem KT.keeps {H H':Hp}{kvs:List (List Key×V)}{xs:List (List Key×Addr×Value)}(r:KT H kvs xs)(ht:∀b ys,H b=some (.tup ys)->H' b=some (.tup ys)):KT H' kvs xs:=
 Paired.oX r λ _ _ z=>⟨z.1,ht _ _ z.2.1,z.2.2⟩
section
variable {P:Program}{w:World}{H:Hp}{h:Heap}{a:Addr}
theorem KO{u:HO}(ok:gj P w H h)(e:Rd H a u):bq P w H h a u:=e.ok ok
theorem qz{kvs:List (Key×V)}(ok:gj P w H h)(e:Rd H a (.dK kvs)):kvs.length<=sizeLine/\(a==sysModules)=false/\∃vs,KV kvs vs/\h.DictOf (cB P w) a vs:=
 show bq P w H h a (.dK kvs)from KO ok e
theorem FE{kvs:List (Key×V)}(ok:gj P w H h)(e:H a=some (.dK kvs)):kvs.length<=sizeLine/\(a==sysModules)=false/\∃vs,KV kvs vs/\h.DictOf (cB P w) a vs:=qz ok (.inl e)
theorem nQ{ks:List Key}(ok:gj P w H h)(e:H a=some (.tup (ks.map kV))):(tupleKind (cB P w)).is h ks a:=by obtain⟨_,ax,r,o,h1,h2,n,h3⟩:=(show bq P w H h a (.tup (ks.map kV))from ok a _ e);exact⟨o,ax.toArray,n,h1,h2,h3,by simpa using qj r⟩
theorem uJ{kvs:List (List Key×V)}(ok:gj P w H h)(e:Rd H a (.dT kvs)):kvs.length<=sizeLine/\(a==sysModules)=false/\
  ∃xs,KT H kvs xs/\h.DictOfH (tupleKind (cB P w)) a xs:=by
 obtain⟨z,y,xs,r,o,es,ep,h1,h2,h3,h4,h5⟩:=(show bq P w H h a (.dT kvs)from KO ok e);refine⟨z,y,xs,r,o,es,ep,h1,h2,h3,h4,λ x hx=>?_,h5⟩;have all:∀{l:List (List Key×V)} {m:List (List Key×Addr×Value)},KT H l m->∀x∈m,(tupleKind (cB P w)).is h x.1 x.2.1:=by
  intro l m q
  induction q with
  |nil=>intro x hx;exact nomatch hx
  |@cons p q ps qs hq t ih=>
   intro x hx;rcases D1.mp hx with e|hx
   ·subst e;exact nQ ok (by rw[<- hq.1];exact hq.2.1)
   ·exact ih x hx
 exact all r x hx
theorem RV{kvs:List (List Key×V)}(ok:gj P w H h)(e:H a=some (.dT kvs)):kvs.length<=sizeLine/\(a==sysModules)=false/\
  ∃xs,KT H kvs xs/\h.DictOfH (tupleKind (cB P w)) a xs:=uJ ok (.inl e)
end
def pH(H:Hp)(a:Addr)(y:V)(r:Option V):Prop:=
 (∃kvs k,Rd H a (.dK kvs)/\y=kV k/\r=iQ kvs k)\/∃kvs k b,Rd H a (.dT kvs)/\y=.ref b/\H b=some (.tup (k.map kV))/\r=iQ kvs k
def Gp(H:Hp)(a:Addr)(y v:V)(H':Hp):Prop:=
 (∃kvs k,H a=some (.dK kvs)/\y=kV k/\kvs.length < sizeLine/\H'=upd H a (.dK (putK kvs k v)))\/
 ∃kvs k b,H a=some (.dT kvs)/\y=.ref b/\H b=some (.tup (k.map kV))/\kvs.length < sizeLine/\H'=upd H a (.dT (putK kvs k v))
theorem pH.k {H:Hp}{a:Addr}{kvs:List (Key×V)}{k:Key}(e:H a=some (.dK kvs)):pH H a (kV k) (iQ kvs k):=.inl ⟨kvs,k,.inl e,rfl,rfl⟩
theorem Gp.k {H:Hp}{a:Addr}{kvs:List (Key×V)}{k:Key}{v:V}(e:H a=some (.dK kvs))(hl:kvs.length < sizeLine):Gp H a (kV k) v (upd H a (.dK (putK kvs k v))):=.inl ⟨kvs,k,e,rfl,hl,rfl⟩
section
variable {X:Cx}{pins:List (Addr×Obj)}{σ:St}{H:Hp}{s:Shared}{a:Addr}{y v:V}{u r:Value}{o:Option V}{A:Around}{E:Value->Shared->Prop}
theorem Inv.big (I:Inv X pins σ H s):sysModules < s.heap.objs.size:=by have h:mainGlobals < s.heap.objs.size:=(I.mod.glob.keeps I.bk).lt;exact Nat.lt_trans (by decide) h
theorem Bq{Q:Value->Shared->Prop}(hu:A.units+1 < cLine)(I:Inv X pins σ H s)(g:pH H a y (some v))(ry:RelV y u)(h:∀w' s',Inv X pins σ H s'->RelV v w'->Q w' s'):wpAny (model X.prog X.w) A (getItem (.ref a) u) Q E s:=by
 rcases g with⟨kvs,k,e,ey,l⟩|⟨kvs,k,b,e,ey,eb,l⟩
 ·subst ey;obtain⟨z,hd,vs,rel,dd⟩:=qz I.bh e;obtain⟨w',hw,gD⟩:=jZ.some_of (v:=v) (o:=valueAt vs k) (by rw[l];exact rel.val k);exact wpAny_getItem_of (qi ry) dd.mapOf hw (h w' _ (I.tok _) gD)
 ·subst ey;cases(show u=Value.ref b from ry);obtain⟨z,hd,xs,rel,dd⟩:=uJ I.bh e;obtain⟨w',hw,gD⟩:=jZ.some_of (v:=v) (o:=(atKey xs k).map (·.2)) (by rw[l];exact rel.val k);obtain⟨p,hp,eT⟩:=Option.map_eq_some_iff.mp hw;refine wpAny_getItem_heap (q8 hu) (nQ I.bh eb) dd hp ?_;rw[eT];exact h w' _ (I.tok _) gD
theorem VR{Q:Value->Shared->Prop}(hu:A.units+1 < cLine)(I:Inv X pins σ H s)(g:pH H a y o)(ry:RelV y u)(h:∀s',Inv X pins σ H s'->Q (.bool o.isSome) s'):wpAny (model X.prog X.w) A (compareOp .In u (.ref a)) Q E s:=by
 rcases g with⟨kvs,k,e,ey,l⟩|⟨kvs,k,b,e,ey,eb,l⟩
 ·subst ey;obtain⟨z,hd,vs,rel,dd⟩:=qz I.bh e;refine wpAny_in_of (qi ry) hd dd.mapOf ?_;rw[<- (rel.val k).eN,<- l];exact h _ (I.tok _)
 ·subst ey;cases(show u=Value.ref b from ry);obtain⟨z,hd,xs,rel,dd⟩:=uJ I.bh e;refine wpAny_in_heap (q8 hu) (nQ I.bh eb) hd dd ?_;have q:=(rel.val k).eN;rw[x4]at q;rw[<- q,<- l];exact h _ (I.tok _)
theorem Ka{Q:Value->Shared->Prop}(hu:A.units+1 < cLine)(I:Inv X pins σ H s)(g:pH H a y o)(ry:RelV y u)(h:∀s',Inv X pins σ H s'->Q (.bool (!o.isSome)) s'):wpAny (model X.prog X.w) A (compareOp .NotIn u (.ref a)) Q E s:=by
 rcases g with⟨kvs,k,e,ey,l⟩|⟨kvs,k,b,e,ey,eb,l⟩
 ·subst ey;obtain⟨z,hd,vs,rel,dd⟩:=qz I.bh e;refine wpAny_notIn_of (qi ry) hd dd.mapOf ?_;rw[<- (rel.val k).eN,<- l];exact h _ (I.tok _)
 ·subst ey;cases(show u=Value.ref b from ry);obtain⟨z,hd,xs,rel,dd⟩:=uJ I.bh e;refine wpAny_notIn_heap (q8 hu) (nQ I.bh eb) hd dd ?_;have q:=(rel.val k).eN;rw[x4]at q;rw[<- q,<- l];exact h _ (I.tok _)
theorem jT{h':Heap}{t':Nat}{ob:HO}(I:Inv X pins σ H s)(mu:Sg (H a))(hs:Heap.SameBut a s.heap h')(he:∃q,h'.get? a=some q)(new:bq X.prog X.w (upd H a ob) h' a ob):Inv X pins σ (upd H a ob) {s with heap:=h',toks:=t'}:=
 I.write (x:=a) (e:=a) mu (.inl rfl) (λ b q hb z=>(hs.2 b hb).trans z) he new
theorem FF{P:Program}{w:World}{H':Hp}{h':Heap}{kvs:List (Key×V)}{vs:List (Key×Value)}(z:kvs.length<=sizeLine)(hd:(a==sysModules)=false)(rel:KV kvs vs)(dd:h'.DictOf (cB P w) a vs):bq P w H' h' a (.dK kvs):=⟨z,hd,vs,rel,dd⟩
theorem Bp{H':Hp}{Q:Unit->Shared->Prop}(hu:A.units+1 < cLine)(I:Inv X pins σ H s)(g:Gp H a y v H')(ry:RelV y u)(rv:RelV v r)(h:∀s',Inv X pins σ H' s'->Q () s'):wpAny (model X.prog X.w) A (setItem (.ref a) u r) Q E s:=by
 rcases g with⟨kvs,k,e,ey,l,eH⟩|⟨kvs,k,b,e,ey,eb,l,eH⟩
 ·subst ey eH;obtain⟨z,hd,vs,rel,dd⟩:=FE I.bh e;have hz:vs.length<=sizeLine:=by rw[<- rel.length];exact z
  have hl:(putK kvs k v).length<=sizeLine:=by have:=gN kvs k v;omega
  refine wpAny_setItem_pairs (hsz:=hz) (qi ry) dd λ h' FJ hs=>h _ ?_;have he:∃q,h'.get? a=some q:=let⟨q,_,_,hq,_⟩:=FJ;⟨q,hq⟩
  exact jT I (by rw[e];exact True.intro) hs he (FF hl hd (rel.put k rv) FJ)
 ·subst ey eH;cases(show u=Value.ref b from ry);obtain⟨z,hd,xs,rel,dd⟩:=RV I.bh e;have hz:xs.length<=sizeLine:=by rw[<- C7 rel];exact z
  have hl:(putK kvs k v).length<=sizeLine:=by have:=gN kvs k v;omega
  refine wpAny_setItem_heap (hsz:=hz) (q8 hu) (nQ I.bh eb) dd λ h' FJ hs=>h _ ?_;obtain⟨q,es,ep,hq,h2,h3,h4,_,h5⟩:=FJ;refine jT I (by rw[e];exact True.intro) hs ⟨q,hq⟩ ⟨hl,hd,_,(rel.put k eb rv).keeps λ c ys ec=>?_,q,es,ep,hq,h2,h3,h4,h5⟩;rw[aG (bM ec e (λ z=>nomatch z))];exact ec
end
section
variable {X:Cx}{pins:List (Addr×Obj)}{σ:St}{H:Hp}{s:Shared}{a:Addr}{kvs:List (Key×V)}{k:Key}{u:Value}{A:Around}{E:Value->Shared->Prop}
theorem RW{Q:Value->Shared->Prop}(I:Inv X pins σ H s)(e:Rd H a (.dK kvs))(h:∀t s',Inv X pins σ H s'->Q (.int kvs.length t) s'):wpAny (model X.prog X.w) A (call (.builtin "len") [.ref a]) Q E s:=by obtain⟨z,hd,vs,rel,dd⟩:=qz I.bh e;refine call_len_dict hd dd (by rw[<- rel.length];rw[G6]at z;omega) ?_;rw[<- rel.length];exact h _ _ (I.tok _)
end
theorem uL{X:Cx}{pins:List (Addr×Obj)}{σ:St}{H:Hp}{s:Shared}{a:Addr}{y:V}{o:Option V}(I:Inv X pins σ H s)(g:pH H a y o):s.TypeIs (.ref a) "dict":=by
 rcases g with⟨kvs,k,e,_,_⟩|⟨kvs,k,b,e,_,_,_⟩
 ·obtain⟨_,_,vs,_,dd⟩:=qz I.bh e;exact dd.typeIs
 ·obtain⟨_,_,xs,_,dd⟩:=uJ I.bh e;exact dd.typeIs
theorem FG{P:Program}{w:World}{H:Hp}(h:Heap)(hb:sysModules < h.objs.size):bq P w H (h.push {cls:=.type "dict",data:=.dict #[]}) h.objs.size (.dK []):=
 ⟨G7 _,beq_eq_false_iff_ne.mpr (J5 (D4 hb)),[],.nil,Heap.DictOf.new h⟩
end L2
namespace L2
open PySem PySem.Spec PyProof.Rows
mutual
def fG(K:J8)(H:Hp):IK->V->Prop
 | .i n,v=>v=.int n\/∃b:Bool,v=.bl b/\n=b2i b
 | .t ks,v=>∃p xs,v=.ref p/\fJ K H p xs/\gO K H ks xs
def gO(K:J8)(H:Hp):List IK->List V->Prop
 |[],xs=>xs=[]
 |k::ks,xs=>∃x r,xs=x::r/\fG K H k x/\gO K H ks r
end
section
variable {X:Cx}{pins:List (Addr×Obj)}{σ:St}{H:Hp}{s:Shared}
mutual
theorem jM(I:Inv X pins σ H s):∀(k:IK) {v:V} {u:Value},fG X.K H k v->RelV v u->ck s.heap k u
 | .i n,v,u,h,r=>by
  unfold fG at h;unfold ck;rcases h with rfl|⟨b,rfl,rfl⟩
  ·exact .inl r
  ·exact .inr ⟨b,r,rfl⟩
 | .t ks,v,u,h,r=>by unfold fG at h;obtain⟨p,xs,rfl,hq,hk⟩:=h;cases(show u=Value.ref p from r);obtain⟨ax,rv,⟨o,ho,hc,n,hd⟩,_⟩:=I.tuple hq;unfold ck;exact⟨p,o,ax,n,rfl,ho,hc,hd,yH I ks hk rv⟩
theorem yH(I:Inv X pins σ H s):∀(ks:List IK) {xs:List V} {us:List Value},gO X.K H ks xs->Vals xs us->bC s.heap ks us
 |[],xs,us,h,r=>by unfold gO at h;subst h;cases r;unfold bC;rfl
 |k::ks,xs,us,h,r=>by
  unfold gO at h;obtain⟨x,Kw,rfl,h1,h2⟩:=h;cases r with
  |cons r1 r2=>unfold bC;exact⟨_,_,rfl,jM I k h1 r1,yH I ks h2 r2⟩
end
end
abbrev eV:=IK×Addr×V
def VM(x:IK×Addr×Value):DictEntry:=⟨d_ x.1,.ref x.2.1,x.2.2⟩
abbrev BN:List eV->List (IK×Addr×Value)->Prop:=Paired λ p q=>p.1=q.1/\p.2.1=q.2.1/\RelV p.2.2 q.2.2
def VQ(a:Addr)(kvs:List eV)(h:Heap):Prop:=kvs.length<=sizeLine/\(a==sysModules)=false/\∃xs,BN kvs xs/\∃o es ep,h.get? a=some o/\o.ExactDict/\o.data=.dict es ep/\es.toList=xs.map VM/\(xs.map (·.1)).Nodup
def sP(a:Addr)(kvs:List eV):HO:=.ext (VQ a kvs)
theorem wY{P:Program}{w:World}{H:Hp}{h:Heap}{a:Addr}{kvs:List eV}(x:VQ a kvs h):bq P w H h a (sP a kvs):=by obtain⟨z,y,xs,r,o,es,ep,e,c⟩:=id x;exact⟨x,⟨o,e⟩,λ h1 h2 ⟨z,y,xs,r,o,es,ep,e,c⟩ q=>⟨z,y,xs,r,o,es,ep,q o e,c⟩⟩
noncomputable def jo (kvs:List eV)(k:IK):Option V:=(kvs.find? λ p=>decide (p.1=k)).map (·.2.2)
noncomputable def jD (kvs:List eV)(k:IK)(p:Addr)(v:V):List eV:=if(jo kvs k).isSome=true then kvs.map (λ x=>if x.1=k then(x.1,x.2.1,v)else x)else kvs++[(k,p,v)]
theorem tT(kvs:List eV)(k:IK)(p:Addr)(v:V):(jD kvs k p v).length<=kvs.length+1:=by
 unfold jD;split
 ·simp
 ·simp
theorem BN.val {kvs:List eV}{xs:List (IK×Addr×Value)}(r:BN kvs xs)(k:IK):jZ (jo kvs k) ((atKey xs k).map (·.2)):=by
 induction r with
 |nil=>exact True.intro
 |@cons p q ps qs h t ih=>
  obtain⟨h1,_,h2⟩:=h;unfold jo atKey at ih ⊢;by_cases e:p.1=k
  ·have e':q.1=k:=h1.symm.trans e;simp only[A6,C0 e,C0 e',Option.map_some];exact h2
  ·have e':¬q.1=k:=λ z=>e (h1.trans z);simp only[A6,A7 e,A7 e'];exact ih
theorem BN.CV {kvs:List eV}{xs:List (IK×Addr×Value)}(r:BN kvs xs)(k:IK){y:V}{u:Value}(ry:RelV y u):BN (kvs.map λ x=>if x.1=k then(x.1,x.2.1,y)else x) (xs.map (putAt k u)):=by
 induction r with
 |nil=>exact .nil
 |@cons p q ps qs h t ih=>
  rw[C9,C9];refine .cons ?_ ih;obtain⟨h1,h2,h3⟩:=h;unfold putAt;by_cases e:p.1=k
  ·rw[J6 e,J6 (h1.symm.trans e)];exact⟨h1,h2,ry⟩
  ·rw[J7 e,J7 (λ z=>e (h1.trans z))];exact⟨h1,h2,h3⟩
theorem rL{o:Option V}{u:Option Value}(r:jZ o u):o.isSome=u.isSome:=r.eN
theorem BN.put {kvs:List eV}{xs:List (IK×Addr×Value)}(r:BN kvs xs)(k:IK){b:Addr}{y:V}{u:Value}(ry:RelV y u):BN (jD kvs k b y) (storedH xs k b u):=by
 have e:(jo kvs k).isSome=(atKey xs k).isSome:=by rw[rL (r.val k),x4]
 unfold jD storedH;rw[e];by_cases q:(atKey xs k).isSome=true
 ·rw[J6 q,J6 q];exact r.CV k ry
 ·rw[J7 q,J7 q];exact Paired.snoc r ⟨rfl,rfl,ry⟩
structure oF(K:J8)(H:Hp)(a:Addr)(kvs:List eV):Prop where
 at_:H a=some (sP a kvs)
 key:∀p∈kvs,p.1.dep<=5/\fG K H p.1 (.ref p.2.1)
section
variable {X:Cx}{pins:List (Addr×Obj)}{σ:St}{H:Hp}{s:Shared}{a b:Addr}{kvs:List eV}{k:IK}{A:Around}{E:Value->Shared->Prop}{v:V}{u r:Value}
theorem oF.of (I:Inv X pins σ H s)(d:oF X.K H a kvs):kvs.length<=sizeLine/\(a==sysModules)=false/\∃xs,BN kvs xs/\s.heap.DictOfH (aQ X.prog X.w) a xs:=by
 obtain⟨⟨z,y,xs,rel,o,es,ep,h1,h2,h3,h4,h5⟩,_,_⟩:=(show bq X.prog X.w H s.heap a (sP a kvs)from I.bh a _ d.at_);refine⟨z,y,xs,rel,o,es,ep,h1,h2,h3,h4,?_,h5⟩;have all:∀{l:List eV} {m:List (IK×Addr×Value)},BN l m->(∀p∈l,p.1.dep<=5/\fG X.K H p.1 (.ref p.2.1))->∀x∈m,(aQ X.prog X.w).is s.heap x.1 x.2.1:=by
  intro l m q
  induction q with
  |nil=>intro _ x hx;cases hx
  |@cons p q ps qs hq t ih=>
   intro hl x hx;rcases D1.mp hx with rfl|hx
   ·obtain⟨c1,c2⟩:=hl p (n6 ..);rw[hq.1,hq.2.1]at c2;rw[hq.1]at c1;exact⟨c1,jM I _ c2 rfl⟩
   ·exact ih (λ p hp=>hl p (k8 _ hp)) x hx
 exact all rel d.key
theorem jy(hu:A.units+64 < cLine):(aQ X.prog X.w).room A.in1:=(show A.units+1+8 < cLine by omega)
theorem Aj{Q:Value->Shared->Prop}(hu:A.units+64 < cLine)(I:Inv X pins σ H s)(d:oF X.K H a kvs)(hk:k.dep<=5)(vy:fG X.K H k (.ref b))(g:jo kvs k=some v)(h:∀w' s',Inv X pins σ H s'->RelV v w'->Q w' s'):wpAny (model X.prog X.w) A (getItem (.ref a) (.ref b)) Q E s:=by obtain⟨z,hd,xs,rel,dd⟩:=d.of I;obtain⟨w',hw,gD⟩:=jZ.some_of (v:=v) (o:=(atKey xs k).map (·.2)) (by rw[<- g];exact rel.val k);obtain⟨p,hp,eT⟩:=Option.map_eq_some_iff.mp hw;refine wpAny_getItem_heap (jy hu) ⟨hk,jM I k vy rfl⟩ dd hp ?_;rw[eT];exact h w' _ (I.tok _) gD
theorem TQ{Q:Value->Shared->Prop}(hu:A.units+64 < cLine)(I:Inv X pins σ H s)(d:oF X.K H a kvs)(hk:k.dep<=5)(vy:fG X.K H k (.ref b))(h:∀s',Inv X pins σ H s'->Q (.bool (jo kvs k).isSome) s'):wpAny (model X.prog X.w) A (compareOp .In (.ref b) (.ref a)) Q E s:=by obtain⟨z,hd,xs,rel,dd⟩:=d.of I;refine wpAny_in_heap (jy hu) ⟨hk,jM I k vy rfl⟩ hd dd ?_;have q:=rL (rel.val k);rw[x4]at q;rw[<- q];exact h _ (I.tok _)
theorem G_{Q:Value->Shared->Prop}(hu:A.units+64 < cLine)(I:Inv X pins σ H s)(d:oF X.K H a kvs)(hk:k.dep<=5)(vy:fG X.K H k (.ref b))(h:∀s',Inv X pins σ H s'->Q (.bool (!(jo kvs k).isSome)) s'):wpAny (model X.prog X.w) A (compareOp .NotIn (.ref b) (.ref a)) Q E s:=by obtain⟨z,hd,xs,rel,dd⟩:=d.of I;refine wpAny_notIn_heap (jy hu) ⟨hk,jM I k vy rfl⟩ hd dd ?_;have q:=rL (rel.val k);rw[x4]at q;rw[<- q];exact h _ (I.tok _)
theorem Ai{Q:Unit->Shared->Prop}(hu:A.units+64 < cLine)(I:Inv X pins σ H s)(d:oF X.K H a kvs)(hk:k.dep<=5)(vy:fG X.K H k (.ref b))(hl:kvs.length < sizeLine)(rv:RelV v r)(h:∀s',Inv X pins σ (upd H a (sP a (jD kvs k b v))) s'->Q () s'):wpAny (model X.prog X.w) A (setItem (.ref a) (.ref b) r) Q E s:=by
 obtain⟨z,hd,xs,rel,dd⟩:=d.of I;have hz:xs.length<=sizeLine:=by rw[<- C7 rel];exact z
 have vw:(jD kvs k b v).length<=sizeLine:=by have:=tT kvs k b v;omega
 refine wpAny_setItem_heap (hsz:=hz) (jy hu) ⟨hk,jM I k vy rfl⟩ dd λ h' FJ hs=>h _ ?_;obtain⟨q,es,ep,hq,h2,h3,h4,_,h5⟩:=FJ;exact jT I (by rw[d.at_];exact True.intro) hs ⟨q,hq⟩ (wY ⟨vw,hd,_,rel.put k rv,q,es,ep,hq,h2,h3,h4,h5⟩)
end
section
variable {X:Cx}{pos:Pos}
theorem JZ(h:Heap)(hb:sysModules < h.objs.size):VQ h.objs.size [] (h.push {cls:=.type "dict",data:=.dict #[]}):=
 ⟨G7 _,beq_eq_false_iff_ne.mpr (J5 (D4 hb)),[],.nil,_,#[],0,m8 _ rfl,⟨rfl,rfl,rfl⟩,rfl,rfl,nodup_nil⟩
end
section
variable {prog:Program}{w:World}
theorem Mv{d:Addr}(hd:(d==sysModules)=false):MeetsIn prog w (Builtin.«dict.__len__» ⟨[.ref d],[]⟩) (λ _ R s=>∃o es ep,s.heap.get? d=some o/\o.data=.dict es ep/\R (.ok (.ret (.int es.size s.toks))) {s with toks:=s.toks+1}):=
 .of_wp λ A R s ⟨o,es,ep,ho,Oq,h⟩=>by show wpAny _ _ (dictSize d >>= _) _ _ s;unfold dictSize;refine G9 (G9 (wpAny_dictEntries ho Oq (H9 ?_)));show wpAny _ _ (Builtin.Dict.pendingCount d >>= _) _ _ s;refine G9 (wpAny_pendingCount_other hd (wpAny_ret_mkInt ?_));rw[Nat.add_zero];exact h
theorem u_{A:Around}{E:Value->Shared->Prop}{s:Shared}{d:Addr}{o:Obj}{es:Array DictEntry}{ep:Nat}{Q:Value->Shared->Prop}(hd:(d==sysModules)=false)(ho:s.heap.get? d=some o)(hc:o.cls=.type "dict")(Oq:o.data=.dict es ep)(hz:es.size<=sizeLine) (h:∀t n,Q (.int es.size t) {s with toks:=n}):wpAny (model prog w) A (call (.builtin "len") [.ref d]) Q E s:=by
 have hT:s.TypeIs (.ref d) "dict":=⟨o,ho,hc⟩;have Pc:sizeLine=16777216:=by decide
 have RI:((es.size:Nat):Int) < 2^63:=by omega
 refine Calls.call_function_entry kind_len plain_len entry_len (args_len1 _) ?_;unfold Builtin.«len»;refine G9 (m:=oneArg "len" _) (H9 ?_);refine G9 (m:=callSpecial? (.ref d) (Str.ofString "__len__")) (i9 (name:=Str.ofString "__len__") hT F.slot_dict_len (call_meetsIn F.slot_dict_len hT F.entry_dict_len (F.args_dict_len_1 _) (Mv hd) ⟨o,es,ep,ho,Oq,?_⟩));show wpAny _ _ _ _ _ {s with toks:=s.toks+1};refine G9 (C6 (H9 (G9 (wpAny_letGo ?_))));show wpAny _ _ (if((es.size:Nat):Int) < 0 then _ else _) _ _ _;rw[J7 (by omega)];show wpAny _ _ (if((es.size:Nat):Int) ≥ 2^63 then _ else _) _ _ _;rw[J7 (by omega)];exact G9 (wpAny_mkInt (H9 ⟨_,rfl,h _ _⟩))
end
section
variable {X:Cx}{pins:List (Addr×Obj)}{σ:St}{H:Hp}{s:Shared}{a:Addr}{kvs:List eV}{A:Around}{E:Value->Shared->Prop}
theorem PM{Q:Value->Shared->Prop}(I:Inv X pins σ H s)(e:H a=some (sP a kvs))(h:∀t s',Inv X pins σ H s'->Q (.int kvs.length t) s'):wpAny (model X.prog X.w) A (call (.builtin "len") [.ref a]) Q E s:=by
 obtain⟨⟨z,y,xs,rel,o,es,ep,h1,h2,h3,h4,h5⟩,_,_⟩:=(show bq X.prog X.w H s.heap a (sP a kvs)from I.bh a _ e);have e1:es.size=kvs.length:=by rw[<- m7,h4,B4];exact(C7 rel).symm
 refine u_ y h1 h2.1 h3 (by rw[e1];exact z) λ t n=>?_;rw[e1];exact h t _ (I.tok _)
end
end L2
namespace L2
open PySem PySem.Spec PyProof.Rows
structure lB where
 qual:Str
 params:Arguments
 body:Expr
 scope:Scope
 pm:Value
abbrev kM(f:Addr)(L:lB)(c:Addr)(cl:List (Str×Addr)):Heap->Prop:=λ h=>∃mB,h.get? f=some (PySem.W.kla_obj "<lambda>" L.qual L.params L.body L.scope cl L.pm c mB)
abbrev rY(c:Addr)(q:Str):Heap->Prop:=λ h=>h.CodeRec (.ref c) q
abbrev FW(c:Addr)(v:V):Heap->Prop:=λ h=>∃u,RelV v u/\h.IsCell c (some u)
abbrev fX(o:Obj)(c:Addr)(v:V):HO:=.cQ o (.cQ o (.ext (FW c v)))
theorem yE{h:Heap}{f c:Addr}{L:lB}{cl:List (Str×Addr)}{mB:Value}(e:h.get? f=some (PySem.W.kla_obj "<lambda>" L.qual L.params L.body L.scope cl L.pm c mB)):∃o,∀{P:Program} {w:World} {H:Hp},bq P w H h f (.cQ o (.ext (kM f L c cl))):=
 ⟨_,λ{_ _ _}=>⟨e,⟨mB,e⟩,⟨_,e⟩,λ h1 h2 ⟨t,q⟩ k=>⟨t,k _ q⟩⟩⟩
theorem Kh{h:Heap}{c:Addr}{q:Str}(x:h.CodeRec (.ref c) q):∃o,∀{P:Program} {w:World} {H:Hp},bq P w H h c (.cQ o (.ext (rY c q))):=by obtain⟨c',o,vs,t,e,h1,h2,h3⟩:=id x;cases e;exact⟨o,λ{_ _ _}=>⟨h1,x,⟨o,h1⟩,λ a b ⟨c',o,vs,t,e,h1,h2,h3⟩ k=>by cases e;exact⟨_,o,vs,t,rfl,k _ h1,h2,h3⟩⟩⟩
theorem Kj{h:Heap}{c:Addr}{v:V}{u:Value}(r:RelV v u)(x:h.IsCell c (some u)):∃o,h.get? c=some o/\∀{P:Program} {w:World} {H:Hp},bq P w H h c (fX o c v):=by obtain⟨o,h1,h2⟩:=id x;exact⟨o,h1,λ{_ _ _}=>⟨h1,h1,⟨u,r,x⟩,⟨o,h1⟩,λ a b ⟨u,r,o,h1,h2⟩ k=>⟨u,r,o,k _ h1,h2⟩⟩⟩
def mV(cs:List (Pos×Addr)):List Value:=cs.flatMap λ p=>[rawInt p.1.line,rawInt p.1.col,.ref p.2]
theorem qS:∀cs,TriplesOk (mV cs)
 |[]=>trivial
 |p::cs=>qS cs
theorem pR{pos:Pos}{u:Value}:∀{cs:List (Pos×Addr)},codeAmong pos (mV cs)=some u->∃p∈cs,u=.ref p.2
 |[],e=>by cases e
 |p::cs,e=>by
  have e:(if(((p.1.line:Int)==pos.line)&&((p.1.col:Int)==pos.col))=true then some (Value.ref p.2)else codeAmong pos (mV cs))=some u:=e;split at e
  ·exact⟨p,.head _,(A9 e).symm⟩
  ·obtain⟨q,h,r⟩:=pR e;exact⟨q,.tail _ h,r⟩
structure Ku(mg:Str->Option Value)(base:Heap)(c P:Addr):Prop where
 bm:∃bm ob,mg "__builtins__"=some (.ref bm)/\bm≠builtinsNs/\base.get? bm=some ob/\ob.cls=.type "module"/\ob.dict=some builtinsNs/\ob.data=.plain
 cd:PySem.W.CodeHd base c P
def Lp(H:Hp)(P:Addr)(q:Str):Prop:=∃cs:List (Pos×Addr),H P=some (.lT (mV cs).toArray)/\∀p∈cs,∃o,H p.2=some (.cQ o (.ext (rY p.2 q)))
section
variable {X:Cx}{pins:List (Addr×Obj)}{σ:St}{H:Hp}{s:Shared}
theorem Lp.grow {H H':Hp}{P:Addr}{q:Str}(t:Lp H P q)(k:∀b o u,H b=some (.cQ o u)->H' b=some (.cQ o u))(e:H' P=H P):Lp H' P q:=by obtain⟨cs,h1,h2⟩:=t;exact⟨cs,e.trans h1,λ p hp=>let⟨o,z⟩:=h2 p hp;⟨o,k _ _ _ z⟩⟩
def T4(P:Addr)(L:lB)(cells:List (Str×Addr)):TE:=λ σ H Q=>Lp H P L.qual/\∀(f c:Addr) (H':Hp),H f=none->(∀x d,cells.lookup x=some d->d≠f)->(∀b u,b≠P->H b=some u->H' b=some u)->Lp H' P L.qual->(∃o,H' c=some (.cQ o (.ext (rY c L.qual))))->(∃o,H' f=some (.cQ o (.ext (kM f L c (bt cells L.scope.names [])))))->Q (.ref f) H'
theorem pS(cs:List (Pos×Addr))(pos:Pos)(c:Addr):(mV cs).toArray++#[rawInt pos.line,rawInt pos.col,.ref c]=(mV (cs++[(pos,c)])).toArray:=by simp[mV]
theorem Nk{L:lB}{c P:Addr}{pos:Pos}(qp:X.env.code=.ref c)(B:Ku X.mg X.base c P)(Ff:defaultsOf L.params X.env=([],[]))(Oh:L.pm=(X.mg "__name__").getD .none)(hq:X.env.qual++"<lambda>"=L.qual) (vA:∀n,(n,NameKind.free)∈L.scope.names->X.env.kindOf n=some .cell\/X.env.kindOf n=some .free):PE X (.Lambda L.params L.body L.scope pos) (T4 P L X.env.cells):=by
 intro pins s σ H Q I h;obtain⟨⟨cs,hP,Fg⟩,k⟩:=h;refine PySem.W.kla_eval Ff ?_;rw[hq];have vB:closureFor L.scope X.env=pure (bt X.env.cells L.scope.names []):=dP λ n hn=>I.ok.has n (vA n hn);have oP:s.heap.get? P=some (PySem.W.tabObj (mV cs).toArray):=I.bh P _ hP;have hg:s.heap.Ns mainGlobals X.mg:=I.mod.glob.keeps I.bk;have C:=B.cd.keeps I.bk;obtain⟨bm,ob,b1,b2,b3,b4,b5,b6⟩:=B.bm;have YN:mainGlobals≠P:=λ q=>by obtain⟨o,es,ep,e,hd,_⟩:=id hg;rw[q,oP]at e;cases e;cases hd
 have YV:bm≠P:=λ q=>by have e:=I.bk _ _ b3;rw[q,oP]at e;cases e;cases b4
 have YW:bm≠mainGlobals:=λ q=>by obtain⟨o,es,ep,e,hd,_⟩:=id hg;have e2:=I.bk _ _ b3;rw[q,e]at e2;cases e2;rw[hd]at b6;cases b6
 have hb:s.heap.BuiltinsAt X.mg P:=⟨bm,ob,b1,b2,YW,YV,I.bk _ _ b3,b4,b5,b6⟩;have Xc:∀{f:Addr},s.heap.objs.size<=f->∀x d,X.env.cells.lookup x=some d->d≠f:=λ hf x d e z=>by obtain⟨v,o,ho,_⟩:=I.cell x d e;exact absurd (D5 ho) (by rw[z];exact Nat.not_lt.mpr hf)
 cases hc:codeAmong pos (mV cs).toArray.toList with
 |none=>
  refine PySem.W.kla_makeFunction vB I.ok.glob hg qp C oP (by simpa using qS cs) hc YN hb λ c' mB h' tk hx K_ iX U7 Ru=>?_;rw[<- Oh];have hf:h'.objs.size=h'.objs.size:=rfl;generalize hF:h'.objs.size=f at*;have U5:s.heap.objs.size<=f:=D8 K_ (G4 iX);have nc:H c'=none:=I.bh.fresh K_;have nf:H f=none:=I.bh.fresh U5;have cf:c'≠f:=D4 iX;have cP:c'≠P:=λ z=>by rw[z,hP]at nc;cases nc
  have fP:f≠P:=λ z=>by rw[z,hP]at nf;cases nf
  have up:∀b o,h'.get? b=some o->(h'.push (PySem.W.kla_obj "<lambda>" L.qual L.params L.body L.scope (bt X.env.cells L.scope.names []) L.pm c' mB)).get? b=some o:=λ b o e=>j4 _ e;have hl:(h'.push (PySem.W.kla_obj "<lambda>" L.qual L.params L.body L.scope (bt X.env.cells L.scope.names []) L.pm c' mB)).get? f=some (PySem.W.kla_obj "<lambda>" L.qual L.params L.body L.scope (bt X.env.cells L.scope.names []) L.pm c' mB):=by rw[<- hF];exact m8 _ rfl
  have Rv:(h'.push (PySem.W.kla_obj "<lambda>" L.qual L.params L.body L.scope (bt X.env.cells L.scope.names []) L.pm c' mB)).CodeRec (.ref c') L.qual:=by obtain⟨c2,o,vs,t,e,h1,h2,h3⟩:=U7;exact⟨c2,o,vs,t,e,up _ _ h1,h2,h3⟩
  have Ru:=up _ _ Ru;rw[pS]at Ru;have kp:∀b o,b≠P->s.heap.get? b=some o->(h'.push (PySem.W.kla_obj "<lambda>" L.qual L.params L.body L.scope (bt X.env.cells L.scope.names []) L.pm c' mB)).get? b=some o:=λ b o n e=>up b o (hx b o n e);generalize h'.push (PySem.W.kla_obj "<lambda>" L.qual L.params L.body L.scope (bt X.env.cells L.scope.names []) L.pm c' mB)=g at*;obtain⟨of,zf⟩:=yE (L:=L) hl;obtain⟨oc,zc⟩:=Kh Rv;obtain⟨H',eH⟩:∃H':Hp,H'=upd (upd (upd H c' (.cQ oc (.ext (rY c' L.qual)))) P (.lT (mV (cs++[(pos,c')])).toArray)) f (.cQ of (.ext (kM f L c' (bt X.env.cells L.scope.names [])))):=⟨_,rfl⟩;have Hf:H' f=some (.cQ of (.ext (kM f L c' (bt X.env.cells L.scope.names [])))):=by rw[eH];exact aP
  have HP:H' P=some (.lT (mV (cs++[(pos,c')])).toArray):=by rw[eH,aG fP.symm];exact aP
  have Hc:H' c'=some (.cQ oc (.ext (rY c' L.qual))):=by rw[eH,aG cf,aG cP];exact aP
  have Ho:∀b,b≠f->b≠P->b≠c'->H' b=H b:=λ b n1 n2 n3=>by rw[eH,aG n1,aG n2,aG n3]
  have old:∀b u,b≠P->H b=some u->H' b=some u:=λ b u n e=>(Ho b (bJ e nf) n (bJ e nc)).trans e;have I2:Inv X pins σ H' {s with heap:=g,toks:=tk}:=by
   refine I.un (H':=H') (h':=g) (t':=tk) ⟨λ b o e n _ _=>kp b o (λ z=>by rw[z,hP]at n;cases n) e,λ b o e n _ _=>⟨o.slots,kp b o (λ z=>by rw[z,hP]at n;cases n) e⟩,λ b o e n _=>?_,λ b o e _=>?_,λ b xs e=>old b _ (λ z=>by rw[z,hP]at e;cases e) e,λ b o u e=>old b _ (λ z=>by rw[z,hP]at e;cases e) e,λ b ps e=>?_⟩ λ b u e=>?_
   ·have lt:=D5 e;rw[Ho b (D4 (p6 lt U5)) (λ z=>by rw[z,hP]at n;cases n) (D4 (p6 lt K_))];exact n
   ·by_cases z:b=P
    ·subst z;exact⟨_,Ru⟩
    ·exact⟨o,kp b o z e⟩
   ·by_cases z:b=P
    ·subst z;rw[hP]at e;cases e;exact⟨#[rawInt pos.line,rawInt pos.col,.ref c'],by rw[HP,pS]⟩
    ·exact⟨#[],by rw[old b _ z e];simp⟩
   ·by_cases z1:b=f
    ·subst z1;rw[Hf]at e;cases e;exact zf
    ·by_cases z2:b=P
     ·subst z2;rw[HP]at e;cases e;exact Ru
     ·by_cases z3:b=c'
      ·subst z3;rw[Hc]at e;cases e;exact zc
      ·rw[Ho b z1 z2 z3]at e;refine(I.bh b u e).ko (λ d v hd q=>kp d v ?_ q) (λ d q=>old d _ (λ z=>by rw[z,hP]at q;cases q) q) λ d xs q=>old d _ (λ z=>by rw[z,hP]at q;cases q) q;rcases hd with rfl|hd
       ·exact z2
       ·exact λ z=>by rw[z,hP]at hd;cases hd
  refine⟨.ref f,H',I2,rfl,k f c' H' nf (Xc U5) old ⟨_,HP,λ p hp=>?_⟩ ⟨oc,Hc⟩ ⟨of,Hf⟩⟩;rcases B5.mp hp with hp|hp
  ·obtain⟨o,z⟩:=Fg p hp;exact⟨o,old _ _ (λ y=>by rw[y,hP]at z;cases z) z⟩
  ·rw[p7.mp hp];exact⟨oc,Hc⟩
 |some u=>
  obtain⟨p,hp,rfl⟩:=pR (by simpa using hc);refine PySem.W.kla_makeFunctionHit vB I.ok.glob hg qp C oP (by simpa using qS cs) hc hb λ mB h' tk hx hsz=>?_;rw[<- Oh];have nf:H h'.objs.size=none:=I.bh.fresh hsz;have fP:h'.objs.size≠P:=λ z=>by rw[z,hP]at nf;cases nf
  have hl:(h'.push (PySem.W.kla_obj "<lambda>" L.qual L.params L.body L.scope (bt X.env.cells L.scope.names []) L.pm p.2 mB)).get? h'.objs.size=some (PySem.W.kla_obj "<lambda>" L.qual L.params L.body L.scope (bt X.env.cells L.scope.names []) L.pm p.2 mB):=m8 _ rfl;obtain⟨of,zf⟩:=yE (L:=L) hl;have t:∀b u,H b=some u->upd H h'.objs.size (.cQ of (.ext (kM h'.objs.size L p.2 (bt X.env.cells L.scope.names [])))) b=some u:=λ b u e=>by rw[aG (bJ e nf)];exact e
  have I2:=I.laid (t':=tk) (a:=h'.objs.size) (h':=h'.push (PySem.W.kla_obj "<lambda>" L.qual L.params L.body L.scope (bt X.env.cells L.scope.names []) L.pm p.2 mB)) (λ b u e=>j4 _ (hx b u e)) hsz (o:=.cQ of (.ext (kM h'.objs.size L p.2 (bt X.env.cells L.scope.names [])))) zf;obtain⟨oc,zc⟩:=Fg p hp;exact⟨.ref h'.objs.size,_,I2,rfl,k _ p.2 _ nf (Xc hsz) (λ b u _ e=>t b u e) ⟨cs,t _ _ hP,λ p hp=>let⟨o,z⟩:=Fg p hp;⟨o,t _ _ z⟩⟩ ⟨oc,t _ _ zc⟩ ⟨of,aP⟩⟩
end
end L2
namespace L3
open PySem PySem.Spec L2
inductive D where
 |bx|bl (b:Bool)|int (i:Int)|str (x:Str)|ty (n:String)|ref (a:Addr)
 |tup (xs:List D)
 |fl (xs:List D)
def GI(K:J8)(H:Hp)(p:Addr)(xs:List V):Prop:=
 (∃o,H p=some (.cQ o (.lst xs)))\/∃(o:Obj) (ax:Array Value) (n:Nat),K.lookup p=some o/\o.cls=.type "list"/\o.dict=none/\o.data=.seq ax n/\ax.size<=sizeLine/\Vals xs ax.toList
theorem GI.sq {K:J8}{H:Hp}{p:Addr}{xs:List V}(h:GI K H p xs):eW K H p xs:=by
 rcases h with h|h
 ·exact .inl (.inr h)
 ·exact .inr h
mutual
def Dat(K:J8)(H:Hp):D->V->Prop
 | .bx,v=>v=.bx
 | .bl b,v=>v=.bl b
 | .int i,v=>v=.int i
 | .str x,v=>v=.str x
 | .ty n,v=>v=.ty n
 | .ref a,v=>v=.ref a
 | .tup ds,v=>∃p xs,v=.ref p/\fJ K H p xs/\aA K H ds xs
 | .fl ds,v=>∃p xs,v=.ref p/\GI K H p xs/\aA K H ds xs
def aA(K:J8)(H:Hp):List D->List V->Prop
 |[],xs=>xs=[]
 |d::ds,xs=>∃x r,xs=x::r/\Dat K H d x/\aA K H ds r
end
structure ar(H H':Hp):Prop where
 tup:∀b xs,H b=some (.tup xs)->H' b=some (.tup xs)
 cQ:∀b o u,H b=some (.cQ o u)->H' b=some (.cQ o u)
theorem ar.refl (H:Hp):ar H H:=⟨λ _ _ h=>h,λ _ _ _ h=>h⟩
theorem ar.trans {H H1 H2:Hp}(a:ar H H1)(b:ar H1 H2):ar H H2:=⟨λ c xs h=>b.tup c xs (a.tup c xs h),λ c o u h=>b.cQ c o u (a.cQ c o u h)⟩
theorem ar.laid {H:Hp}{p:Addr}{o:HO}(h:H p=none):ar H (upd H p o):=
 ⟨λ b xs e=>by rw[aG (bJ e h)];exact e,λ b ob u e=>by rw[aG (bJ e h)];exact e⟩
theorem ar.lst {H:Hp}{p:Addr}{xs:List V}{o:HO}(h:H p=some (.lst xs)):ar H (upd H p o):=
 ⟨λ b ys e=>by rw[aG (bM e h (by intro z;cases z))];exact e,λ b ob u e=>by rw[aG (bM e h (by intro z;cases z))];exact e⟩
theorem ar.mut {H:Hp}{p:Addr}{u o:HO}(h:H p=some u)(n1:∀xs,u≠.tup xs)(n2:∀ob w,u≠.cQ ob w):ar H (upd H p o):=
 ⟨λ b ys e=>by rw[aG (λ z=>by subst z;rw[h]at e;exact n1 ys (A9 e))];exact e,λ b ob w e=>by rw[aG (λ z=>by subst z;rw[h]at e;exact n2 ob w (A9 e))];exact e⟩
structure BC(H H':Hp):Prop where
 tup:∀b xs,H b=some (.tup xs)->H' b=some (.tup xs)
 ft:∀b o xs,H b=some (.cQ o (.tup xs))->H' b=some (.cQ o (.tup xs))
 fl:∀b o xs,H b=some (.cQ o (.lst xs))->H' b=some (.cQ o (.lst xs))
theorem ar.sub {H H':Hp}(t:ar H H'):BC H H':=⟨t.tup,λ b o _=>t.cQ b o _,λ b o _=>t.cQ b o _⟩
theorem xO{K:J8}{H H':Hp}(t:BC H H'){p:Addr}{xs:List V}(h:fJ K H p xs):fJ K H' p xs:=by
 rcases h with(h|⟨o,h⟩)|h
 ·exact .inl (.inl (t.tup _ _ h))
 ·exact .inl (.inr ⟨o,t.ft _ _ _ h⟩)
 ·exact .inr h
theorem yY{K:J8}{H H':Hp}(t:BC H H'){p:Addr}{xs:List V}(h:GI K H p xs):GI K H' p xs:=by
 rcases h with⟨o,h⟩|h
 ·exact .inl ⟨o,t.fl _ _ _ h⟩
 ·exact .inr h
theorem Ck{K:J8}{H H':Hp}(t:ar H H'){p:Addr}{xs:List V}(h:fJ K H p xs):fJ K H' p xs:=xO t.sub h
theorem Ft{K:J8}{H H':Hp}(t:ar H H'){p:Addr}{xs:List V}(h:GI K H p xs):GI K H' p xs:=yY t.sub h
mutual
theorem Dat.mon {K:J8}{H H':Hp}(t:BC H H'):∀(d:D) {v:V},Dat K H d v->Dat K H' d v
 | .bx,v,h=>by unfold Dat at h ⊢;exact h
 | .bl b,v,h=>by unfold Dat at h ⊢;exact h
 | .int i,v,h=>by unfold Dat at h ⊢;exact h
 | .str x,v,h=>by unfold Dat at h ⊢;exact h
 | .ty n,v,h=>by unfold Dat at h ⊢;exact h
 | .ref a,v,h=>by unfold Dat at h ⊢;exact h
 | .tup ds,v,h=>by unfold Dat at h ⊢;obtain⟨p,xs,e,q,r⟩:=h;exact⟨p,xs,e,xO t q,aA.mon t ds r⟩
 | .fl ds,v,h=>by unfold Dat at h ⊢;obtain⟨p,xs,e,q,r⟩:=h;exact⟨p,xs,e,yY t q,aA.mon t ds r⟩
theorem aA.mon {K:J8}{H H':Hp}(t:BC H H'):∀(ds:List D) {xs:List V},aA K H ds xs->aA K H' ds xs
 |[],xs,h=>by unfold aA at h ⊢;exact h
 |d::ds,xs,h=>by unfold aA at h ⊢;obtain⟨x,r,e,a,b⟩:=h;exact⟨x,r,e,Dat.mon t d a,aA.mon t ds b⟩
end
theorem Dat.mono {K:J8}{H H':Hp}(t:ar H H')(d:D){v:V}(h:Dat K H d v):Dat K H' d v:=Dat.mon t.sub d h
theorem aA.mono {K:J8}{H H':Hp}(t:ar H H')(ds:List D){xs:List V}(h:aA K H ds xs):aA K H' ds xs:=aA.mon t.sub ds h
section
variable {K:J8}{H:Hp}
theorem dA{v:V}:Dat K H .bx v↔v=.bx:=by unfold Dat;exact Iff.rfl
theorem aY{b:Bool}{v:V}:Dat K H (.bl b) v↔v=.bl b:=by unfold Dat;exact Iff.rfl
theorem au{i:Int}{v:V}:Dat K H (.int i) v↔v=.int i:=by unfold Dat;exact Iff.rfl
theorem aX{x:Str}{v:V}:Dat K H (.str x) v↔v=.str x:=by unfold Dat;exact Iff.rfl
theorem wZ{n:String}{v:V}:Dat K H (.ty n) v↔v=.ty n:=by unfold Dat;exact Iff.rfl
theorem aE{a:Addr}{v:V}:Dat K H (.ref a) v↔v=.ref a:=by unfold Dat;exact Iff.rfl
theorem aU{ds:List D}{v:V}:Dat K H (.tup ds) v↔∃p xs,v=.ref p/\fJ K H p xs/\aA K H ds xs:=by rw[Dat]
theorem jc{ds:List D}{v:V}:Dat K H (.fl ds) v↔∃p xs,v=.ref p/\GI K H p xs/\aA K H ds xs:=by rw[Dat]
theorem ao{xs:List V}:aA K H [] xs↔xs=[]:=by unfold aA;exact Iff.rfl
theorem ag{d:D}{ds:List D}{xs:List V}:aA K H (d::ds) xs↔∃x r,xs=x::r/\Dat K H d x/\aA K H ds r:=by rw[aA]
theorem aA.length:∀{ds:List D} {xs:List V},aA K H ds xs->xs.length=ds.length
 |[],xs,h=>by rw[ao]at h;subst h;rfl
 |d::ds,xs,h=>by rw[ag]at h;obtain⟨x,r,rfl,_,q⟩:=h;rw[y3,y3,q.length]
theorem aA.get:∀{ds:List D} {xs:List V} {i:Nat} {d:D},aA K H ds xs->ds[i]?=some d->∃x,xs[i]?=some x/\Dat K H d x
 |[],xs,i,d,h,e=>by simp at e
 |d0::ds,xs,i,d,h,e=>by
  rw[ag]at h;obtain⟨x,r,rfl,a,q⟩:=h;cases i with
  |zero=>simp at e;subst e;exact⟨x,rfl,a⟩
  |succ i=>obtain⟨y,h1,h2⟩:=aA.get q (by simpa using e);exact⟨y,by simpa using h1,h2⟩
theorem aA.Fs:∀{ds:List D} {xs:List V} {i:Nat} {x:V},aA K H ds xs->xs[i]?=some x->∃d,ds[i]?=some d/\Dat K H d x
 |[],xs,i,x,h,e=>by rw[ao]at h;subst h;simp at e
 |d0::ds,xs,i,x,h,e=>by
  rw[ag]at h;obtain⟨y,r,rfl,a,q⟩:=h;cases i with
  |zero=>simp at e;subst e;exact⟨d0,rfl,a⟩
  |succ i=>obtain⟨d,h1,h2⟩:=aA.Fs q (by simpa using e);exact⟨d,by simpa using h1,h2⟩
theorem aA.append:∀{ds es:List D} {xs ys:List V},aA K H ds xs->aA K H es ys->aA K H (ds++es) (xs++ys)
 |[],es,xs,ys,h,q=>by rw[ao]at h;subst h;exact q
 |d::ds,es,xs,ys,h,q=>by rw[ag]at h;obtain⟨x,r,rfl,a,b⟩:=h;rw[A1,A1,ag];exact⟨x,_,rfl,a,b.append q⟩
theorem aA.one {d:D}{v:V}(h:Dat K H d v):aA K H [d] [v]:=by rw[ag];exact⟨v,[],rfl,h,by rw[ao]⟩
theorem aA.take:∀{ds:List D} {xs:List V} (n:Nat),aA K H ds xs->aA K H (ds.take n) (xs.take n)
 |ds,xs,0,h=>by simp[ao]
 |[],xs,n+1,h=>by rw[ao]at h;subst h;simp[ao]
 |d::ds,xs,n+1,h=>by rw[ag]at h;obtain⟨x,r,rfl,a,b⟩:=h;rw[take_succ_cons,take_succ_cons,ag];exact⟨x,_,rfl,a,b.take n⟩
theorem aA.drop:∀{ds:List D} {xs:List V} (n:Nat),aA K H ds xs->aA K H (ds.drop n) (xs.drop n)
 |ds,xs,0,h=>h
 |[],xs,n+1,h=>by rw[ao]at h;subst h;simp[ao]
 |d::ds,xs,n+1,h=>by rw[ag]at h;obtain⟨x,r,rfl,a,b⟩:=h;exact b.drop n
theorem aA.set {d:D}{x:V}(hd:Dat K H d x):∀{ds:List D} {xs:List V} (n:Nat),aA K H ds xs->aA K H (ds.set n d) (xs.set n x)
 |[],xs,n,h=>by rw[ao]at h;subst h;simp[ao]
 |d0::ds,xs,0,h=>by rw[ag]at h;obtain⟨y,r,rfl,a,b⟩:=h;rw[set_cons_zero,set_cons_zero,ag];exact⟨x,_,rfl,hd,b⟩
 |d0::ds,xs,n+1,h=>by rw[ag]at h;obtain⟨y,r,rfl,a,b⟩:=h;rw[set_cons_succ,set_cons_succ,ag];exact⟨y,_,rfl,a,b.set hd n⟩
theorem iB:∀(ns:List Int),aA K H (ns.map D.int) (ns.map V.int)
 |[]=>by simp[ao]
 |n::ns=>by rw[C9,C9,ag];exact⟨_,_,rfl,au.mpr rfl,iB ns⟩
theorem uN:∀{bs:List Bool} {xs:List V},aA K H (bs.map D.bl) xs->xs=bs.map V.bl
 |[],xs,h=>by rw[map_nil,ao]at h;exact h
 |b::bs,xs,h=>by rw[C9,ag]at h;obtain⟨x,r,rfl,a,q⟩:=h;rw[aY]at a;rw[a,uN q];rfl
end
def iW:Key->D
 | .inl i=>.int i
 | .inr x=>.str x
mutual
def oK:IK->D
 | .i n=>.int n
 | .t ks=>.tup (oZ ks)
def oZ:List IK->List D
 |[]=>[]
 |k::ks=>oK k::oZ ks
end
mutual
theorem kW{K:J8}{H:Hp}:∀(k:IK) {v:V},Dat K H (oK k) v->fG K H k v
 | .i n,v,h=>by unfold oK at h;unfold fG;exact .inl (au.mp h)
 | .t ks,v,h=>by unfold oK at h;obtain⟨p,xs,rfl,hq,hx⟩:=aU.mp h;unfold fG;exact⟨p,xs,rfl,hq,uM ks hx⟩
theorem uM{K:J8}{H:Hp}:∀(ks:List IK) {xs:List V},aA K H (oZ ks) xs->gO K H ks xs
 |[],xs,h=>by unfold oZ at h;unfold gO;exact ao.mp h
 |k::ks,xs,h=>by unfold oZ at h;obtain⟨x,r,rfl,h1,h2⟩:=ag.mp h;unfold gO;exact⟨x,r,rfl,kW k h1,uM ks h2⟩
end
mutual
theorem rP:∀{a b:IK},oK a=oK b->a=b
 | .i n,.i m,h=>by unfold oK at h;cases h;rfl
 | .i n,.t ks,h=>by unfold oK at h;cases h
 | .t ks,.i n,h=>by unfold oK at h;cases h
 | .t ks,.t ls,h=>by unfold oK at h;rw[uB (D.tup.inj h)]
theorem uB:∀{as bs:List IK},oZ as=oZ bs->as=bs
 |[],[],_=>rfl
 |[],b::bs,h=>by unfold oZ at h;cases h
 |a::as,[],h=>by unfold oZ at h;cases h
 |a::as,b::bs,h=>by
  unfold oZ at h;injection h with h1 h2
  rw[rP h1,uB h2]
end
theorem uk{a b:Key}(h:iW a=iW b):a=b:=by
 cases a with
 |inl i=>cases b with
  |inl j=>have e:D.int i=D.int j:=h;cases e;rfl
  |inr y=>have e:D.int i=D.str y:=h;cases e
 |inr x=>cases b with
  |inl j=>have e:D.str x=D.int j:=h;cases e
  |inr y=>have e:D.str x=D.str y:=h;cases e;rfl
theorem mx{K:J8}{H:Hp}{k:Key}{v:V}(h:Dat K H (iW k) v):v=kV k:=by
 cases k with
 |inl i=>exact au.mp h
 |inr x=>exact aX.mp h
inductive XM where
 |lam (L:lB) (cl:List (Str×Addr))|zC (d:D)|lT (q:Str)
  |Tu (kvs:List (List Bool×D))
inductive MO where
 |lst (ds:List D)
 |fm (x:XM)
  |cL (t:Bool) (kvs:List (D×D))
abbrev Gq(K:J8)(H:Hp):List (D×D)->List (Key×V)->Prop:=Paired λ p q=>p.1=iW q.1/\Dat K H p.2 q.2
abbrev BG(K:J8)(H:Hp):List (D×D)->List eV->Prop:=Paired λ p q=>p.1=oK q.1/\q.1.dep<=5/\Dat K H p.1 (.ref q.2.1)/\Dat K H p.2 q.2.2
def ZQ(bs:List Bool):IK:=.t (bs.map λ b=>.i (b2i b))
def ZP(bs:List Bool):D:=.tup (bs.map D.bl)
abbrev TK(K:J8)(H:Hp):List (List Bool×D)->List eV->Prop:=Paired λ p q=>q.1=ZQ p.1/\Dat K H (ZP p.1) (.ref q.2.1)/\Dat K H p.2 q.2.2
theorem TK.mono {K:J8}{H H':Hp}(t:ar H H'){kvs:List (List Bool×D)}{xs:List eV}(h:TK K H kvs xs):TK K H' kvs xs:=Paired.oX h λ p q z=>⟨z.1,Dat.mono t _ z.2.1,Dat.mono t _ z.2.2⟩
theorem Gq.mono {K:J8}{H H':Hp}(t:ar H H'){kvs:List (D×D)}{xs:List (Key×V)}(h:Gq K H kvs xs):Gq K H' kvs xs:=Paired.oX h λ p q z=>⟨z.1,Dat.mono t _ z.2⟩
theorem BG.mono {K:J8}{H H':Hp}(t:ar H H'){kvs:List (D×D)}{xs:List eV}(h:BG K H kvs xs):BG K H' kvs xs:=Paired.oX h λ p q z=>⟨z.1,z.2.1,Dat.mono t _ z.2.2.1,Dat.mono t _ z.2.2.2⟩
abbrev Mem:=Addr->Option MO
def ah(M:Mem)(a:Addr)(o:MO):Mem:=λ b=>if b=a then some o else M b
theorem af{M:Mem}{a:Addr}{o:MO}:ah M a o a=some o:=by unfold ah;rw[J6 rfl]
theorem av{M:Mem}{a b:Addr}{o:MO}(h:b≠a):ah M a o b=M b:=by unfold ah;rw[J7 h]
theorem dG{M:Mem}{a:Addr}{o u:MO}:ah (ah M a o) a u=ah M a u:=by funext b;unfold ah;split <;> rfl
def pG(K:J8)(H:Hp)(a:Addr):MO->Prop
 | .lst ds=>∃xs,H a=some (.lst xs)/\aA K H ds xs
 | .cL false kvs=>∃xs,H a=some (.dK xs)/\Gq K H kvs xs
 | .cL true kvs=>∃xs,H a=some (sP a xs)/\BG K H kvs xs
 | .fm (.lam L cl)=>∃c,(∃o,H a=some (.cQ o (.ext (kM a L c cl))))/\∃o,H c=some (.cQ o (.ext (rY c L.qual)))
 | .fm (.zC d)=>∃o v,H a=some (fX o a v)/\Dat K H d v
 | .fm (.lT q)=>Lp H a q
 | .fm (.Tu kvs)=>∃xs,H a=some (sP a xs)/\TK K H kvs xs
def RelM(K:J8)(H:Hp)(M:Mem):Prop:=∀a o,M a=some o->pG K H a o
theorem pG.there {K:J8}{H:Hp}{a:Addr}{o:MO}(h:pG K H a o):∃u,H a=some u:=by
 cases o with
 |fm x=>
  cases x with
  |lam L cl=>obtain⟨_,⟨o,h⟩,_⟩:=h;exact⟨_,h⟩
  |zC d=>obtain⟨o,v,h,_⟩:=h;exact⟨_,h⟩
  |lT q=>obtain⟨cs,h,_⟩:=h;exact⟨_,h⟩
  |Tu kvs=>obtain⟨xs,h,_⟩:=h;exact⟨_,h⟩
 |lst ds=>obtain⟨xs,h,_⟩:=h;exact⟨_,h⟩
 |cL t kvs=>
  cases t with
  |false=>obtain⟨xs,h,_⟩:=h;exact⟨_,h⟩
  |true=>obtain⟨xs,h,_⟩:=h;exact⟨_,h⟩
theorem pG.mono {K:J8}{H H':Hp}{a:Addr}{o:MO}(h:pG K H a o)(t:ar H H')(e:H' a=H a):pG K H' a o:=by
 cases o with
 |fm x=>
  cases x with
  |lam L cl=>obtain⟨c,⟨o,h⟩,o',h'⟩:=h;exact⟨c,⟨o,e.trans h⟩,o',t.cQ _ _ _ h'⟩
  |zC d=>obtain⟨o,v,h,q⟩:=h;exact⟨o,v,e.trans h,Dat.mono t d q⟩
  |lT q=>exact Lp.grow h t.cQ e
  |Tu kvs=>obtain⟨xs,h,q⟩:=h;exact⟨xs,e.trans h,q.mono t⟩
 |lst ds=>obtain⟨xs,h,q⟩:=h;exact⟨xs,e.trans h,aA.mono t ds q⟩
 |cL b kvs=>
  cases b with
  |false=>obtain⟨xs,h,q⟩:=h;exact⟨xs,e.trans h,q.mono t⟩
  |true=>obtain⟨xs,h,q⟩:=h;exact⟨xs,e.trans h,q.mono t⟩
theorem RelM.free {K:J8}{H:Hp}{M:Mem}(h:RelM K H M){p:Addr}(n:H p=none):M p=none:=by
 cases e:M p with
 |none=>rfl
 |some o=>obtain⟨u,q⟩:=(h p o e).there;rw[n]at q;cases q
theorem RelM.laid {K:J8}{H:Hp}{M:Mem}(h:RelM K H M){p:Addr}{o:HO}(n:H p=none):RelM K (upd H p o) M:=λ a u e=>by obtain⟨w,q⟩:=(h a u e).there;exact(h a u e).mono (ar.laid n) (aG (bJ q n))
theorem RelM.put {K:J8}{H:Hp}{M:Mem}(h:RelM K H M){p:Addr}{o:HO}{u:MO}(t:ar H (upd H p o))(new:pG K (upd H p o) p u):RelM K (upd H p o) (ah M p u):=λ a w e=>by
 by_cases ha:a=p
 ·subst ha;rw[af]at e;cases e;exact new
 ·rw[av ha]at e;exact(h a w e).mono t (aG ha)
def pF(M M':Mem):Prop:=∀a o,M a=some o->M' a=some o
theorem pF.refl (M:Mem):pF M M:=λ _ _ h=>h
theorem pF.put {M M':Mem}{p:Addr}{o:MO}(h:pF M M')(n:M p=none):pF M (ah M' p o):=λ a u e=>by rw[av (λ z=>by subst z;rw[n]at e;cases e)];exact h a u e
theorem RelM.sub {K:J8}{H:Hp}{M M':Mem}(h:RelM K H M')(s:pF M M'):RelM K H M:=λ a o e=>h a o (s a o e)
abbrev cS:=List (Option D)
structure cJ(K:J8)(H:Hp)(δ:cS)(σ:St):Prop where
 len:δ.length=σ.length
 get:∀(i:Nat) (d:D),δ[i]?=some (some d)->∃v,σ[i]?=some (some v)/\Dat K H d v
theorem cJ.mono {K:J8}{H H':Hp}{δ:cS}{σ:St}(h:cJ K H δ σ)(t:ar H H'):cJ K H' δ σ:=
 ⟨h.len,λ i d e=>let⟨v,q,r⟩:=h.get i d e;⟨v,q,Dat.mono t d r⟩⟩
theorem cJ.set {K:J8}{H:Hp}{δ:cS}{σ:St}(h:cJ K H δ σ){i:Nat}{d:D}{v:V}(r:Dat K H d v):cJ K H (δ.set i (some d)) (σ.set i (some v)):=by
 refine⟨by rw[length_set,length_set];exact h.len,λ j e hj=>?_⟩;by_cases yU:i=j
 ·subst yU;have hi:i < δ.length:=by have:=(g9.mp hj).1;simpa using this
  rw[j6 hi]at hj;cases hj;exact⟨v,by rw[j6 (by rw[<- h.len];exact hi)],r⟩
 ·rw[l6 yU]at hj;obtain⟨u,q,w⟩:=h.get j e hj;exact⟨u,by rw[l6 yU];exact q,w⟩
abbrev bK:=D->Mem->Prop
abbrev cu:=cS->Mem->bK->Prop
abbrev fz:=cS->Mem->(Bool->Mem->Prop)->Prop
abbrev eO:=cS->Mem->(List D->Mem->Prop)->Prop
structure iP where
 nx:cS->Mem->Prop
 rt:bK
 bk:cS->Mem->Prop:=λ _ _=>False
 ct:cS->Mem->Prop:=λ _ _=>False
abbrev jY:=iP->cS->Mem->Prop
def iL(K:J8)(H:Hp)(Q2:bK)(Q:VK):Prop:=∀v H' d M',Dat K H' d v->RelM K H' M'->ar H H'->Q2 d M'->Q v H'
def vm(K:J8)(H:Hp)(Q2:Bool->Mem->Prop)(Q:Bool->Hp->Prop):Prop:=∀b H' M',RelM K H' M'->ar H H'->Q2 b M'->Q b H'
def So(K:J8)(H:Hp)(Q2:List D->Mem->Prop)(Q:List V->Hp->Prop):Prop:=∀vs H' ds M',aA K H' ds vs->RelM K H' M'->ar H H'->Q2 ds M'->Q vs H'
def lD(K:J8)(H:Hp)(N2:cS->Mem->Prop)(N:St->Hp->Prop):Prop:=∀σ' H' δ' M',cJ K H' δ' σ'->RelM K H' M'->ar H H'->N2 δ' M'->N σ' H'
structure zM(K:J8)(H:Hp)(D2:iP)(E:Ends):Prop where
 nx:lD K H D2.nx E.nx
 rt:iL K H D2.rt E.rt
 bk:lD K H D2.bk E.bk
 ct:lD K H D2.ct E.ct
theorem iL.mono {K:J8}{H H1:Hp}{Q2:bK}{Q:VK}(c:iL K H Q2 Q)(t:ar H H1):iL K H1 Q2 Q:=λ v H' d M' a b e q=>c v H' d M' a b (t.trans e) q
theorem vm.mono {K:J8}{H H1:Hp}{Q2:Bool->Mem->Prop}{Q:Bool->Hp->Prop}(c:vm K H Q2 Q)(t:ar H H1):vm K H1 Q2 Q:=λ v H' M' b e q=>c v H' M' b (t.trans e) q
theorem lD.mono {K:J8}{H H1:Hp}{N2:cS->Mem->Prop}{N:St->Hp->Prop}(c:lD K H N2 N)(t:ar H H1):lD K H1 N2 N:=λ v H' d M' a b e q=>c v H' d M' a b (t.trans e) q
theorem zM.mono {K:J8}{H H1:Hp}{D2:iP}{E:Ends}(c:zM K H D2 E)(t:ar H H1):zM K H1 D2 E:=⟨c.nx.mono t,c.rt.mono t,c.bk.mono t,c.ct.mono t⟩
def up(K:J8)(t:cu):TE:=λ σ H Q=>∃δ M Q2,cJ K H δ σ/\RelM K H M/\t δ M Q2/\iL K H Q2 Q
def Gu(K:J8)(t:fz):TT:=λ σ H Q=>∃δ M Q2,cJ K H δ σ/\RelM K H M/\t δ M Q2/\vm K H Q2 Q
def V_(K:J8)(t:eO):TA:=λ σ H Q=>∃δ M Q2,cJ K H δ σ/\RelM K H M/\t δ M Q2/\So K H Q2 Q
def TL(K:J8)(t:jY):TS:=λ E σ H=>∃δ M D2,cJ K H δ σ/\RelM K H M/\t D2 δ M/\zM K H D2 E
abbrev QE(X:Cx)(e:Expr)(t:cu):Prop:=PE X e (up X.K t)
abbrev QT(X:Cx)(e:Expr)(t:fz):Prop:=PT X e (Gu X.K t)
abbrev QW(X:Cx)(e:Expr)(t:fz):Prop:=PW X e (Gu X.K t)
abbrev QA(X:Cx)(es:List Expr)(t:eO):Prop:=PA X es (V_ X.K t)
abbrev QS(X:Cx)(st:Stmt)(t:jY):Prop:=PS X st (TL X.K t)
abbrev GH(X:Cx)(aO:List Stmt)(t:jY):Prop:=vj X aO (TL X.K t)
theorem bS{X:Cx}{e:Expr}{t t':TE}(h:PE X e t)(k:∀σ H Q,t' σ H Q->t σ H Q):PE X e t':=λ pins s σ H Q I q=>h pins s σ H Q I (k σ H Q q)
theorem DB{X:Cx}{e:Expr}{t t':TT}(h:PT X e t)(k:∀σ H Q,t' σ H Q->t σ H Q):PT X e t':=λ pins s σ H Q I q=>h pins s σ H Q I (k σ H Q q)
theorem KR{X:Cx}{e:Expr}{t t':TT}(h:PW X e t)(k:∀σ H Q,t' σ H Q->t σ H Q):PW X e t':=λ wh pins s σ H Q I q=>h wh pins s σ H Q I (k σ H Q q)
theorem KS{X:Cx}{es:List Expr}{t t':TA}(h:PA X es t)(k:∀σ H Q,t' σ H Q->t σ H Q):PA X es t':=λ pos pins s σ H Q I q=>h pos pins s σ H Q I (k σ H Q q)
theorem jE{X:Cx}{st:Stmt}{t t':TS}(h:PS X st t)(k:∀E σ H,t' E σ H->t E σ H):PS X st t':=λ pins s σ H E I q=>h pins s σ H E I (k E σ H q)
theorem DD{X:Cx}{aO:List Stmt}{t t':TS}(h:vj X aO t)(k:∀E σ H,t' E σ H->t E σ H):vj X aO t':=λ pins s σ H E I q=>h pins s σ H E I (k E σ H q)
end L3
namespace L3
open PySem PySem.Spec L2
abbrev fZ:=D->D->Mem->bK->Prop
def OY(K:J8)(r:R2)(r2:fZ):Prop:=∀x y d e H M Q2 Q,Dat K H d x->Dat K H e y->RelM K H M->r2 d e M Q2->iL K H Q2 Q->r x y H Q
def VY(K:J8)(r:V->Hp->VK->Prop)(r2:D->Mem->bK->Prop):Prop:=∀x d H M Q2 Q,Dat K H d x->RelM K H M->r2 d M Q2->iL K H Q2 Q->r x H Q
def OZ(K:J8)(r:List V->Hp->VK->Prop)(r2:List D->Mem->bK->Prop):Prop:=∀xs ds H M Q2 Q,aA K H ds xs->RelM K H M->r2 ds M Q2->iL K H Q2 Q->r xs H Q
def VZ(K:J8)(r:V->List V->Hp->VK->Prop)(r2:D->List D->Mem->bK->Prop):Prop:=∀x xs d ds H M Q2 Q,Dat K H d x->aA K H ds xs->RelM K H M->r2 d ds M Q2->iL K H Q2 Q->r x xs H Q
def Sd(K:J8)(r:V->Option Int->Option Int->Hp->VK->Prop)(r2:D->Option Int->Option Int->Mem->bK->Prop):Prop:=∀x d lo hi H M Q2 Q,Dat K H d x->RelM K H M->r2 d lo hi M Q2->iL K H Q2 Q->r x lo hi H Q
def fM(X:Cx)(f:Value->Value->Sem Value)(r2:fZ):Prop:=∃r,fK X f r/\OY X.K r r2
def VW(X:Cx)(f:Value->Sem Value)(r2:D->Mem->bK->Prop):Prop:=∃r,Tw X f r/\VY X.K r r2
def Si(X:Cx)(r2:fZ):Prop:=∃r,xw X r/\OY X.K r r2
def Se(X:Cx)(r2:D->Option Int->Option Int->Mem->bK->Prop):Prop:=∃r,zI X r/\Sd X.K r r2
def dE(X:Cx)(f:Value)(r2:List D->Mem->bK->Prop):Prop:=∃r,di X f r/\OZ X.K r r2
def Ls(X:Cx)(id:String)(r2:D->List D->Mem->bK->Prop):Prop:=∃r,V2 X id r/\VZ X.K r r2
section
variable {X:Cx}{a b c e:Expr}{ta tb tc:cu}{pos:Pos}
def fF(i:Nat):cu:=λ δ M Q=>match δ[i]? with
 |some (some d)=>Q d M
 |_=>False
def sC(d:D):cu:=λ _ M Q=>Q d M
theorem XU(i:Nat){x:Str}(hN:X.N[i]?=some x:=by rfl)(hv:Lo X.env.scope x:=by first|exact Or.inl rfl|exact Or.inr (Or.inl rfl)|exact Or.inr (Or.inr rfl))(hd:(x==("__debug__":Str))=false:=by decide) (hcd:(x==("__classdict__":Str))=false:=by decide):QE X (.Name x pos) (fF i):=bS (DL hN hv hd hcd) λ σ H Q ⟨δ,M,Q2,hs,hm,q,k⟩=>by
 unfold fF at q;cases e:δ[i]? with
 |none=>rw[e]at q;exact q.elim
 |some o=>
  cases o with
  |none=>rw[e]at q;exact q.elim
  |some d=>rw[e]at q;obtain⟨v,h1,h2⟩:=hs.get i d e;exact⟨v,h1,k v H d M h2 hm (ar.refl H) q⟩
theorem QD{i j}:QE X (.Constant (.int i) j pos) (sC (.int i)):=bS Nl λ σ H Q ⟨δ,M,Q2,hs,hm,q,k⟩=>k _ H (.int i) M (au.mpr rfl) hm (ar.refl H) q
theorem Uv{i j}:QE X (.Constant (.bool i) j pos) (sC (.bl i)):=bS QY λ σ H Q ⟨δ,M,Q2,hs,hm,q,k⟩=>k _ H (.bl i) M (aY.mpr rfl) hm (ar.refl H) q
theorem Qw{i j}:QE X (.Constant (.str i) j pos) (sC (.str i)):=bS Ng λ σ H Q ⟨δ,M,Q2,hs,hm,q,k⟩=>k _ H (.str i) M (aX.mpr rfl) hm (ar.refl H) q
theorem Qy{j}:QE X (.Constant .none j pos) (sC .bx):=bS Ni λ σ H Q ⟨δ,M,Q2,hs,hm,q,k⟩=>k _ H .bx M (dA.mpr rfl) hm (ar.refl H) q
theorem Ur{x:Str}{n:String}(hg:Gl X x)(hm:X.mg x=none)(hv:bootBuiltins x=some (.type n))(hn:x≠"__name__":=by decide)(hd:(x==("__debug__":Str))=false:=by decide):QE X (.Name x pos) (sC (.ty n)):=
 bS (IP (v:=.ty n) hg hm hv rfl hn hd) λ σ H Q ⟨δ,M,Q2,hs,hm,q,k⟩=>k _ H (.ty n) M (wZ.mpr rfl) hm (ar.refl H) q
def Ar(r2:fZ)(ta tb:cu):cu:=λ δ M Q=>ta δ M λ d M1=>tb δ M1 λ e M2=>r2 d e M2 Q
theorem md{K:J8}{r:R2}{r2:fZ}(hr:OY K r r2):∀σ H Q,up K (Ar r2 ta tb) σ H Q->PU r (up K ta) (up K tb) σ H Q:=by rintro σ H Q ⟨δ,M,Q2,hs,hm,q,k⟩;refine⟨δ,M,_,hs,hm,q,λ x H1 d M1 hd bQ t1 q1=>?_⟩;refine⟨δ,M1,_,hs.mono t1,bQ,q1,λ y H2 e M2 he oN t2 q2=>?_⟩;exact hr x y d e H2 M2 Q2 Q (Dat.mono t2 d hd) he oN q2 (k.mono (t1.trans t2))
theorem Us{op:Operator}{r2:fZ}(o:fM X (binaryOp op) r2)(ha:QE X a ta)(hb:QE X b tb):QE X (.BinOp a op b pos) (Ar r2 ta tb):=by obtain⟨r,ho,hr⟩:=o;exact bS (QU ho ha hb) (md hr)
def Ub(r2:D->Mem->bK->Prop)(ta:cu):cu:=λ δ M Q=>ta δ M λ d M1=>r2 d M1 Q
theorem Uq{op:UnaryOp}{r2:D->Mem->bK->Prop}(o:VW X (unaryOp op) r2)(ha:QE X a ta):QE X (.UnaryOp op a pos) (Ub r2 ta):=by obtain⟨r,ho,hr⟩:=o;refine bS (QR ho ha) ?_;rintro σ H Q ⟨δ,M,Q2,hs,hm,q,k⟩;exact⟨δ,M,_,hs,hm,q,λ x H1 d M1 hd bQ t1 q1=>hr x d H1 M1 Q2 Q hd bQ q1 (k.mono t1)⟩
theorem QH{op:CmpOp}{r2:fZ}(o:fM X (compareOp op) r2)(ha:QE X a ta)(hb:QE X b tb)(hm:behindInMarks op b=false):QE X (.Compare a [op] [b] pos) (Ar r2 ta tb):=by obtain⟨r,ho,hr⟩:=o;exact bS (IL ho ha hb hm) (md hr)
def lh(t:cu):fz:=λ δ M Q=>t δ M λ d M1=>match d with
 | .bl k=>Q k M1
 |_=>False
theorem pQ{K:J8}{H:Hp}{Q2:Bool->Mem->Prop}{Q:Bool->Hp->Prop}(k:vm K H Q2 Q):iL K H (λ d M1=>match d with| .bl k=>Q2 k M1|_=>False) (λ x H'=>∃k,x=.bl k/\Q k H'):=λ v H' d M' hd hm t q=>by
 cases d with
 |bl b=>exact⟨b,aY.mp hd,k b H' M' hm t q⟩
 |_=>exact q.elim
theorem MB{op:CmpOp}{r2:fZ}(o:fM X (compareOp op) r2)(ha:QE X a ta)(hb:QE X b tb)(hm:behindInMarks op b=false):QT X (.Compare a [op] [b] pos) (lh (Ar r2 ta tb)):=by obtain⟨r,ho,hr⟩:=o;refine DB (Iv ho ha hb hm) ?_;rintro σ H Q ⟨δ,M,Q2,hs,hm,q,k⟩;exact md hr σ H _ ⟨δ,M,_,hs,hm,q,pQ k⟩
theorem Mz(h:QE X e ta)(he:∀whole,isTrue e X.env whole=(do let v <- whole;standAt e.pos;holding [v] (truthy v)):=by intro _;rfl):QT X e (lh ta):=by refine DB (MU h he) ?_;rintro σ H Q ⟨δ,M,Q2,hs,hm,q,k⟩;exact⟨δ,M,_,hs,hm,q,pQ k⟩
variable {tA tB:fz}{rest:List Expr}
def L6(t u:fz):fz:=λ δ M Q=>t δ M λ c M1=>if c=true then u δ M1 Q else Q false M1
def SW(t u:fz):fz:=λ δ M Q=>t δ M λ c M1=>if c=true then Q true M1 else u δ M1 Q
def LU(t:fz):fz:=λ δ M Q=>t δ M λ c M1=>Q (!c) M1
theorem HV(ha:QT X a tA):QW X (.BoolOp .And [a] pos) tA:=Ir ha
theorem Mx(ha:QT X a tA):QW X (.BoolOp .Or [a] pos) tA:=MR ha
theorem My(ha:QT X a tA)(hb:QW X (.BoolOp .And (b::rest) pos) tB):QW X (.BoolOp .And (a::b::rest) pos) (L6 tA tB):=KR (MT ha hb) λ σ H Q ⟨δ,M,Q2,hs,hm,q,k⟩=>by
 refine⟨δ,M,_,hs,hm,q,λ c H1 M1 bQ t1 q1=>?_⟩;cases c with
 |true=>rw[J6 rfl]at q1 ⊢;exact⟨δ,M1,Q2,hs.mono t1,bQ,q1,k.mono t1⟩
 |false=>rw[J7 n9]at q1 ⊢;exact k _ _ _ bQ t1 q1
theorem Qt(ha:QT X a tA)(hb:QW X (.BoolOp .Or (b::rest) pos) tB):QW X (.BoolOp .Or (a::b::rest) pos) (SW tA tB):=KR (QM ha hb) λ σ H Q ⟨δ,M,Q2,hs,hm,q,k⟩=>by
 refine⟨δ,M,_,hs,hm,q,λ c H1 M1 bQ t1 q1=>?_⟩;cases c with
 |true=>rw[J6 rfl]at q1 ⊢;exact k _ _ _ bQ t1 q1
 |false=>rw[J7 n9]at q1 ⊢;exact⟨δ,M1,Q2,hs.mono t1,bQ,q1,k.mono t1⟩
theorem MA(ha:QT X a tA):QT X (.UnaryOp .Not a pos) (LU tA):=DB (MV ha) λ σ H Q ⟨δ,M,Q2,hs,hm,q,k⟩=>⟨δ,M,_,hs,hm,q,λ c H1 M1 bQ t1 q1=>k _ _ _ bQ t1 q1⟩
def CO(ta tb:cu):cu:=λ δ M Q=>ta δ M λ d M1=>match d with
 | .bl c=>if c=true then tb δ M1 Q else Q (.bl false) M1
 |_=>False
theorem Qx{op}(h:QE X a ta):QE X (.BoolOp op [a] pos) ta:=Nh h
theorem QK(ha:QE X a ta)(hb:QE X (.BoolOp .And (b::rest) pos) tb):QE X (.BoolOp .And (a::b::rest) pos) (CO ta tb):=bS (Np ha hb) λ σ H Q ⟨δ,M,Q2,hs,hm,q,k⟩=>by
 refine⟨δ,M,_,hs,hm,q,λ x H1 d M1 hd bQ t1 q1=>?_⟩;cases d with
 |bl c=>
  refine⟨c,aY.mp hd,?_⟩;have q1:if c=true then tb δ M1 Q2 else Q2 (.bl false) M1:=q1
  cases c with
  |true=>rw[J6 rfl]at q1 ⊢;exact⟨δ,M1,Q2,hs.mono t1,bQ,q1,k.mono t1⟩
  |false=>rw[J7 n9]at q1 ⊢;exact k _ _ _ _ (aY.mpr rfl) bQ t1 q1
 |_=>exact q1.elim
variable {es:List Expr}{t:eO}
def vT:eO:=λ _ M Q=>Q [] M
def nk(ta:cu)(tr:eO):eO:=λ δ M Q=>ta δ M λ d M1=>tr δ M1 λ ds M2=>Q (d::ds) M2
theorem MJ:QA X [] vT:=KS rA λ σ H Q ⟨δ,M,Q2,hs,hm,q,k⟩=>k [] H [] M (by rw[ao]) hm (ar.refl H) q
theorem Ii(ha:QE X e ta)(hr:QA X es t)(hs:starEach (e::es) X.env=(false,eval e X.env)::starEach es X.env:=by rfl):QA X (e::es) (nk ta t):=KS (ma ha hr hs) λ σ H Q ⟨δ,M,Q2,hs,hm,q,k⟩=>by refine⟨δ,M,_,hs,hm,q,λ x H1 d M1 hd bQ t1 q1=>?_⟩;refine⟨δ,M1,_,hs.mono t1,bQ,q1,λ xs H2 ds M2 JO oN t2 q2=>?_⟩;exact k (x::xs) H2 (d::ds) M2 (ag.mpr ⟨x,xs,rfl,Dat.mono t2 d hd,JO⟩) oN (t1.trans t2) q2
def LR(t:eO):cu:=λ δ M Q=>t δ M λ ds M1=>ds.length<=sizeLine/\Q (.tup ds) M1
theorem g_{K:J8}{H:Hp}{p:Addr}{xs:List V}{ds:List D}(hp:H p=none)(h:aA K H ds xs):Dat K (upd H p (.tup xs)) (.tup ds) (.ref p):=aU.mpr ⟨p,xs,rfl,fJ.of aP,aA.mono (ar.laid hp) ds h⟩
theorem Qv{x1}(h:QA X es t):QE X (.Tuple es x1 pos) (LR t):=bS (Nf h) λ σ H Q ⟨δ,M,Q2,hs,hm,q,k⟩=>by refine⟨δ,M,_,hs,hm,q,λ xs H1 ds M1 hd bQ t1 q1=>?_⟩;refine⟨by rw[hd.length];exact q1.1,λ p hp=>?_⟩;exact k _ _ (.tup ds) M1 (g_ hp hd) (bQ.laid hp) (t1.trans (ar.laid hp)) q1.2
def LV(t:eO):cu:=λ δ M Q=>t δ M λ ds M1=>ds.length<=sizeLine/\∀p,M1 p=none->Q (.ref p) (ah M1 p (.lst ds))
theorem dR{K:J8}{H:Hp}{M:Mem}{p:Addr}{xs:List V}{ds:List D}(hp:H p=none)(h:aA K H ds xs)(hm:RelM K H M):RelM K (upd H p (.lst xs)) (ah M p (.lst ds)):=
 hm.put (ar.laid hp) ⟨xs,aP,aA.mono (ar.laid hp) ds h⟩
theorem Qz(h:QA X es t):QE X (.List es pos) (LV t):=bS (Nj h) λ σ H Q ⟨δ,M,Q2,hs,hm,q,k⟩=>by refine⟨δ,M,_,hs,hm,q,λ xs H1 ds M1 hd bQ t1 q1=>?_⟩;refine⟨by rw[hd.length];exact q1.1,λ p hp=>?_⟩;exact k _ _ (.ref p) _ (aE.mpr rfl) (dR hp hd bQ) (t1.trans (ar.laid hp)) (q1.2 p (bQ.free hp))
theorem Ut{r2:fZ}(o:Si X r2)(ha:QE X a ta)(hb:QE X b tb)(hs:sA b):QE X (.Subscript a b pos) (Ar r2 ta tb):=by obtain⟨r,ho,hr⟩:=o;exact bS (QV ho ha hb hs) (md hr)
abbrev GG:=cS->Mem->(Option Int->Mem->Prop)->Prop
def Sm(K:J8)(H:Hp)(Q2:Option Int->Mem->Prop)(Q:Option Int->Hp->Prop):Prop:=∀o H' M',RelM K H' M'->ar H H'->Q2 o M'->Q o H'
def Xw(K:J8)(t:GG):TO:=λ σ H Q=>∃δ M Q2,cJ K H δ σ/\RelM K H M/\t δ M Q2/\Sm K H Q2 Q
abbrev QO(X:Cx)(e:Option Expr)(t:GG):Prop:=PO X e (Xw X.K t)
theorem DG{e:Option Expr}{t t':TO}(h:PO X e t)(k:∀σ H Q,t' σ H Q->t σ H Q):PO X e t':=λ pins s σ H Q I q=>h pins s σ H Q I (k σ H Q q)
def lV:GG:=λ _ M Q=>Q none M
def CH(t:cu):GG:=λ δ M Q=>t δ M λ d M1=>match d with
 | .int i=>Q (some i) M1
 |_=>False
theorem Ia:QO X none lV:=DG IC λ σ H Q ⟨δ,M,Q2,hs,hm,q,k⟩=>k _ _ _ hm (ar.refl H) q
theorem H_(h:QE X e ta):QO X (some e) (CH ta):=DG (IB h) λ σ H Q ⟨δ,M,Q2,hs,hm,q,k⟩=>by
 refine⟨δ,M,_,hs,hm,q,λ x H1 d M1 hd bQ t1 q1=>?_⟩;cases d with
 |int i=>exact⟨i,au.mp hd,k _ _ _ bQ t1 q1⟩
 |_=>exact q1.elim
variable {lo hi:Option Expr}{tl th:GG}{p2:Pos}
def SV(r2:D->Option Int->Option Int->Mem->bK->Prop)(te:cu)(tl th:GG):cu:=λ δ M Q=>te δ M λ d M1=>tl δ M1 λ l M2=>th δ M2 λ u M3=>r2 d l u M3 Q
theorem Ij{r2:D->Option Int->Option Int->Mem->bK->Prop}(o:Se X r2)(he:QE X e ta)(hl:QO X lo tl)(hu:QO X hi th):QE X (.Subscript e (.Slice lo hi none p2) pos) (SV r2 ta tl th):=by obtain⟨r,ho,hr⟩:=o;refine bS (DM ho he hl hu) ?_;rintro σ H Q ⟨δ,M,Q2,hs,hm,q,k⟩;refine⟨δ,M,_,hs,hm,q,λ x H1 d M1 hd bQ t1 q1=>?_⟩;refine⟨δ,M1,_,hs.mono t1,bQ,q1,λ l H2 M2 oN t2 q2=>?_⟩;refine⟨δ,M2,_,hs.mono (t1.trans t2),oN,q2,λ u H3 M3 Ol t3 q3=>?_⟩;exact hr x d l u H3 M3 Q2 Q (Dat.mono (t2.trans t3) d hd) Ol q3 (k.mono (t1.trans (t2.trans t3)))
def LZ(r2:List D->Mem->bK->Prop)(t:eO):cu:=λ δ M Q=>t δ M λ ds M1=>r2 ds M1 Q
variable {x:Str}{p:Pos}{id T:String}
theorem zD{K:J8}{r:List V->Hp->VK->Prop}{r2:List D->Mem->bK->Prop}(hr:OZ K r r2):∀σ H Q,up K (LZ r2 t) σ H Q->SE r (V_ K t) σ H Q:=by rintro σ H Q ⟨δ,M,Q2,hs,hm,q,k⟩;exact⟨δ,M,_,hs,hm,q,λ xs H1 ds M1 hd bQ t1 q1=>hr xs ds H1 M1 Q2 Q hd bQ q1 (k.mono t1)⟩
theorem Iq{r2:List D->Mem->bK->Prop}(o:dE X (.builtin id) r2)(hg:Gl X x)(hm:X.mg x=none)(hv:bootBuiltins x=some (.builtin id))(ha:QA X (e::es) t)(hn:x≠"__name__":=by decide)(hdb:(x==("__debug__":Str))=false:=by decide) (he:starEach (e::es) X.env=(false,eval e X.env)::starEach es X.env:=by rfl) (hpl:(backTo pos (starEach es X.env)).any (·.1)=false:=by rfl):QE X (.Call (.Name x p) (e::es) [] pos) (LZ r2 t):=by obtain⟨r,ho,hr⟩:=o;exact bS (tX ho hg hm hv ha hn hdb he hpl) (zD hr)
theorem Im{r2:List D->Mem->bK->Prop}(o:dE X (.type T) r2)(hg:Gl X x)(hm:X.mg x=none)(hv:bootBuiltins x=some (.type T))(ha:QA X (e::es) t)(hn:x≠"__name__":=by decide)(hdb:(x==("__debug__":Str))=false:=by decide) (he:starEach (e::es) X.env=(false,eval e X.env)::starEach es X.env:=by rfl) (hpl:(backTo pos (starEach es X.env)).any (·.1)=false:=by rfl):QE X (.Call (.Name x p) (e::es) [] pos) (LZ r2 t):=by obtain⟨r,ho,hr⟩:=o;exact bS (ie ho hg hm hv ha hn hdb he hpl) (zD hr)
end
end L3
namespace L3
open PySem PySem.Spec L2
def O7(T:String)(d:D)(M:Mem):Prop:=match d with
 | .str _=>T="str"
 | .ref a=>T="list"/\∃ds,M a=some (.lst ds)
 |_=>False
theorem O7.v {K:J8}{H:Hp}{M:Mem}{T:String}{d:D}{x:V}(h:O7 T d M)(r:Dat K H d x)(hm:RelM K H M):Sy K T x H:=by
 cases d with
 |str z=>cases(aX.mp r);exact h
 |ref a=>cases(aE.mp r);obtain⟨e,ds,q⟩:=h;obtain⟨xs,hx,_⟩:=hm a _ q;exact .inl ⟨e,xs,eW.of hx⟩
 |_=>exact h.elim
section
variable {X:Cx}{o e:Expr}{es:List Expr}{to:cu}{t:eO}{T id:String}{name:Str}{apos cZ:Pos}
def O9(T:String)(r2:D->List D->Mem->bK->Prop)(to:cu)(t:eO):cu:=λ δ M Q=>to δ M λ d M1=>O7 T d M1/\t δ M1 λ ds M2=>r2 d ds M2 Q
def L1(T:String)(r2:D->List D->Mem->bK->Prop)(to:cu):cu:=λ δ M Q=>to δ M λ d M1=>O7 T d M1/\r2 d [] M1 Q
theorem QJ{r2:D->List D->Mem->bK->Prop}(pa:PlainAttrs T)(slot:Slot T name id)(hty:typeOf (.builtin id)=pure (.type "method_descriptor"))(hm:Ls X id r2)(ho:QE X o to) (hbase:attributeBase o name X.env (eval o X.env)=eval o X.env:=by rfl) (hline:(apos.endLine==cZ.line)=true:=by rfl):QE X (.Call (.Attribute o name apos) [] [] cZ) (L1 T r2 to):=by obtain⟨r,h1,hr⟩:=hm;refine bS (Nn pa slot hty h1 ho hbase hline) ?_;rintro σ H Q ⟨δ,M,Q2,hs,hm,q,k⟩;exact⟨δ,M,_,hs,hm,q,λ x H1 d M1 hd bQ t1 q1=>⟨q1.1.v hd bQ,hr x [] d [] H1 M1 Q2 Q hd (by rw[ao]) bQ q1.2 (k.mono t1)⟩⟩
theorem Uu{r2:D->List D->Mem->bK->Prop}(pa:PlainAttrs T)(slot:Slot T name id)(hty:typeOf (.builtin id)=pure (.type "method_descriptor"))(hm:Ls X id r2)(ho:QE X o to)(ha:QA X (e::es) t) (hbase:attributeBase o name X.env (eval o X.env)=eval o X.env:=by rfl) (hfew:((backTo cZ (starEach (e::es) X.env)).all (λ x=>!x.1)&&(backToKw cZ (keywordEach [] X.env)).all (λ x=>x.1.isSome)
   &&decide ((e::es).length+([]:List Keyword).length+(if([]:List Keyword).isEmpty then 0 else 1) < 30))=true:=by rfl)
  (hline:(apos.endLine==cZ.line)=true:=by rfl) (hs:starEach (e::es) X.env=(false,eval e X.env)::starEach es X.env:=by rfl) (hplain:(backTo cZ (starEach es X.env)).any (·.1)=false:=by rfl):
  QE X (.Call (.Attribute o name apos) (e::es) [] cZ) (O9 T r2 to t):=by
 obtain⟨r,h1,hr⟩:=hm;refine bS (QX pa slot hty h1 ho ha hbase hfew hline hs hplain) ?_;rintro σ H Q ⟨δ,M,Q2,hs,hm,q,k⟩;refine⟨δ,M,_,hs,hm,q,λ x H1 d M1 hd bQ t1 q1=>⟨q1.1.v hd bQ,δ,M1,_,hs.mono t1,bQ,q1.2,λ xs H2 ds M2 JO oN t2 q2=>?_⟩⟩;exact hr x xs d ds H2 M2 Q2 Q (Dat.mono t2 d hd) JO oN q2 (k.mono (t1.trans t2))
end
abbrev gs:=List D->Mem->bK->Prop
def cV(K:J8)(sp:gs):Sp:=λ vs H Q _=>∃ds M Q2,aA K H ds vs/\RelM K H M/\sp ds M Q2/\iL K H Q2 Q
def sD(sp:gs)(t:eO):cu:=λ δ M Q=>t δ M λ ds M1=>sp ds M1 Q
abbrev cX(P:Program)(w:World)(K:J8)(mg:Str->Option Value)(base:Heap)(k:Nat)(x:Str)(ps:List Str)(sp:gs):Prop:=bT P w K mg base k x ps (cV K sp)
section
variable {X:Cx}{x:Str}{p pos:Pos}{e:Expr}{es:List Expr}{t:eO}{k j:Nat}{ps:List Str}{sp:gs}
theorem QF(d:cX X.prog X.w X.K X.mg X.base k x ps sp)(hr:cM k X.A)(hg:Gl X x)(ha:QA X (e::es) t)(hdb:(x==("__debug__":Str))=false:=by decide)(he:starEach (e::es) X.env=(false,eval e X.env)::starEach es X.env:=by rfl) (hpl:(backTo pos (starEach es X.env)).any (·.1)=false:=by rfl):QE X (.Call (.Name x p) (e::es) [] pos) (sD sp t):=by refine bS (Nm d hr hg ha hdb he hpl) ?_;rintro σ H Q ⟨δ,M,Q2,hs,hm,q,k⟩;exact⟨δ,M,_,hs,hm,q,λ xs H1 ds M1 hd bQ t1 q1=>⟨ds,M1,Q2,hd,bQ,q1,k.mono t1⟩⟩
end
def gz(N:List Str)(ds:List D):cS:=ds.map some++List.replicate (N.length - ds.length) none
theorem pW{K:J8}{H:Hp}{N:List Str}{ds:List D}{vs:List V}(h:aA K H ds vs):cJ K H (gz N ds) (L2.start N vs):=by
 have hl:=h.length;refine⟨by unfold gz L2.start;simp[hl],λ i d e=>?_⟩;unfold gz at e;by_cases hi:i < ds.length
 ·rw[c9 (by simpa using hi),s9]at e;cases q:ds[i]? with
  |none=>rw[q]at e;cases e
  |some d'=>
   rw[q]at e;have e:d'=d:=by simpa using e
   subst e;obtain⟨v,hv,r⟩:=h.get q;refine⟨v,?_,r⟩;unfold L2.start;rw[c9 (by simp;omega),s9,hv];rfl
 ·rw[c7 (by simpa using hi),i8]at e;split at e <;> cases e
def fin2(Q:bK):bK:=λ d M'=>∃kh,pF kh M'/\Q d kh
theorem az{Q:bK}{d:D}{M:Mem}(q:Q d M):fin2 Q d M:=⟨M,pF.refl M,q⟩
section
variable {P:Program}{w:World}{K:J8}{mg:Str->Option Value}{base:Heap}
theorem XX{x qual:Str}{st:Stmt}{f:Addr}{fd:FuncData}{N ps:List Str}{k:Nat}{sp:gs}(F:jk K x qual st f fd)(S:aM N ps (aq st))(len:∀ds M Q,sp ds M Q->ds.length=ps.length) (dZ:∀(dQ:Value) (A:Around) (outer:List Env) (s:Shared) (H:Hp) (E:XK) (ds:List D) (M:Mem) (Q:bK),cM k (A.deeper (PyProof.Rows.envOfC qual (aq st) s.heap.objs.size f dQ))->sp ds M Q->
   ∃t,GH (pA fA P w K mg base N qual (aq st) f dQ A outer s H E).Jl (bA st) t/\t {nx:=λ _ M'=>fin2 Q .bx M',rt:=fin2 Q} (gz N ds) M):cw P w K mg base fA (k+1) f fd ps (cV K sp):=by
 refine F.ok S (λ vs H Q E h=>?_) (λ dQ A outer s H vs Q E hr h=>?_)
 ·obtain⟨ds,M,Q2,hd,_,hs,_⟩:=h;rw[hd.length];exact len ds M Q2 hs
 ·obtain⟨ds,M,Q2,hd,hm,hs,kk⟩:=h;obtain⟨t,ht,q⟩:=dZ dQ A outer s H E ds M Q2 hr hs;refine⟨_,ht,gz N ds,M,_,pW hd,hm,q,⟨?_,?_,?_,?_⟩⟩
  ·exact λ σ' H' δ' M' _ fu t' ⟨kh,s,q⟩=>kk _ H' .bx kh (dA.mpr rfl) (fu.sub s) t' q
  ·exact λ v H' d M' oO fu t' ⟨kh,s,q⟩=>kk v H' d kh oO (fu.sub s) t' q
  ·exact λ σ' H' δ' M' _ fu t' q=>q
  ·exact λ σ' H' δ' M' _ fu t' q=>q
end
section
variable {X:Cx}{st:Stmt}{rest:List Stmt}{t u:jY}{te:cu}{e:Expr}{pos:Pos}
def xV:jY:=λ E δ M=>E.nx δ M
def CG(t u:jY):jY:=λ E δ M=>t {E with nx:=u E} δ M
theorem HX:GH X [] xV:=DD Iy λ E σ H ⟨δ,M,D2,hs,hm,q,k⟩=>k.nx σ H δ M hs hm (ar.refl H) q
theorem HW(h:QS X st t):GH X [st] t:=Iw h
theorem Dw(h1:QS X st t)(h2:GH X rest u):GH X (st::rest) (CG t u):=DD (DC h1 h2) λ E σ H ⟨δ,M,D2,hs,hm,q,k⟩=>by refine⟨δ,M,_,hs,hm,q,⟨λ σ' H' δ' M' jN fu t' q'=>?_,k.rt,k.bk,k.ct⟩⟩;exact⟨δ',M',D2,jN,fu,q',k.mono t'⟩
def tL(te:cu):jY:=λ E δ M=>te δ M λ _ M1=>E.nx δ M1
theorem HY(he:QE X e te)(hs:swapsWith e none pos.line X.env=pure false:=by rfl):QS X (.Expr e pos) (tL te):=jE (Iz he hs) λ E σ H ⟨δ,M,D2,hs,hm,q,k⟩=>
 ⟨δ,M,_,hs,hm,q,λ x H1 d M1 hd bQ t1 q1=>k.nx σ H1 δ M1 (hs.mono t1) bQ t1 q1⟩
def LS(te:cu):jY:=λ E δ M=>te δ M E.rt
theorem MD(he:QE X e te):QS X (.Return (some e) pos) (LS te):=jE (MX he) λ E σ H ⟨δ,M,D2,hs,hm,q,k⟩=>⟨δ,M,_,hs,hm,q,k.rt⟩
def Hq(c:fz)(t u:jY):jY:=λ E δ M=>c δ M λ b M1=>if b=true then t E δ M1 else u E δ M1
theorem Qu{c:Expr}{a b:List Stmt}{tc:fz}(hc:QT X c tc)(ha:GH X a t)(hb:GH X b u):QS X (.If c a b pos) (Hq tc t u):=jE (QN hc ha hb) λ E σ H ⟨δ,M,D2,hs,hm,q,k⟩=>by
 refine⟨δ,M,_,hs,hm,q,λ b H1 M1 bQ t1 q1=>?_⟩;cases b with
 |true=>rw[J6 rfl]at q1 ⊢;exact⟨δ,M1,D2,hs.mono t1,bQ,q1,k.mono t1⟩
 |false=>rw[J7 n9]at q1 ⊢;exact⟨δ,M1,D2,hs.mono t1,bQ,q1,k.mono t1⟩
abbrev iE:=D->cS->Mem->(cS->Mem->Prop)->Prop
abbrev oC:=List D->cS->Mem->(cS->Mem->Prop)->Prop
def Kx(K:J8)(t:iE):TG:=λ v σ H Q=>∃d δ M Q2,Dat K H d v/\cJ K H δ σ/\RelM K H M/\t d δ M Q2/\lD K H Q2 Q
def TM(K:J8)(t:oC):zH:=λ vs σ H Q=>∃ds δ M Q2,aA K H ds vs/\cJ K H δ σ/\RelM K H M/\t ds δ M Q2/\lD K H Q2 Q
abbrev QG(X:Cx)(tg:Expr)(t:iE):Prop:=PG X tg (Kx X.K t)
abbrev Sf(X:Cx)(tg:List Expr)(t:oC):Prop:=O1 X tg (TM X.K t)
theorem DK{tg:Expr}{g g':TG}(h:PG X tg g)(k:∀v σ H Q,g' v σ H Q->g v σ H Q):PG X tg g':=λ pins s σ H v u Q I r q=>h pins s σ H v u Q I r (k v σ H Q q)
theorem DI{tg:List Expr}{g g':zH}(h:O1 X tg g)(k:∀v σ H Q,g' v σ H Q->g v σ H Q):O1 X tg g':=λ pins s σ H v u Q I r q=>h pins s σ H v u Q I r (k v σ H Q q)
def hName(i:Nat):iE:=λ d δ M Q=>Q (δ.set i (some d)) M
theorem kG{K:J8}{i:Nat}:∀v σ H Q,Kx K (hName i) v σ H Q->cC i v σ H Q:=λ v σ H Q ⟨d,δ,M,Q2,hd,hs,hm,q,k⟩=>k _ H _ M (hs.set hd) hm (ar.refl H) q
theorem Ih{i:Nat}{x:Str}(hN:X.N.Nodup)(hi:X.N[i]?=some x)(hx:Loc X.env.scope x)(hf:X.fn x=true\/X.env.scope.names.lookup x=some .local:=by first|exact .inl rfl|exact .inr rfl|assumption):QG X (.Name x pos) (hName i):=
 DK (bc hN hi hx hf) kG
def ph:oC:=λ ds δ M Q=>match ds with
 |[]=>Q δ M
 |_=>False
def cO(t:iE)(u:oC):oC:=λ ds δ M Q=>match ds with
 |d::r=>t d δ M λ δ' M'=>u r δ' M' Q
 |_=>False
theorem Ig:Sf X [] ph:=DI l_ λ v σ H Q ⟨ds,δ,M,Q2,hd,hs,hm,q,k⟩=>by
 cases ds with
 |nil=>exact⟨ao.mp hd,k _ H _ M hs hm (ar.refl H) q⟩
 |cons d r=>exact q.elim
theorem Dz{e:Expr}{es:List Expr}{t:iE}{u:oC}(h1:QG X e t)(h2:Sf X es u) (hs:(assignEach (e::es) X.env).map (·.2)=assign e X.env::(assignEach es X.env).map (·.2):=by rfl):Sf X (e::es) (cO t u):=DI (dY h1 h2 hs) λ v σ H Q ⟨ds,δ,M,Q2,hd,hs,hm,q,k⟩=>by
 cases ds with
 |nil=>exact q.elim
 |cons d r=>obtain⟨x,xs,rfl,hx,UZ⟩:=ag.mp hd;refine⟨x,xs,rfl,d,δ,M,_,hx,hs,hm,q,λ σ' H' δ' M' jN fu t' q'=>?_⟩;exact⟨r,δ',M',Q2,aA.mono t' r UZ,jN,fu,q',k.mono t'⟩
def pd(n:Nat)(t:oC):iE:=λ d δ M Q=>match d with
 | .tup ds=>ds.length=n/\t ds δ M Q
 |_=>False
theorem MH{es:List Expr}{k:Nat}{t:oC}{n:Nat}(hc:X.calm=true)(h:Sf X es t) (hn:(assignEach es X.env).length=n:=by rfl) (hst:(assignEach es X.env).findIdx? (·.1)=none:=by rfl):QG X (.Tuple es k pos) (pd n t):=DK (rp hc h hn hst) λ v σ H Q ⟨d,δ,M,Q2,hd,hs,hm,q,k⟩=>by
 cases d with
 |tup ds=>obtain⟨p,xs,rfl,hq,hx⟩:=aU.mp hd;exact⟨p,xs,rfl,hq,by rw[hx.length];exact q.1,ds,δ,M,Q2,hx,hs,hm,q.2,k⟩
 |_=>exact q.elim
abbrev jX:=D->D->D->Mem->(Mem->Prop)->Prop
def Sn(K:J8)(H:Hp)(N2:Mem->Prop)(N:Hp->Prop):Prop:=∀H' M',RelM K H' M'->ar H H'->N2 M'->N H'
def OX(K:J8)(r:BD)(r2:jX):Prop:=∀o i v d j e H M Q2 Q,Dat K H d o->Dat K H j i->Dat K H e v->RelM K H M->r2 d j e M Q2->Sn K H Q2 Q->r o i v H Q
def Gj(X:Cx)(r2:jX):Prop:=∃r,sE X r/\OX X.K r r2
def hSub(to ti:cu)(t:jX):iE:=λ e δ M Q=>to δ M λ d M1=>ti δ M1 λ j M2=>t d j e M2 λ M3=>Q δ M3
theorem MI{o i:Expr}{to ti:cu}{t:jX}(ho:QE X o to)(hi:QE X i ti)(hs:Gj X t) (ha:∀v,assign (.Subscript o i pos) X.env v=(do
   let ov <- holding [v] (eval o X.env)
   let iv <- holding [v,ov] (eval i X.env)
   standAt pos
   holding [v,ov,iv] (setItem ov iv v)
   release [v,ov,iv] []):=by intro _;rfl):QG X (.Subscript o i pos) (hSub to ti t):=by
 obtain⟨r,h1,hr⟩:=hs;refine DK (Nd ho hi h1 ha) ?_;rintro v σ H Q ⟨e,δ,M,Q2,hd,hs,hm,q,k⟩;refine⟨δ,M,_,hs,hm,q,λ x H1 d M1 hx bQ t1 q1=>?_⟩;refine⟨δ,M1,_,hs.mono t1,bQ,q1,λ y H2 j M2 hy oN t2 q2=>?_⟩;exact hr x y v d j e H2 M2 _ _ (Dat.mono t2 d hx) hy (Dat.mono (t1.trans t2) e hd) oN q2 λ H3 M3 Ol t3 q3=>k σ H3 δ M3 (hs.mono (t1.trans (t2.trans t3))) Ol (t1.trans (t2.trans t3)) q3
def tN(te:cu)(g:iE):jY:=λ E δ M=>te δ M λ d M1=>g d δ M1 E.nx
theorem vf{K:J8}{g:TG}{g2:iE}(hg:∀v σ H Q,Kx K g2 v σ H Q->g v σ H Q):∀E σ H,TL K (tN te g2) E σ H->Ha (up K te) g E σ H:=by rintro E σ H ⟨δ,M,D2,hs,hm,q,k⟩;exact⟨δ,M,_,hs,hm,q,λ x H1 d M1 hd bQ t1 q1=>hg x σ H1 _ ⟨d,δ,M1,_,hd,hs.mono t1,bQ,q1,k.nx.mono t1⟩⟩
theorem MF{tg e:Expr}{g:iE}(he:QE X e te)(hg:QG X tg g)(hs:swapsWithSole [tg] e pos.line X.env=pure false:=by rfl)(hw:swappedStores [tg] e X.env=pure none:=by rfl) (h1:(assignEach [tg] X.env).map (·.2)=[assign tg X.env]:=by rfl):QS X (.Assign [tg] e pos) (tN te g):=jE (M_ he hg hs hw h1) (vf λ _ _ _ _ h=>h)
theorem MC{i:Nat}{x:Str}{e:Expr}{pos':Pos}(hN:X.N.Nodup)(hi:X.N[i]?=some x)(hx:Loc X.env.scope x)(he:QE X e te)(hs:swapsWith e (some (.Name x pos')) pos.line X.env=pure false:=by rfl) (hf:X.fn x=true\/X.env.scope.names.lookup x=some .local:=by first|exact .inl rfl|exact .inr rfl|assumption):QS X (.Assign [.Name x pos'] e pos) (tN te (hName i)):=jE (MW hN hi hx he hs hf) (vf kG)
end
end L3
namespace L3
open PySem PySem.Spec L2
inductive Src where
 |fix (ds:List D)
 |at(a:Addr)
 |fn (f:Mem->Option (List D))
def items(s:Src)(M:Mem):Option (List D):=match s with
 | .fix ds=>some ds
 | .at a=>match M a with
  |some (.lst ds)=>some ds
  |_=>none
 | .fn f=>f M
def sF(K:J8)(H1:Hp)(J:It)(src:Src):Prop:=∀H M ds,ar H1 H->RelM K H M->items src M=some ds->
 (∀i,i < ds.length->J.go i H)/\(∀i,i=ds.length->J.stop i H)/\(∀i x H',i < ds.length->J.GL i H x H'->ar H H'/\RelM K H' M/\∃d,ds[i]?=some d/\Dat K H' d x)
abbrev qG:=cS->Mem->(Src->Mem->Prop)->Prop
def Sw(K:J8)(t:qG):TI:=λ σ H R=>∃δ M R2,cJ K H δ σ/\RelM K H M/\t δ M R2/\∀J H' src M',sF K H' J src->RelM K H' M'->ar H H'->R2 src M'->R J H'
abbrev QI(X:Cx)(tg iter:Expr)(t:qG):Prop:=PI X tg iter (Sw X.K t)
theorem ym{X:Cx}{tg iter:Expr}{t t':TI}(h:PI X tg iter t)(k:∀σ H R,t' σ H R->t σ H R):PI X tg iter t':=λ pins s σ H R I q=>h pins s σ H R I (k σ H R q)
def kr(z:Str):List D:=z.cps.toList.map λ c=>D.str ⟨#[c]⟩
def cR(lo:Int)(n:Nat):List D:=(List.range n).map λ i=>D.int (lo+(i:Nat))
theorem bu(lo:Int)(n:Nat):(cR lo n).length=n:=by simp[cR]
theorem nF{lo:Int}{n i:Nat}(h:i < n):(cR lo n)[i]?=some (.int (lo+(i:Nat))):=by simp[cR,h]
theorem EF{K:J8}{H1:Hp}{z:Str}:sF K H1 (Pz z) (.fix (kr z)):=λ H M ds t hm e=>by
 cases e;have hl:(kr z).length=z.cps.size:=by simp[kr]
 refine⟨λ i hi=>by rw[hl]at hi;exact hi,λ i hi=>by rw[hl]at hi;exact hi,λ i x H' hi y=>?_⟩;obtain⟨e,c,hc,rfl⟩:=y;subst e;refine⟨ar.refl _,hm,.str ⟨#[c]⟩,?_,aX.mpr rfl⟩;simp[kr,hc]
theorem EE{K:J8}{H1:Hp}{a:Addr}{xs:List V}{ds:List D}(h:fJ K H1 a xs)(hd:aA K H1 ds xs):sF K H1 (V4 K a) (.fix ds):=λ H M es t hm e=>by cases e;have hq:=Ck t h;have hx:=aA.mono t ds hd;have hl:=hx.length;refine⟨λ i hi=>⟨xs,xs[i]'(by omega),hq,by simp[hl,hi]⟩,λ i hi=>⟨xs,hq,by omega⟩,λ i x H' hi y=>?_⟩;obtain⟨e,y⟩:=y;obtain⟨d,h1,h2⟩:=hx.Fs (y xs hq);subst e;exact⟨ar.refl _,hm,d,h1,h2⟩
theorem EG{K:J8}{H1:Hp}{a:Addr}:sF K H1 (TF K a) (.at a):=λ H M ds t hm e=>by
 have e:(match M a with|some (.lst ds)=>some ds|_=>none)=some ds:=e;cases q:M a with
 |none=>rw[q]at e;cases e
 |some o=>
  cases o with
  |cL b kvs=>rw[q]at e;cases e
  |fm x=>rw[q]at e;cases e
  |lst es=>rw[q]at e;have e:es=ds:=A9 e;subst e;obtain⟨xs,hx,hd⟩:=hm a _ q;have hq:eW K H a xs:=eW.of hx;have hl:=hd.length;refine⟨λ i hi=>⟨xs,xs[i]'(by omega),hq,by simp[hl,hi]⟩,λ i hi=>⟨xs,hq,by omega⟩,λ i x H' hi y=>?_⟩;obtain⟨e,y⟩:=y;obtain⟨d,h1,h2⟩:=hd.Fs (y xs hq);subst e;exact⟨ar.refl _,hm,d,h1,h2⟩
theorem JC{K:J8}{H1:Hp}{a:Addr}{xs:List V}{ds:List D}(h:GI K H1 a xs)(hd:aA K H1 ds xs):sF K H1 (TF K a) (.fix ds):=λ H M es t hm e=>by cases e;have hq:=(Ft t h).sq;have hx:=aA.mono t ds hd;have hl:=hx.length;refine⟨λ i hi=>⟨xs,xs[i]'(by omega),hq,by simp[hl,hi]⟩,λ i hi=>⟨xs,hq,by omega⟩,λ i x H' hi y=>?_⟩;obtain⟨e,y⟩:=y;obtain⟨d,h1,h2⟩:=hx.Fs (y xs hq);subst e;exact⟨ar.refl _,hm,d,h1,h2⟩
theorem wF{K:J8}{H1:Hp}{lo:Int}{n:Nat}:sF K H1 (TC lo n) (.fix (cR lo n)):=λ H M ds t hm e=>by cases e;rw[bu];refine⟨λ i hi=>hi,λ i hi=>E5 hi.symm,λ i x H' hi y=>?_⟩;obtain⟨e,rfl⟩:=y;subst e;exact⟨ar.refl _,hm,_,nF hi,au.mpr rfl⟩
section
variable {X:Cx}{tg l:Expr}{tl:cu}{ta:eO}{a b:Expr}{p pos:Pos}
def N9(tl:cu):qG:=λ δ M R=>tl δ M λ d M1=>match d with
 | .str z=>R (.fix (kr z)) M1
 | .tup ds=>R (.fix ds) M1
 | .fl ds=>R (.fix ds) M1
 | .ref a=>match M1 a with
  |some (.lst _)=>R (.at a) M1
  |_=>False
 |_=>False
theorem MG(hl:QE X l tl):QI X tg l (N9 tl):=ym (Nc hl) λ σ H R ⟨δ,M,R2,hs,hm,q,k⟩=>by
 refine⟨δ,M,_,hs,hm,q,λ x H1 d M1 hd bQ t1 q1=>?_⟩;cases d with
 |str z=>cases(aX.mp hd);exact k _ H1 _ M1 EF bQ t1 q1
 |tup ds=>obtain⟨p,xs,rfl,hq,hx⟩:=aU.mp hd;exact .inr ⟨xs,hq,k _ H1 _ M1 (EE hq hx) bQ t1 q1⟩
 |fl ds=>obtain⟨p,xs,rfl,hq,hx⟩:=jc.mp hd;exact .inl ⟨xs,hq.sq,k _ H1 _ M1 (JC hq hx) bQ t1 q1⟩
 |ref a=>
  cases(aE.mp hd);have q1:(match M1 a with|some (.lst _)=>R2 (.at a) M1|_=>False):=q1;cases e:M1 a with
  |none=>rw[e]at q1;exact q1.elim
  |some o=>
   cases o with
   |cL b kvs=>rw[e]at q1;exact q1.elim
   |fm x=>rw[e]at q1;exact q1.elim
   |lst es=>rw[e]at q1;obtain⟨xs,hx,_⟩:=bQ a _ e;exact .inl ⟨xs,eW.of hx,k _ H1 _ M1 EG bQ t1 q1⟩
 |_=>exact q1.elim
def V5(j:Int):Prop:= -(2^62)<=j/\j < 2^62
theorem cG{j:Int}(h0: -1000000000<=j)(h1:j<=1000000000):V5 j:=by
 constructor
 ·exact Int.le_trans (by decide) h0
 ·exact p9 h1 (by decide)
def EB(ta:eO):qG:=λ δ M R=>ta δ M λ ds M1=>match ds with
 |[.int j]=>V5 j/\R (.fix (cR 0 j.toNat)) M1
 |_=>False
theorem AD(hg:Gl X "range")(hm:X.mg "range"=none)(ha:QA X [a] ta)(hs:starEach [a] X.env=[(false,eval a X.env)]:=by rfl):QI X tg (.Call (.Name "range" p) [a] [] pos) (EB ta):=ym (AG hg hm ha hs) λ σ H R ⟨δ,M,R2,hs,hm,q,k⟩=>by
 refine⟨δ,M,_,hs,hm,q,λ xs H1 ds M1 hd bQ t1 q1=>?_⟩;cases ds with
 |nil=>exact q1.elim
 |cons d r=>
  cases r with
  |cons d2 r2=>cases d <;> exact q1.elim
  |nil=>
   cases d with
   |int j=>obtain⟨x,r,rfl,hx,hr⟩:=ag.mp hd;cases(ao.mp hr);cases(au.mp hx);obtain⟨⟨b1,b2⟩,q1⟩:=q1;exact⟨j,rfl,b1,b2,k _ H1 _ M1 wF bQ t1 q1⟩
   |_=>exact q1.elim
end
end L3
namespace L3
open PySem PySem.Spec L2
def LX(wi:qG)(g:iE)(tb:jY):jY:=λ E δ M=>wi δ M λ src M1=>∃(B:Nat) (W:Nat->cS->Mem->Prop),W 0 δ M1/\∀i δ M,W i δ M->i<=B/\match items src M with
 |none=>False
 |some ds=>match ds[i]? with
  |none=>i=ds.length/\E.nx δ M
  |some d=>g d δ M λ δ2 M2=>tb {E with nx:=W (i+1),ct:=W (i+1),bk:=E.nx} δ2 M2
section
variable {X:Cx}{tg iter:Expr}{wi:qG}{g:iE}{tb:jY}{body:List Stmt}{pos:Pos}
theorem ME(hp:PassesOwn (model X.prog X.w) X.A X.env X.xe)(hc:X.calm=true)(hi:QI X tg iter wi)(hg:QG X tg g)(hb:GH X body tb)(hs:∀x,foldedSetIterable iter X.env x=pure x:=by intro _;rfl):QS X (.For tg iter body [] pos) (LX wi g tb):=jE (MY hp hc hi hg hb hs) λ E σ H ⟨δ,M,D2,hs,hm,q,k⟩=>by
 refine⟨δ,M,_,hs,hm,q,λ J H1 src M1 ok bQ t1 q1=>?_⟩;obtain⟨B,W,w0,turn⟩:=q1;refine⟨λ i m σ' H'=>m=B+1 - i/\∃δ' M',cJ X.K H' δ' σ'/\RelM X.K H' M'/\ar H1 H'/\W i δ' M',⟨B+1,rfl,δ,M1,hs.mono t1,bQ,ar.refl _,w0⟩,?_⟩;rintro i m σ' H' ⟨rfl,δ',M',jN,fu,t',w'⟩;obtain⟨hB,h⟩:=turn i δ' M' w';cases ei:items src M' with
 |none=>rw[ei]at h;exact h.elim
 |some ds=>
  rw[ei]at h;obtain⟨go,stop,GL⟩:=ok H' M' ds t' fu ei;cases ed:ds[i]? with
  |none=>simp only[ed]at h;exact .inl ⟨stop i h.1,k.nx σ' H' δ' M' jN fu (t1.trans t') h.2⟩
  |some d=>
   simp only[ed]at h;have Gy:i < ds.length:=(g9.mp ed).1;refine .inr ⟨go i Gy,λ σ2 H2=>∃δ2 M2,cJ X.K H2 δ2 σ2/\RelM X.K H2 M2/\ar H1 H2/\W (i+1) δ2 M2,λ σ2 H2 ⟨δ2,M2,a,b,c,w2⟩=>⟨B+1 - (i+1),by omega,rfl,δ2,M2,a,b,c,w2⟩,λ x H2 y=>?_⟩;obtain⟨t2,oN,d',e',oO⟩:=GL i x H2 Gy y;rw[ed]at e';cases e';refine⟨d,δ',M',_,oO,jN.mono t2,oN,h,λ σ3 H3 δ3 M3 Ta Ol t3 q3=>?_⟩;refine⟨δ3,M3,_,Ta,Ol,q3,⟨?_,?_,?_,?_⟩⟩
   ·exact λ σ4 H4 δ4 M4 a b c w4=>⟨δ4,M4,a,b,t'.trans (t2.trans (t3.trans c)),w4⟩
   ·exact k.rt.mono (t1.trans (t'.trans (t2.trans t3)))
   ·exact k.nx.mono (t1.trans (t'.trans (t2.trans t3)))
   ·exact λ σ4 H4 δ4 M4 a b c w4=>⟨δ4,M4,a,b,t'.trans (t2.trans (t3.trans c)),w4⟩
end
end L3
namespace L3
open PySem PySem.Spec L2
def vS(c:fz)(tb:jY):jY:=λ E δ M=>∃W:Nat->cS->Mem->Prop,(∃m,W m δ M)/\∀m δ M,W m δ M->c δ M λ b M1=>
 if b=true then ∃N:cS->Mem->Prop,(∀δ' M',N δ' M'->∃m',m' < m/\W m' δ' M')/\tb {E with nx:=N,ct:=N,bk:=E.nx} δ M1 else E.nx δ M1
section
variable {X:Cx}{c:Expr}{tc:fz}{tb:jY}{body:List Stmt}{pos:Pos}
theorem Dx(hp:PassesOwn (model X.prog X.w) X.A X.env X.xe)(hc:QT X c tc)(hb:GH X body tb):QS X (.While c body [] pos) (vS tc tb):=jE (DE hp hc hb) λ E σ H ⟨δ,M,D2,hs,hm,q,k⟩=>by
 obtain⟨W,⟨m0,w0⟩,turn⟩:=q;refine⟨λ m σ' H'=>∃δ' M',cJ X.K H' δ' σ'/\RelM X.K H' M'/\ar H H'/\W m δ' M',⟨m0,δ,M,hs,hm,ar.refl _,w0⟩,?_⟩;rintro m σ' H' ⟨δ',M',jN,fu,t',w'⟩;refine⟨δ',M',_,jN,fu,turn m δ' M' w',λ b H1 M1 bQ t1 q1=>?_⟩;cases b with
 |false=>simp only[o7,J3]at q1;exact k.nx σ' H1 δ' M1 (jN.mono t1) bQ (t'.trans t1) q1
 |true=>
  simp only[if_true]at q1;obtain⟨N,hN,q1⟩:=q1;refine⟨λ σ2 H2=>∃δ2 M2,cJ X.K H2 δ2 σ2/\RelM X.K H2 M2/\ar H H2/\N δ2 M2,λ σ2 H2 ⟨δ2,M2,a,b,c,n2⟩=>?_,?_⟩
  ·obtain⟨m',fu,w2⟩:=hN δ2 M2 n2;exact⟨m',fu,δ2,M2,a,b,c,w2⟩
  ·refine⟨δ',M1,_,jN.mono t1,bQ,q1,⟨?_,?_,?_,?_⟩⟩
   ·exact λ σ4 H4 δ4 M4 a b c w4=>⟨δ4,M4,a,b,t'.trans (t1.trans c),w4⟩
   ·exact k.rt.mono (t'.trans t1)
   ·exact k.nx.mono (t'.trans t1)
   ·exact λ σ4 H4 δ4 M4 a b c w4=>⟨δ4,M4,a,b,t'.trans (t1.trans c),w4⟩
end
end L3
namespace L3
open PySem PySem.Spec L2
def jf(n:Nat)(fr:List Nat)(δ:cS):cS:=List.replicate n none++fr.map (λ j=>δ.getD j none)
theorem Kn{K:J8}{H:Hp}{δ:cS}{σ:L2.St}(h:cJ K H δ σ)(n:Nat)(fr:List Nat):cJ K H (jf n fr δ) (ff n fr σ):=by
 refine⟨by simp[jf,ff],λ i d e=>?_⟩;unfold jf at e;by_cases hi:i < n
 ·rw[c9 (by simpa using hi),i8,J6 hi]at e;cases e
 ·rw[c7 (by simpa using hi),k5,s9]at e;cases ej:fr[i - n]? with
  |none=>rw[ej]at e;cases e
  |some j=>
   rw[ej]at e;have e:δ.getD j none=some d:=A9 e;have hj:j < δ.length:=by refine Nat.lt_of_not_le λ z=>?_;rw[c8,k7 z]at e;cases e
   have e':δ[j]?=some (some d):=by rw[c8,i5 hj]at e;rw[i5 hj];exact J4 some e
   obtain⟨v,hv,r⟩:=h.get j d e';refine⟨v,?_,r⟩;unfold ff;rw[c7 (by simpa using hi),k5,s9,ej];simp[c8,hv]
def nu(wi:qG)(g:iE)(tt:fz)(te:cu)(n:Nat)(fr:List Nat):cS->Mem->(List D->Mem->Prop)->Prop:=λ δ M Q=>wi δ M λ src M1=>∃(B:Nat) (W:Nat->List D->Mem->Prop),W 0 [] M1/\∀i acc M,W i acc M->i<=B/\acc.length<=sizeLine/\match items src M with
 |none=>False
 |some ds=>match ds[i]? with
  |none=>i=ds.length/\Q acc M
  |some d=>g d (jf n fr δ) M λ δ2 M2=>tt δ2 M2 λ b M3=>if b=true then te δ2 M3 λ y M4=>W (i+1) (acc++[y]) M4 else W (i+1) acc M3
theorem kZ{K:J8}{wi:qG}{g:iE}{tt:fz}{te:cu}{n:Nat}{fr:List Nat}{Qe:List D->Mem->Prop}{σ:L2.St}{δ:cS}{H:Hp}{M:Mem}{Q:V->Hp->Prop}{gv:TG}(YM:∀v σ H Q,Kx K g v σ H Q->gv v σ H Q)(hs:cJ K H δ σ)(hm:RelM K H M)(q:nu wi g tt te n fr δ M Qe) (k:∀acc xs H' M' p,aA K H' acc xs->RelM K H' M'->ar H H'->acc.length<=sizeLine->H' p=none->Qe acc M'->Q (.ref p) (upd H' p (.lst xs))):td (Sw K wi) gv (Gu K tt) (up K te) n fr σ H Q:=by
 refine⟨δ,M,_,hs,hm,q,λ J H1 src M1 ok bQ t1 q1=>?_⟩;obtain⟨B,W,w0,turn⟩:=q1;refine⟨λ i m xs H'=>m=B+1 - i/\∃acc M',aA K H' acc xs/\RelM K H' M'/\ar H1 H'/\W i acc M',⟨B+1,rfl,[],M1,by rw[ao],bQ,ar.refl _,w0⟩,?_⟩;rintro i m xs H' ⟨rfl,acc,M',oO,fu,t',w'⟩;obtain⟨hB,hz,h⟩:=turn i acc M' w';refine⟨by rw[oO.length];exact hz,?_⟩;cases ei:items src M' with
 |none=>rw[ei]at h;exact h.elim
 |some ds=>
  rw[ei]at h;obtain⟨go,stop,GL⟩:=ok H' M' ds t' fu ei;cases ed:ds[i]? with
  |none=>simp only[ed]at h;exact .inl ⟨stop i h.1,λ p hp=>k acc xs H' M' p oO fu (t1.trans t') hz hp h.2⟩
  |some d=>
   simp only[ed]at h;have Gy:i < ds.length:=(g9.mp ed).1;refine .inr ⟨go i Gy,λ ys H2=>∃Kq M2,aA K H2 Kq ys/\RelM K H2 M2/\ar H1 H2/\W (i+1) Kq M2,λ ys H2 ⟨Kq,M2,a,b,c,w2⟩=>⟨B+1 - (i+1),by omega,rfl,Kq,M2,a,b,c,w2⟩,λ x H2 y=>?_⟩;obtain⟨t2,oN,d',e',sL⟩:=GL i x H2 Gy y;rw[ed]at e';cases e';refine YM _ _ _ _ ⟨d,jf n fr δ,M',_,sL,Kn (hs.mono (t1.trans (t'.trans t2))) n fr,oN,h,λ σ3 H3 δ3 M3 Ta Ol t3 q3=>?_⟩;refine⟨δ3,M3,_,Ta,Ol,q3,λ b H4 M4 WJ t4 q4=>?_⟩;cases b with
   |false=>rw[J7 n9]at q4 ⊢;exact⟨acc,M4,aA.mono (t2.trans (t3.trans t4)) acc oO,WJ,t'.trans (t2.trans (t3.trans t4)),q4⟩
   |true=>rw[J6 rfl]at q4 ⊢;exact⟨δ3,M4,_,Ta.mono t4,WJ,q4,λ yv H5 y5 M5 Yg YD t5 q5=>⟨acc++[y5],M5,(aA.mono (t2.trans (t3.trans (t4.trans t5))) acc oO).append (aA.one Yg),YD,t'.trans (t2.trans (t3.trans (t4.trans t5))),q5⟩⟩
section
variable {X:Cx}{scope:Scope}{tgs:List Str}{fr:List Nat}{tg elt iter:Expr}{ifs:List Expr}{pos:Pos}{wi:qG}{g:iE}{tt:fz}{te:cu}
abbrev TB(X:Cx)(ifs:List Expr)(t:fz):Prop:=Py X ifs (Gu X.K t)
def tK:fz:=λ _ M Q=>Q true M
theorem Ic:TB X [] tK:=λ pins s σ H Q I h=>IF pins s σ H Q I (by
 obtain⟨δ,M,Q2,hs,hm,q,k⟩:=h;exact k _ _ _ hm (ar.refl H) q)
theorem Ib{c:Expr}{t:fz}(h:QT X c t):TB X [c] t:=IE h
def Sa(X:Cx)(scope:Scope)(tgs:List Str)(fr:List Nat)(tg:Expr)(g2:iE):Prop:=
 ∃g:TG,(∀cl C fp s H,PG (bz X scope cl tgs fr C fp s H) tg g)/\jh tgs.length g/\∀v σ H Q,Kx X.K g2 v σ H Q->g v σ H Q
theorem GZ{i:Nat}{x:Str}{ps:Pos}(h:∀cl C fp s H,PG (bz X scope cl tgs fr C fp s H) (.Name x ps) (cC i))(hi:i < tgs.length):Sa X scope tgs fr (.Name x ps) (hName i):=⟨_,h,iy hi,kG⟩
def Gn(g:TG):Prop:=∀x σ H Q Q',(∀σ' H',Q σ' H'->Q' σ' H')->g x σ H Q->g x σ H Q'
def sG(g:zH):Prop:=∀xs σ H Q Q',(∀σ' H',Q σ' H'->Q' σ' H')->g xs σ H Q->g xs σ H Q'
theorem eI{i:Nat}:Gn (cC i):=λ x σ H Q Q' k q=>k _ _ q
theorem nX:sG rT:=λ xs σ H Q Q' k q=>⟨q.1,k _ _ q.2⟩
theorem mn{t:TG}{u:zH}(ht:Gn t)(hu:sG u):sG (dD t u):=λ xs σ H Q Q' k ⟨v,r,e,q⟩=>⟨v,r,e,ht v σ H _ _ (λ σ' H' q'=>hu r σ' H' _ _ k q') q⟩
theorem jR{n:Nat}{t:TG}{u:zH}(h:jh n t)(k:mI n u)(ht:Gn t)(hu:sG u):mI n (dD t u):=λ xs σ H Q ⟨v,r,e,q⟩=>by refine⟨v,r,e,ht v σ H _ _ (λ σ' H' ⟨q',l',k'⟩=>?_) (h v σ H _ q)⟩;refine hu r σ' H' _ _ (λ σ2 H2 ⟨q2,l2,k2⟩=>⟨q2,l2.trans l',λ j hj=>(k2 j hj).trans (k' j hj)⟩) (k r σ' H' _ q')
theorem Fp{K:J8}{m n:Nat}{t:zH}(h:mI m t):jh m (uG K n t):=λ x σ H Q ⟨a,xs,e,hq,hl,q⟩=>⟨a,xs,e,hq,hl,h xs σ H _ q⟩
theorem Af{K:J8}{i j:Nat}:∀v σ H Q,Kx K (pd 2 (cO (hName i) (cO (hName j) ph))) v σ H Q->uG K 2 (dD (cC i) (dD (cC j) rT)) v σ H Q:=λ v σ H Q ⟨d,δ,M,Q2,hd,hs,hm,q,k⟩=>by
 cases d with
 |tup ds=>
  obtain⟨p,xs,rfl,hq,hx⟩:=aU.mp hd;obtain⟨hl,q⟩:=q
  match ds,hl,hx,q with
  |[a,b],hl,hx,q=>obtain⟨x,r,rfl,ha,hx⟩:=ag.mp hx;obtain⟨y,r,rfl,hb,hx⟩:=ag.mp hx;cases(ao.mp hx);exact⟨p,[x,y],rfl,hq,rfl,x,[y],rfl,y,[],rfl,rfl,k _ H _ M ((hs.set ha).set hb) hm (ar.refl H) q⟩
 |_=>exact q.elim
theorem GY{i j k:Nat}{x y:Str}{px py pt:Pos}(h:∀cl C fp s H,PG (bz X scope cl tgs fr C fp s H) (.Tuple [.Name x px,.Name y py] k pt) (uG X.K 2 (dD (cC i) (dD (cC j) rT))))(hi:i < tgs.length)(hj:j < tgs.length):Sa X scope tgs fr (.Tuple [.Name x px,.Name y py] k pt) (pd 2 (cO (hName i) (cO (hName j) ph))):=
 ⟨_,h,Fp (jR (iy hi) (jR (iy hj) Fq eI nX) eI (mn eI nX)),Af⟩
def oG(X:Cx)(scope:Scope)(tgs:List Str)(fr:List Nat)(tg iter:Expr)(ifs:List Expr)(elt:Expr)(wi:qG)(g:iE)(tt:fz)(te:cu):Prop:=
 kg X scope fr/\X.calm=true/\(∀e s,X.xe e s->False)/\QI X tg iter wi/\Sa X scope tgs fr tg g/\(∀cl C fp s H,TB (bz X scope cl tgs fr C fp s H) ifs tt)/\(∀cl C fp s H,QE (bz X scope cl tgs fr C fp s H) elt te)
def tM(wi:qG)(g:iE)(tt:fz)(te:cu)(n:Nat)(fr:List Nat):cu:=λ δ M Q=>nu wi g tt te n fr δ M λ ds M'=>∀p,M' p=none->Q (.ref p) (ah M' p (.lst ds))
theorem MQ(C:oG X scope tgs fr tg iter ifs elt wi g tt te)(hs:∀x,foldedSetIterable iter X.env x=pure x:=by intro _;rfl):QE X (.ListComp elt [⟨tg,iter,ifs,0⟩] scope pos) (tM wi g tt te tgs.length fr):=by obtain⟨B,hc,hE,hi,⟨gv,hg,gk,gl⟩,ht,he⟩:=C;refine bS (rq (tt:=Gu X.K tt) (te:=up X.K te) B hc hE hi hg gk ht he hs) ?_;rintro σ H Q ⟨δ,M,Q2,hs,hm,q,k⟩;exact kZ gl hs hm q λ acc xs H' M' p hd fu t' hz hp q'=>k _ _ (.ref p) _ (aE.mpr rfl) (dR hp hd fu) (t'.trans (ar.laid hp)) (q' p (fu.free hp))
theorem wc{i:Nat}{y:Str}{py tm:Pos}(hN:X.N.Nodup)(hiy:X.N[i]?=some y)(hy:Loc X.env.scope y)(C:oG X scope tgs fr tg iter ifs elt wi g tt te) (hsw:swapsWith (.ListComp elt [⟨tg,iter,ifs,0⟩] scope pos) (some (.Name y py)) tm.line X.env=pure true:=by rfl) (hf:X.fn y=true\/X.env.scope.names.lookup y=some .local:=by first|exact .inl rfl|exact .inr rfl|assumption) (hs:∀x,foldedSetIterable iter X.env x=pure x:=by intro _;rfl):QS X (.Assign [.Name y py] (.ListComp elt [⟨tg,iter,ifs,0⟩] scope pos) tm) (tN (tM wi g tt te tgs.length fr) (hName i)):=by obtain⟨B,hc,hE,hi,⟨gv,hg,gk,gl⟩,ht,he⟩:=C;refine jE (we (tt:=Gu X.K tt) (te:=up X.K te) hN hiy hy B hc hE hi hg gk ht he hsw hf hs) ?_;rintro E σ H ⟨δ,M,D2,hs,hm,q,k⟩;exact kZ gl hs hm q λ acc xs H' M' p hd fu t' hz hp q'=>k.nx _ _ _ _ (((hs.mono t').mono (ar.laid hp)).set (aE.mpr rfl)) (dR hp hd fu) (t'.trans (ar.laid hp)) (q' p (fu.free hp))
def Aq(r3:List D->Mem->bK->Prop)(wi:qG)(g:iE)(tt:fz)(te:cu)(n:Nat)(fr:List Nat):cu:=λ δ M Q=>nu wi g tt te n fr δ M λ ds M'=>r3 ds M' Q
def oB(r2:List D->Mem->bK->Prop)(r3:List D->Mem->bK->Prop):Prop:=∀ds M p Q,M p=none->ds.length<=sizeLine->r3 ds M Q->r2 [.ref p] (ah M p (.lst ds)) (fin2 Q)
theorem Fv{K:J8}{H:Hp}{Q2:bK}{Q:VK}(k:iL K H Q2 Q):iL K H (fin2 Q2) Q:=λ v H' d M' hd hm t ⟨kh,s,q⟩=>k v H' d kh hd (hm.sub s) t q
variable {x:Str}{p:Pos}{id T:String}{cZ:Pos}
theorem s_{r:List V->Hp->VK->Prop}{r2 r3:List D->Mem->bK->Prop}{gv:TG}(gl:∀v σ H Q,Kx X.K g v σ H Q->gv v σ H Q)(hr:OZ X.K r r2)(h3:oB r2 r3):∀σ H Q,up X.K (Aq r3 wi g tt te tgs.length fr) σ H Q->SE r (Kz (td (Sw X.K wi) gv (Gu X.K tt) (up X.K te) tgs.length fr) PV) σ H Q:=by rintro σ H Q ⟨δ,M,Q2,hs,hm,q,k⟩;show td (Sw X.K wi) gv (Gu X.K tt) (up X.K te) tgs.length fr σ H (λ x H1=>r [x] H1 Q);refine kZ gl hs hm q λ acc xs H' M' p hd fu t' hz hp q'=>?_;exact hr [.ref p] [.ref p] _ _ (fin2 Q2) Q (aA.one (aE.mpr rfl)) (dR hp hd fu) (h3 acc M' p Q2 (fu.free hp) hz q') (Fv (k.mono (t'.trans (ar.laid hp))))
theorem ML{r2 r3:List D->Mem->bK->Prop}(o:dE X (.builtin id) r2)(h3:oB r2 r3)(hg:Gl X x)(hm:X.mg x=none)(hv:bootBuiltins x=some (.builtin id))(C:oG X scope tgs fr tg iter ifs elt wi g tt te)(hn:x≠"__name__":=by decide)(hdb:(x==("__debug__":Str))=false:=by decide) (hs:∀x,foldedSetIterable iter X.env x=pure x:=by intro _;rfl):QE X (.Call (.Name x p) [.ListComp elt [⟨tg,iter,ifs,0⟩] scope cZ] [] pos) (Aq r3 wi g tt te tgs.length fr):=by obtain⟨B,hc,hE,hi,⟨gv,Vq,gk,gl⟩,ht,he⟩:=C;obtain⟨r,ho,hr⟩:=o;exact bS (tX ho hg hm hv (ma (rq (tt:=Gu X.K tt) (te:=up X.K te) B hc hE hi Vq gk ht he hs) rA) hn hdb) (s_ gl hr h3)
theorem MK{r2 r3:List D->Mem->bK->Prop}(o:dE X (.type T) r2)(h3:oB r2 r3)(hg:Gl X x)(hm:X.mg x=none)(hv:bootBuiltins x=some (.type T))(C:oG X scope tgs fr tg iter ifs elt wi g tt te)(hn:x≠"__name__":=by decide)(hdb:(x==("__debug__":Str))=false:=by decide) (hs:∀x,foldedSetIterable iter X.env x=pure x:=by intro _;rfl):QE X (.Call (.Name x p) [.ListComp elt [⟨tg,iter,ifs,0⟩] scope cZ] [] pos) (Aq r3 wi g tt te tgs.length fr):=by obtain⟨B,hc,hE,hi,⟨gv,Vq,gk,gl⟩,ht,he⟩:=C;obtain⟨r,ho,hr⟩:=o;exact bS (ie ho hg hm hv (ma (rq (tt:=Gu X.K tt) (te:=up X.K te) B hc hE hi Vq gk ht he hs) rA) hn hdb) (s_ gl hr h3)
variable {o:Expr}{to:cu}{name:Str}{apos:Pos}
end
end L3
namespace L3
open PySem PySem.Spec L2
section
variable {X:Cx}
def dI(C:Int->Int->Prop)(g:Int->Int->D):fZ:=λ x y M Q=>match x,y with
 | .int i,.int j=>C i j/\Q (g i j) M
 |_,_=>False
def Ke(g:Int->Int->D):fZ:=λ x y M Q=>match x,y with
 | .int i,.int j=>Q (g i j) M
 |_,_=>False
theorem si{f:Value->Value->Sem Value}{C:Int->Int->Prop}{g:Int->Int->Int}(h:fK X f (rI C λ i j=>.int (g i j))):fM X f (dI C λ i j=>.int (g i j)):=⟨_,h,λ x y d e H M Q2 Q hd he hm q k=>by
 cases d <;> cases e <;> first
  |exact q.elim
  |(cases(au.mp hd);cases(au.mp he);exact⟨_,_,rfl,rfl,q.1,k _ H _ M (au.mpr rfl) hm (ar.refl H) q.2⟩)⟩
theorem Wd{f:Value->Value->Sem Value}{g:Int->Int->Int}(h:fK X f (Gw λ i j=>.int (g i j))):fM X f (Ke λ i j=>.int (g i j)):=⟨_,h,λ x y d e H M Q2 Q hd he hm q k=>by
 cases d <;> cases e <;> first
  |exact q.elim
  |(cases(au.mp hd);cases(au.mp he);exact⟨_,_,rfl,rfl,k _ H _ M (au.mpr rfl) hm (ar.refl H) q⟩)⟩
theorem Ua{f:Value->Value->Sem Value}{g:Int->Int->Bool}(h:fK X f (Gw λ i j=>.bl (g i j))):fM X f (Ke λ i j=>.bl (g i j)):=⟨_,h,λ x y d e H M Q2 Q hd he hm q k=>by
 cases d <;> cases e <;> first
  |exact q.elim
  |(cases(au.mp hd);cases(au.mp he);exact⟨_,_,rfl,rfl,k _ H _ M (aY.mpr rfl) hm (ar.refl H) q⟩)⟩
theorem DZ:fM X (binaryOp .Sub) (Ke λ i j=>.int (i - j)):=Wd Nt
theorem jI:fM X (binaryOp .Mod) (dI (λ _ j=>0 < j) λ i j=>.int (i % j)):=si Ny
theorem wx:fM X (binaryOp .FloorDiv) (dI O6 λ i j=>.int (i / j)):=si IW
theorem Q9:fM X (binaryOp .Pow) (dI Su λ i j=>.int (i^j.toNat)):=si Nv
theorem Q8:fM X (binaryOp .BitXor) (Ke λ i j=>.int (Builtin.bitXor i j)):=Wd Nr
theorem oV:fM X (compareOp .Lt) (Ke λ i j=>.bl (decide (i < j))):=Ua Q1
theorem Ra:fM X (compareOp .Gt) (Ke λ i j=>.bl (decide (j < i))):=Ua Q3
theorem UD:fM X (compareOp .GtE) (Ke λ i j=>.bl (decide (j<=i))):=Ua Q4
def Kf:fZ:=λ x y M Q=>match x,y with
 | .int i,.int j=>Q (.int (i+j)) M
 | .str i,.str j=>i.length+j.length<=sizeLine/\Q (.str (i++j)) M
 | .tup xs,.tup ys=>xs≠[]/\xs.length+ys.length<=sizeLine/\Q (.tup (xs++ys)) M
 | .ref a,.ref b=>match M a,M b with
  |some (.lst xs),some (.lst ys)=>xs.length+ys.length<=sizeLine/\∀p,M p=none->Q (.ref p) (ah M p (.lst (xs++ys)))
  |_,_=>False
 |_,_=>False
theorem Rb:fM X (binaryOp .Add) Kf:=⟨_,ND.or (wu.or (NC.or IY)),λ x y d e H M Q2 Q hd he hm q k=>by
 cases d with
 |int i=>
  cases e with
  |int j=>cases(au.mp hd);cases(au.mp he);exact .inl ⟨_,_,rfl,rfl,k _ H _ M (au.mpr rfl) hm (ar.refl H) q⟩
  |_=>exact q.elim
 |str i=>
  cases e with
  |str j=>cases(aX.mp hd);cases(aX.mp he);exact .inr (.inl ⟨_,_,rfl,rfl,q.1,k _ H _ M (aX.mpr rfl) hm (ar.refl H) q.2⟩)
  |_=>exact q.elim
 |tup xs=>
  cases e with
  |tup ys=>
   obtain⟨p,vs,rfl,hp,hx⟩:=aU.mp hd;obtain⟨p2,ws,rfl,eT,hy⟩:=aU.mp he;obtain⟨eZ,hlen,q⟩:=q;refine .inr (.inr (.inr ⟨p,p2,vs,ws,rfl,rfl,hp,eT,?_,by rw[hx.length,hy.length];exact hlen,?_⟩))
   ·intro z;have:=hx.length;rw[z]at this;exact eZ (j0.mp this.symm)
   ·refine⟨λ hz=>?_,λ hz p3 Vb=>?_⟩
    ·have Yh:ys=[]:=by have:=hy.length;rw[hz]at this;exact j0.mp this.symm
     subst Yh;rw[A4]at q;exact k _ H _ M (aU.mpr ⟨p,vs,rfl,hp,hx⟩) hm (ar.refl H) q
    ·exact k _ _ _ M (g_ Vb (hx.append hy)) (hm.laid Vb) (ar.laid Vb) q
  |_=>exact q.elim
 |ref a=>
  cases e with
  |ref b=>
   cases(aE.mp hd);cases(aE.mp he);have q:(match M a,M b with|some (.lst xs),some (.lst ys)=>xs.length+ys.length<=sizeLine/\∀p,M p=none->Q2 (.ref p) (ah M p (.lst (xs++ys)))|_,_=>False):=q;cases ea:M a with
   |none=>rw[ea]at q;exact q.elim
   |some oa=>
    cases eb:M b with
    |none=>rw[ea,eb]at q;cases oa <;> exact q.elim
    |some ob=>
     cases oa with
     |cL b kvs=>rw[ea,eb]at q;exact q.elim
     |fm x=>rw[ea,eb]at q;exact q.elim
     |lst xs=>
      cases ob with
      |cL b kvs=>rw[ea,eb]at q;exact q.elim
      |fm x=>rw[ea,eb]at q;exact q.elim
      |lst ys=>rw[ea,eb]at q;obtain⟨vs,Ym,sO⟩:=hm a _ ea;obtain⟨ws,K4,Xi⟩:=hm b _ eb;refine .inr (.inr (.inl ⟨a,b,vs,ws,rfl,rfl,Ym,K4,by rw[sO.length,Xi.length];exact q.1,λ p hp=>?_⟩));exact k _ _ (.ref p) _ (aE.mpr rfl) (dR hp (sO.append Xi) hm) (ar.laid hp) (q.2 p (hm.free hp))
  |_=>exact q.elim
 |_=>exact q.elim⟩
def OL:fZ:=λ x y M Q=>match x,y with
 | .int i,.int j=>sH i j/\Q (.int (i*j)) M
 | .str z,.int n=>MulOk z n/\Q (.str (Txt.mul z n)) M
 |_,_=>False
theorem Q_:fM X (binaryOp .Mult) OL:=⟨_,Nx.or wq,λ x y d e H M Q2 Q hd he hm q k=>by
 cases d <;> cases e <;> first
  |exact q.elim
  |(cases(au.mp hd);cases(au.mp he);exact .inl ⟨_,_,rfl,rfl,q.1,k _ H _ M (au.mpr rfl) hm (ar.refl H) q.2⟩)
  |(cases(aX.mp hd);cases(au.mp he);exact .inr ⟨_,_,rfl,rfl,q.1,k _ H _ M (aX.mpr rfl) hm (ar.refl H) q.2⟩)⟩
def qw:D->Option V
 | .bx=>some .bx
 | .bl b=>some (.bl b)
 | .int i=>some (.int i)
 | .str x=>some (.str x)
 |_=>none
theorem qv{K:J8}{H:Hp}{d:D}{x v:V}(e:qw d=some v)(h:Dat K H d x):x=v:=by
 cases d with
 |bx=>cases e;exact dA.mp h
 |bl b=>cases e;exact aY.mp h
 |int i=>cases e;exact au.mp h
 |str z=>cases e;exact aX.mp h
 |ty n=>exact absurd e (by intro z;cases z)
 |ref a=>exact absurd e (by intro z;cases z)
 |tup xs=>exact absurd e (by intro z;cases z)
 |fl xs=>exact absurd e (by intro z;cases z)
theorem n_{d:D}{v:V}(e:qw d=some v):gg v=true:=by
 cases d with
 |bx=>cases e;rfl
 |bl b=>cases e;rfl
 |int i=>cases e;rfl
 |str z=>cases e;rfl
 |ty n=>exact absurd e (by intro z;cases z)
 |ref a=>exact absurd e (by intro z;cases z)
 |tup xs=>exact absurd e (by intro z;cases z)
 |fl xs=>exact absurd e (by intro z;cases z)
def Ll(neg:Bool):fZ:=λ x y M Q=>match x,y with
 | .int i,.int j=>Q (.bl (xor neg (decide (i=j)))) M
 | .bl i,.bl j=>Q (.bl (xor neg (decide (i=j)))) M
 | .str i,.str j=>Q (.bl (xor neg (decide (i=j)))) M
 |_,_=>False
theorem UE:fM X (compareOp .Eq) (Ll false):=⟨_,Q5,λ x y d e H M Q2 Q hd he hm q k=>by
 cases d <;> cases e <;> first
  |exact q.elim
  |(cases(au.mp hd);cases(au.mp he);refine⟨rfl,k _ H _ M (aY.mpr rfl) hm (ar.refl H) ?_⟩;have q:Q2 (.bl (xor false (decide (_=_)))) M:=q;simpa using q)
  |(cases(aY.mp hd);cases(aY.mp he);refine⟨rfl,k _ H _ M (aY.mpr rfl) hm (ar.refl H) ?_⟩;have q:Q2 (.bl (xor false (decide (_=_)))) M:=q;simpa using q)
  |(cases(aX.mp hd);cases(aX.mp he);refine⟨rfl,k _ H _ M (aY.mpr rfl) hm (ar.refl H) ?_⟩;have q:Q2 (.bl (xor false (decide (_=_)))) M:=q;simpa using q)⟩
theorem UB:fM X (compareOp .NotEq) (Ll true):=⟨_,Q0,λ x y d e H M Q2 Q hd he hm q k=>by
 cases d <;> cases e <;> first
  |exact q.elim
  |(cases(au.mp hd);cases(au.mp he);refine⟨rfl,k _ H _ M (aY.mpr rfl) hm (ar.refl H) ?_⟩;have q:Q2 (.bl (xor true (decide (_=_)))) M:=q;simpa using q)
  |(cases(aY.mp hd);cases(aY.mp he);refine⟨rfl,k _ H _ M (aY.mpr rfl) hm (ar.refl H) ?_⟩;have q:Q2 (.bl (xor true (decide (_=_)))) M:=q;simpa using q)
  |(cases(aX.mp hd);cases(aX.mp he);refine⟨rfl,k _ H _ M (aY.mpr rfl) hm (ar.refl H) ?_⟩;have q:Q2 (.bl (xor true (decide (_=_)))) M:=q;simpa using q)⟩
def Kc(neg:Bool):fZ:=λ x y M Q=>match y with
 | .bx=>match x with
  | .bx=>Q (.bl (!neg)) M
  |_=>Q (.bl neg) M
 |_=>False
theorem FL{K:J8}{H:Hp}{d:D}{x:V}(h:Dat K H d x):decide (x=.bx)=match d with| .bx=>true|_=>false:=by
 cases d with
 |bx=>cases(dA.mp h);rfl
 |bl b=>cases(aY.mp h);rfl
 |int b=>cases(au.mp h);rfl
 |str b=>cases(aX.mp h);rfl
 |ty b=>cases(wZ.mp h);rfl
 |ref b=>cases(aE.mp h);rfl
 |tup b=>obtain⟨p,xs,rfl,_⟩:=aU.mp h;rfl
 |fl b=>obtain⟨p,xs,rfl,_⟩:=jc.mp h;rfl
theorem D':fM X (compareOp .Is) (Kc false):=⟨_,Nz,λ x y d e H M Q2 Q hd he hm q k=>by
 cases e with
 |bx=>refine⟨dA.mp he,?_⟩;rw[FL hd];refine k _ H _ M (aY.mpr rfl) hm (ar.refl H) ?_;cases d <;> exact q
 |_=>exact q.elim⟩
def RY:D->Mem->bK->Prop:=λ x M Q=>match x with
 | .int i=>Q (.int (-i)) M
 |_=>False
theorem Ky:VW X (unaryOp .USub) RY:=⟨_,Lz,λ x d H M Q2 Q hd hm q k=>by
 cases d with
 |int i=>exact⟨i,au.mp hd,k _ H _ M (au.mpr rfl) hm (ar.refl H) q⟩
 |_=>exact q.elim⟩
def qu:List D->Option (List V)
 |[]=>some []
 |d::r=>match qw d,qu r with
  |some v,some vs=>some (v::vs)
  |_,_=>none
theorem nZ{K:J8}{H:Hp}:∀{ds:List D} {xs vs:List V},qu ds=some vs->aA K H ds xs->xs=vs/\vs.all gg=true
 |[],xs,vs,e,h=>by cases e;exact⟨ao.mp h,rfl⟩
 |d::r,xs,vs,e,h=>by
  obtain⟨x,ys,rfl,hx,hy⟩:=ag.mp h;unfold qu at e;cases e1:qw d with
  |none=>rw[e1]at e;cases e
  |some v=>
   cases e2:qu r with
   |none=>rw[e1,e2]at e;cases e
   |some ws=>rw[e1,e2]at e;cases e;obtain⟨h1,h2⟩:=nZ e2 hy;exact⟨by rw[qv e1 hx,h1],by rw[all_cons,n_ e1,h2];rfl⟩
def inD(x:D)(ds:List D):Option Bool:=match qw x,qu ds with
 |some v,some vs=>some (Ro v vs)
 |_,_=>none
def Xl:fZ:=λ x y M Q=>match y with
 | .str j=>match x with
  | .str i=>Q (.bl (!(Builtin.Str.occurrences j i 0 j.length 1).isEmpty)) M
  |_=>False
 | .tup ds=>match inD x ds with
  |some b=>Q (.bl b) M
  |none=>False
 | .ref a=>match M a with
  |some (.lst ds)=>match inD x ds with
   |some b=>Q (.bl b) M
   |none=>False
  |_=>False
 |_=>False
theorem EN{K:J8}{H:Hp}{x:V}{xs:List V}{d:D}{ds:List D}{b:Bool}(e:inD d ds=some b)(hd:Dat K H d x)(hx:aA K H ds xs):gg x=true/\xs.all gg=true/\Ro x xs=b:=by
 unfold inD at e;cases e1:qw d with
 |none=>rw[e1]at e;cases e
 |some v=>
  cases e2:qu ds with
  |none=>rw[e1,e2]at e;cases e
  |some vs=>rw[e1,e2]at e;have e:Ro v vs=b:=A9 e;obtain⟨rfl,h2⟩:=nZ e2 hx;cases(qv e1 hd);exact⟨n_ e1,h2,e⟩
theorem UC:fM X (compareOp .In) Xl:=⟨_,AJ.or AK,λ x y d e H M Q2 Q hd he hm q k=>by
 cases e with
 |str j=>
  cases(aX.mp he);cases d with
  |str i=>cases(aX.mp hd);exact .inl ⟨_,_,rfl,rfl,k _ H _ M (aY.mpr rfl) hm (ar.refl H) q⟩
  |_=>exact q.elim
 |tup ds=>
  obtain⟨p,xs,rfl,hp,hx⟩:=aU.mp he;have q:(match inD d ds with|some b=>Q2 (.bl b) M|none=>False):=q;cases ei:inD d ds with
  |none=>rw[ei]at q;exact q.elim
  |some b=>rw[ei]at q;obtain⟨h1,h2,h3⟩:=EN ei hd hx;refine .inr ⟨p,xs,rfl,.inr hp,h1,h2,?_⟩;simp only[o7,J3];rw[h3];exact k _ H _ M (aY.mpr rfl) hm (ar.refl H) q
 |ref a=>
  cases(aE.mp he);have q:(match M a with|some (.lst ds)=>(match inD d ds with|some b=>Q2 (.bl b) M|none=>False)|_=>False):=q;cases ea:M a with
  |none=>rw[ea]at q;exact q.elim
  |some o=>
   cases o with
   |cL b kvs=>rw[ea]at q;exact q.elim
   |fm x=>rw[ea]at q;exact q.elim
   |lst ds=>
    rw[ea]at q;obtain⟨xs,hx,dx⟩:=hm a _ ea;cases ei:inD d ds with
    |none=>simp only[ei]at q
    |some b=>simp only[ei]at q;obtain⟨h1,h2,h3⟩:=EN ei hd dx;refine .inr ⟨a,xs,rfl,.inl (eW.of hx),h1,h2,?_⟩;simp only[o7,J3];rw[h3];exact k _ H _ M (aY.mpr rfl) hm (ar.refl H) q
 |_=>exact q.elim⟩
end
end L3
namespace L3
open PySem PySem.Spec L2
theorem Kp{K:J8}{H:Hp}{ds:List D}{xs:List V}(h:aA K H ds xs){i:Int}{d:D}(e:gr ds i=some d):∃x,gr xs i=some x/\Dat K H d x:=by
 unfold gr at e ⊢;rw[h.length];cases q:A_ ds.length i with
 |none=>rw[q]at e;cases e
 |some j=>rw[q]at e;obtain⟨x,h1,h2⟩:=h.get (i:=j) e;exact⟨x,h1,h2⟩
section
variable {X:Cx}
def bf(M:Mem)(a:Addr):Option (List D):=match M a with
 |some (.lst ds)=>some ds
 |_=>none
theorem eM{K:J8}{H:Hp}{M:Mem}{a:Addr}{ds:List D}(e:bf M a=some ds)(hm:RelM K H M):∃xs,H a=some (.lst xs)/\aA K H ds xs:=by
 unfold bf at e;cases q:M a with
 |none=>rw[q]at e;cases e
 |some o=>
  cases o with
  |cL b kvs=>rw[q]at e;cases e
  |fm x=>rw[q]at e;cases e
  |lst es=>rw[q]at e;cases e;exact hm a _ q
def cE(M:Mem):D->Option (List D)
 | .tup ds=>some ds
 | .fl ds=>some ds
 | .ref a=>bf M a
 |_=>none
theorem gA{K:J8}{H:Hp}{M:Mem}{d:D}{v:V}{ds:List D}(e:cE M d=some ds)(hd:Dat K H d v)(hm:RelM K H M):∃p xs,v=.ref p/\(eW K H p xs\/fJ K H p xs)/\aA K H ds xs:=by
 cases d with
 |tup es=>cases e;obtain⟨p,xs,rfl,h,q⟩:=aU.mp hd;exact⟨p,xs,rfl,.inr h,q⟩
 |fl es=>cases e;obtain⟨p,xs,rfl,h,q⟩:=jc.mp hd;exact⟨p,xs,rfl,.inl h.sq,q⟩
 |ref a=>cases(aE.mp hd);obtain⟨xs,h,q⟩:=eM e hm;exact⟨a,xs,rfl,.inl (eW.of h),q⟩
 |_=>cases e
def Pt:fZ:=λ x y M Q=>match y with
 | .int i=>match x with
  | .str z=>z.length<=sizeLine/\(match gr z.cps.toList i with
   |some c=>Q (.str ⟨#[c]⟩) M
   |none=>False)
  |x=>match cE M x with
   |some ds=>(match gr ds i with
    |some d=>Q d M
    |none=>False)
   |none=>False
 |_=>False
theorem rJ{x:V}{d:D}{i:Int}{H:Hp}{M:Mem}{Q2:bK}{Q:VK}{K:J8}(hd:Dat K H d x)(hm:RelM K H M)(k:iL K H Q2 Q) (q:match cE M d with|some ds=>(match gr ds i with|some d=>Q2 d M|none=>False)|none=>False):∃p xs v,x=.ref p/\(eW K H p xs\/fJ K H p xs)/\gr xs i=some v/\Q v H:=by
 cases e:cE M d with
 |none=>rw[e]at q;exact q.elim
 |some ds=>
  rw[e]at q;cases ei:gr ds i with
  |none=>simp only[ei]at q
  |some d'=>simp only[ei]at q;obtain⟨p,xs,rfl,h,hx⟩:=gA e hd hm;obtain⟨v,h1,h2⟩:=Kp hx ei;exact⟨p,xs,v,rfl,h,h1,k v H d' M h2 hm (ar.refl H) q⟩
theorem aI:Si X Pt:=⟨_,L2.aI,λ x y d e H M Q2 Q hd he hm q k=>by
 cases e with
 |int i=>
  cases(au.mp he);cases d with
  |str z=>
   cases(aX.mp hd);obtain⟨hz,q⟩:=q;refine⟨hz,?_⟩;cases ei:gr z.cps.toList i with
   |none=>rw[ei]at q;exact q.elim
   |some c=>rw[ei]at q;exact⟨c,rfl,k _ H _ M (aX.mpr rfl) hm (ar.refl H) q⟩
  |tup ds=>obtain⟨p,xs,v,rfl,h⟩:=rJ (d:=.tup ds) (i:=i) hd hm k q;exact⟨xs,v,h⟩
  |fl ds=>obtain⟨p,xs,v,rfl,h⟩:=rJ (d:=.fl ds) (i:=i) hd hm k q;exact⟨xs,v,h⟩
  |ref a=>obtain⟨p,xs,v,rfl,h⟩:=rJ (d:=.ref a) (i:=i) hd hm k q;exact⟨xs,v,h⟩
  |_=>exact q.elim
 |_=>exact q.elim⟩
def cutD(xs:List D)(lo hi:Option Int):List D:=(xs.drop (HT.cx xs.length 0 lo)).take (HT.cx xs.length xs.length hi - HT.cx xs.length 0 lo)
theorem uU{K:J8}{H:Hp}{ds:List D}{xs:List V}(h:aA K H ds xs)(lo hi:Option Int):aA K H (cutD ds lo hi) (uV xs lo hi):=by unfold cutD uV;rw[h.length];exact(h.drop _).take _
def Xk:D->Option Int->Option Int->Mem->bK->Prop:=λ x lo hi M Q=>match x with
 | .str z=>z.length<=sizeLine/\Q (.str (xg z lo hi)) M
 | .tup ds=>¬(HT.cx ds.length 0 lo=0/\HT.cx ds.length ds.length hi=ds.length)/\Q (.tup (cutD ds lo hi)) M
 | .ref a=>match bf M a with
  |some ds=>∀p,M p=none->Q (.ref p) (ah M p (.lst (cutD ds lo hi)))
  |none=>False
 |_=>False
theorem fR:Se X Xk:=⟨_,L2.fR,λ x d lo hi H M Q2 Q hd hm q k=>by
 cases d with
 |str z=>cases(aX.mp hd);exact⟨q.1,k _ H _ M (aX.mpr rfl) hm (ar.refl H) q.2⟩
 |tup ds=>obtain⟨p,xs,rfl,h,hx⟩:=aU.mp hd;refine .inr ⟨p,xs,rfl,h,by rw[hx.length];exact q.1,λ p2 eT=>?_⟩;exact k _ _ _ M (g_ eT (uU hx lo hi)) (hm.laid eT) (ar.laid eT) q.2
 |ref a=>
  cases(aE.mp hd);have q:(match bf M a with|some ds=>∀p,M p=none->Q2 (.ref p) (ah M p (.lst (cutD ds lo hi)))|none=>False):=q;cases e:bf M a with
  |none=>rw[e]at q;exact q.elim
  |some ds=>rw[e]at q;obtain⟨xs,h,hx⟩:=eM e hm;exact .inl ⟨a,xs,rfl,eW.of h,λ p hp=>k _ _ (.ref p) _ (aE.mpr rfl) (dR hp (uU hx lo hi) hm) (ar.laid hp) (q p (hm.free hp))⟩
 |_=>exact q.elim⟩
def Bs:List D->Mem->bK->Prop:=λ xs M Q=>match xs with
 |[.str z]=>z.length<=sizeLine/\Q (.int z.length) M
 |[x]=>match cE M x with
  |some ds=>Q (.int ds.length) M
  |none=>False
 |_=>False
theorem bO:dE X (.builtin "len") Bs:=⟨_,sf.or sg,λ xs ds H M Q2 Q hd hm q k=>by
 cases ds with
 |nil=>exact q.elim
 |cons d r=>
  cases r with
  |cons d2 r2=>cases d <;> exact q.elim
  |nil=>
   obtain⟨x,r,rfl,hx,hr⟩:=ag.mp hd;cases(ao.mp hr);have seq:(match cE M d with|some ds=>Q2 (.int ds.length) M|none=>False)->∃p ys,[x]=[V.ref p]/\(eW X.K H p ys\/fJ X.K H p ys)/\Q (.int ys.length) H:=λ q=>by
    cases e:cE M d with
    |none=>rw[e]at q;exact q.elim
    |some es=>rw[e]at q;obtain⟨p,ys,rfl,h,hy⟩:=gA e hx hm;refine⟨p,ys,rfl,h,?_⟩;rw[hy.length];exact k _ H _ M (au.mpr rfl) hm (ar.refl H) q
   cases d with
   |str z=>cases(aX.mp hx);exact .inl ⟨z,rfl,q.1,k _ H _ M (au.mpr rfl) hm (ar.refl H) q.2⟩
   |tup es=>exact .inr (seq q)
   |fl es=>exact .inr (seq q)
   |ref a=>exact .inr (seq q)
   |_=>exact q.elim⟩
def dList:List D->Mem->bK->Prop:=λ xs M Q=>match xs with
 |[x]=>match cE M x with
  |some ds=>∀p,M p=none->Q (.ref p) (ah M p (.lst ds))
  |none=>False
 |_=>False
theorem FY:dE X (.type "list") dList:=⟨_,r_,λ xs ds H M Q2 Q hd hm q k=>by
 cases ds with
 |nil=>exact q.elim
 |cons d r=>
  cases r with
  |cons d2 r2=>exact q.elim
  |nil=>
   obtain⟨x,r,rfl,hx,hr⟩:=ag.mp hd;cases(ao.mp hr);have q:(match cE M d with|some ds=>∀p,M p=none->Q2 (.ref p) (ah M p (.lst ds))|none=>False):=q;cases e:cE M d with
   |none=>rw[e]at q;exact q.elim
   |some es=>
    rw[e]at q;obtain⟨p,ys,rfl,h,hy⟩:=gA e hx hm;exact⟨p,ys,rfl,h,λ l hl=>k _ _ (.ref l) _ (aE.mpr rfl) (dR hl hy hm) (ar.laid hl) (q l (hm.free hl))⟩⟩
def xb:List D->Mem->bK->Prop:=λ xs M Q=>match xs with
 |[x]=>match cE M x with
  |some ds=>Q (.tup ds) M
  |none=>False
 |_=>False
theorem bY:dE X (.type "tuple") xb:=⟨_,pB,λ xs ds H M Q2 Q hd hm q k=>by
 cases ds with
 |nil=>exact q.elim
 |cons d r=>
  cases r with
  |cons d2 r2=>exact q.elim
  |nil=>
   obtain⟨x,r,rfl,hx,hr⟩:=ag.mp hd;cases(ao.mp hr);have q:(match cE M d with|some ds=>Q2 (.tup ds) M|none=>False):=q;cases e:cE M d with
   |none=>rw[e]at q;exact q.elim
   |some es=>
    rw[e]at q;obtain⟨p,ys,rfl,h|h,hy⟩:=gA e hx hm
    ·exact⟨p,ys,rfl,.inl ⟨h,λ l hl=>k _ _ (.tup es) M (g_ hl hy) (hm.laid hl) (ar.laid hl) q⟩⟩
    ·exact⟨p,ys,rfl,.inr ⟨h,k _ H (.tup es) M (aU.mpr ⟨p,ys,rfl,h,hy⟩) hm (ar.refl H) q⟩⟩⟩
theorem eK:oB xb (λ ds M Q=>Q (.tup ds) M):=λ ds M p Q hp hz q=>by
 show(match cE (ah M p (.lst ds)) (.ref p)with|some es=>fin2 Q (.tup es) (ah M p (.lst ds))|none=>False);have e:cE (ah M p (.lst ds)) (.ref p)=some ds:=by show bf (ah M p (.lst ds)) p=some ds;unfold bf;rw[af]
 rw[e];exact⟨M,(pF.refl M).put hp,q⟩
def lM:List D->Option (List Bool)
 |[]=>some []
 | .bl b::r=>(lM r).map (b::·)
 |_::_=>none
theorem ow:∀(bs:List Bool),lM (bs.map D.bl)=some bs
 |[]=>rfl
 |b::bs=>by rw[C9];unfold lM;rw[ow bs];rfl
theorem zE:∀{ds:List D} {bs:List Bool},lM ds=some bs->ds=bs.map D.bl
 |[],bs,e=>by cases e;rfl
 |d::r,bs,e=>by
  cases d with
  |bl b=>
   unfold lM at e;cases q:lM r with
   |none=>rw[q]at e;cases e
   |some cs=>rw[q]at e;cases e;rw[zE q];rfl
  |_=>cases e
def R5:List D->Mem->bK->Prop:=λ xs M Q=>match xs with
 |[.ref a]=>match bf M a with
  |some ds=>match lM ds with
   |some bs=>Q (.bl (bs.all id)) M
   |none=>False
  |none=>False
 |_=>False
theorem R'(hc:X.calm=true):dE X (.builtin "all") R5:=⟨_,va hc,λ xs ds H M Q2 Q hd hm q k=>by
 cases ds with
 |nil=>exact q.elim
 |cons d r=>
  cases r with
  |cons d2 r2=>cases d <;> exact q.elim
  |nil=>
   cases d with
   |ref a=>
    obtain⟨x,r,rfl,hx,hr⟩:=ag.mp hd;cases(ao.mp hr);cases(aE.mp hx);have q:(match bf M a with|some ds=>(match lM ds with|some bs=>Q2 (.bl (bs.all id)) M|none=>False)|none=>False):=q;cases e:bf M a with
    |none=>rw[e]at q;exact q.elim
    |some es=>
     rw[e]at q;cases eb:lM es with
     |none=>simp only[eb]at q
     |some bs=>simp only[eb]at q;obtain⟨ys,h,hy⟩:=eM e hm;rw[zE eb]at hy;exact⟨a,bs,rfl,eW.of (by rw[h,uN hy]),k _ H _ M (aY.mpr rfl) hm (ar.refl H) q⟩
   |_=>exact q.elim⟩
theorem AS{M:Mem}{p:Addr}{ds:List D}:bf (ah M p (.lst ds)) p=some ds:=by unfold bf;rw[af]
def zq:List D->Mem->bK->Prop:=λ ds M Q=>match lM ds with
 |some bs=>Q (.bl (bs.all id)) M
 |none=>False
theorem GR:oB R5 zq:=λ ds M p Q hp hz q=>by
 show(match bf (ah M p (.lst ds)) p with|some Zx=>(match lM Zx with|some bs=>fin2 Q (.bl (bs.all id)) (ah M p (.lst ds))|none=>False)|none=>False);rw[AS];unfold zq at q;cases eb:lM ds with
 |none=>rw[eb]at q;exact q.elim
 |some bs=>rw[eb]at q;simp only[eb];exact⟨M,(pF.refl M).put hp,q⟩
def mT(M:Mem):D->Option String
 | .bx=>some "NoneType"
 | .bl _=>some "bool"
 | .int _=>some "int"
 | .str _=>some "str"
 | .tup _=>some "tuple"
 | .fl _=>some "list"
 | .ref a=>(bf M a).map λ _=>"list"
 |_=>none
def rK(n T:String):Bool:=n==T||(n=="bool"&&T=="int")
structure gi(K:J8)(T:String):Prop where
 bx:PySem.W.kitOne K (.type "NoneType") (.type T)=some (rK "NoneType" T)
 bl:PySem.W.kitOne K (.type "bool") (.type T)=some (rK "bool" T)
 int:PySem.W.kitOne K (.type "int") (.type T)=some (rK "int" T)
 str:PySem.W.kitOne K (.type "str") (.type T)=some (rK "str" T)
 tup:PySem.W.kitOne K (.type "tuple") (.type T)=some (rK "tuple" T)
 lst:PySem.W.kitOne K (.type "list") (.type T)=some (rK "list" T)
end
end L3
namespace L3
open PySem PySem.Spec L2
section
variable {X:Cx}
theorem FX:di X (.builtin "isinstance") (λ xs H Q=>∃(x:V) (T n:String),xs=[x,.ty T]/\gi X.K T/\
  ((x=.bx/\n="NoneType")\/(∃b,x=.bl b/\n="bool")\/(∃i,x=.int i/\n="int")\/(∃z,x=.str z/\n="str")\/(∃p ys,x=.ref p/\fJ X.K H p ys/\n="tuple")\/(∃p ys,x=.ref p/\eW X.K H p ys/\n="list"))/\Q (.bl (rK n T)) H):=by
 intro pins s σ H xs us Q I r h;obtain⟨x,T,n,rfl,ok,hx,q⟩:=h;obtain⟨u,w',rfl,rx,ry⟩:=vals2 r;have e:w'=Value.type T:=ry;subst e;rcases hx with⟨rfl,rfl⟩|⟨b,rfl,rfl⟩|⟨i,rfl,rfl⟩|⟨z,rfl,rfl⟩|⟨p,ys,rfl,hq,rfl⟩|⟨p,ys,rfl,hq,rfl⟩
 ·exact ir I rx .bx ok.bx λ tk=>⟨.bl _,H,I.tok tk,rfl,q⟩
 ·exact ir I rx (.bl b) ok.bl λ tk=>⟨.bl _,H,I.tok tk,rfl,q⟩
 ·exact ir I rx (.int i) ok.int λ tk=>⟨.bl _,H,I.tok tk,rfl,q⟩
 ·exact ir I rx (.str z) ok.str λ tk=>⟨.bl _,H,I.tok tk,rfl,q⟩
 ·cases(show u=Value.ref p from rx);obtain⟨ax,_,⟨o,h1,h2,_⟩,_⟩:=I.tuple hq;exact B3 PySem.W.kitx_tuple I.oY ⟨o,h1,h2⟩ ok.tup (λ z=>nomatch z) λ tk=>⟨.bl _,H,I.tok tk,rfl,q⟩
 ·cases(show u=Value.ref p from rx);obtain⟨ax,_,pl,_⟩:=I.list hq;obtain⟨o,h1,h2,_⟩:=pl.isList;exact B3 PySem.W.kitx_list I.oY ⟨o,h1,h2⟩ ok.lst (λ z=>nomatch z) λ tk=>⟨.bl _,H,I.tok tk,rfl,q⟩
def Lj(T:String):List D->Mem->bK->Prop:=λ xs M Q=>match xs with
 |[x,.ty U]=>U=T/\(match mT M x with
  |some n=>Q (.bl (rK n T)) M
  |none=>False)
 |_=>False
theorem gh{T:String}(ok:gi X.K T):dE X (.builtin "isinstance") (Lj T):=⟨_,FX,λ xs ds H M Q2 Q hd hm q k=>by
 cases ds with
 |nil=>exact q.elim
 |cons d r0=>
 cases r0 with
 |nil=>exact q.elim
 |cons d2 r1=>
 cases r1 with
 |cons _ _=>cases d2 <;> exact q.elim
 |nil=>
 cases d2 with
 |ty U=>
  obtain⟨x,r,rfl,hx,hr⟩:=ag.mp hd;obtain⟨y,r2,rfl,hy,BM⟩:=ag.mp hr;cases(ao.mp BM);cases(wZ.mp hy);obtain⟨rfl,q⟩:=q;cases e:mT M d with
  |none=>rw[e]at q;exact q.elim
  |some n=>
   rw[e]at q;refine⟨x,U,n,rfl,ok,?_,k _ H _ M (aY.mpr rfl) hm (ar.refl H) q⟩;cases d with
   |bx=>cases e;exact .inl ⟨dA.mp hx,rfl⟩
   |bl b=>cases e;exact .inr (.inl ⟨b,aY.mp hx,rfl⟩)
   |int i=>cases e;exact .inr (.inr (.inl ⟨i,au.mp hx,rfl⟩))
   |str z=>cases e;exact .inr (.inr (.inr (.inl ⟨z,aX.mp hx,rfl⟩)))
   |tup es=>cases e;obtain⟨p,ys,rfl,h,_⟩:=aU.mp hx;exact .inr (.inr (.inr (.inr (.inl ⟨p,ys,rfl,h,rfl⟩))))
   |fl es=>cases e;obtain⟨p,ys,rfl,h,_⟩:=jc.mp hx;exact .inr (.inr (.inr (.inr (.inr ⟨p,ys,rfl,h.sq,rfl⟩))))
   |ref a=>
    cases el:bf M a with
    |none=>have e:(bf M a).map (λ _=>"list")=some n:=e;rw[el]at e;cases e
    |some es=>have e:(bf M a).map (λ _=>"list")=some n:=e;rw[el]at e;cases e;obtain⟨ys,h,_⟩:=eM el hm;exact .inr (.inr (.inr (.inr (.inr ⟨a,ys,aE.mp hx,eW.of h,rfl⟩))))
   |ty n=>cases e
 |_=>exact q.elim⟩
def Kb:jX:=λ o i v M N=>match o,i with
 | .ref a,.int k=>match bf M a with
  |some ds=>(match A_ ds.length k with
   |some j=>N (ah M a (.lst (ds.set j v)))
   |none=>False)
  |none=>False
 |_,_=>False
theorem ni:Gj X Kb:=⟨_,set_list,λ o i v d j e H M Q2 Q hd hj he hm q k=>by
 cases d with
 |ref a=>
  cases j with
  |int n=>
   cases(aE.mp hd);cases(au.mp hj);have q:(match bf M a with|some ds=>(match A_ ds.length n with|some j=>Q2 (ah M a (.lst (ds.set j e)))|none=>False)|none=>False):=q;cases el:bf M a with
   |none=>rw[el]at q;exact q.elim
   |some ds=>
    rw[el]at q;cases ei:A_ ds.length n with
    |none=>simp only[ei]at q
    |some m=>simp only[ei]at q;obtain⟨xs,h,hx⟩:=eM el hm;refine⟨a,xs,n,m,rfl,rfl,h,by rw[hx.length];exact ei,?_⟩;exact k _ _ (hm.put (u:=.lst (ds.set m e)) (ar.lst h) ⟨_,aP,aA.mono (ar.lst h) _ (hx.set he m)⟩) (ar.lst h) q
  |_=>exact q.elim
 |_=>exact q.elim⟩
end
end L3
namespace L3
open PySem L2
section
variable {δ:cS}{M M1:Mem}{Q:bK}{ta tb tc:cu}{r r':fZ}{E:iP}{t u:jY}{c c':fz}{QB:Bool->Mem->Prop}{tl:eO}{QL:List D->Mem->Prop}
theorem C_(h:t {E with nx:=u E} δ M):CG t u E δ M:=h
theorem Dk(h:c δ M λ b M1=>if b=true then t E δ M1 else u E δ M1):Hq c t u E δ M:=h
theorem Hz(h:E.nx δ M):xV E δ M:=h
theorem vZ(h:ta δ M E.rt):LS ta E δ M:=h
theorem Dr{g:iE}(h:ta δ M λ d M1=>g d δ M1 E.nx):tN ta g E δ M:=h
theorem rk(h:ta δ M λ _ M1=>E.nx δ M1):tL ta E δ M:=h
theorem dq{i:Nat}{d:D}{N:cS->Mem->Prop}(h:N (δ.set i (some d)) M):hName i d δ M N:=h
theorem Md{d:D}{N:cS->Mem->Prop}{s:jX}(h:ta δ M λ o M1=>tb δ M1 λ j M2=>s o j d M2 λ M3=>N δ M3):hSub ta tb s d δ M N:=h
theorem Me{a:Addr}{k:Int}{v:D}{ds:List D}{j:Nat}{N:Mem->Prop}(h:M a=some (.lst ds))(e:A_ ds.length k=some j)(q:N (ah M a (.lst (ds.set j v)))):Kb (.ref a) (.int k) v M N:=by
 show(match bf M a with|some ds=>(match A_ ds.length k with|some j=>N (ah M a (.lst (ds.set j v)))|none=>False)|none=>False);have e1:bf M a=some ds:=by unfold bf;rw[h]
 rw[e1];simp only[e];exact q
theorem lW(h:ta δ M λ d M1=>match d with| .bl k=>QB k M1|_=>False):lh ta δ M QB:=h
theorem x_(h:ta δ M λ d M1=>tb δ M1 λ e M2=>r d e M2 Q):Ar r ta tb δ M Q:=h
theorem Qf{s:D->Mem->bK->Prop}(h:ta δ M λ d M1=>s d M1 Q):Ub s ta δ M Q:=h
theorem fi{i:Nat}{d:D}(e:δ[i]?=some (some d))(h:Q d M):fF i δ M Q:=by unfold fF;rw[e];exact h
theorem Ms{d:D}(h:Q d M):sC d δ M Q:=h
theorem Mu(h:c δ M λ b M1=>if b=true then c' δ M1 QB else QB false M1):L6 c c' δ M QB:=h
theorem KN(h:c δ M λ b M1=>if b=true then QB true M1 else c' δ M1 QB):SW c c' δ M QB:=h
theorem Mg(h:c δ M λ b M1=>QB (!b) M1):LU c δ M QB:=h
theorem HS(h:ta δ M λ d M1=>match d with| .bl c=>(if c=true then tb δ M1 Q else Q (.bl false) M1)|_=>False):CO ta tb δ M Q:=h
theorem iS(h:QL [] M):vT δ M QL:=h
theorem jA(h:ta δ M λ d M1=>tl δ M1 λ ds M2=>QL (d::ds) M2):nk ta tl δ M QL:=h
theorem Mb(h:tl δ M λ ds M1=>ds.length<=sizeLine/\Q (.tup ds) M1):LR tl δ M Q:=h
theorem Mk(h:tl δ M λ ds M1=>ds.length<=sizeLine/\∀p,M1 p=none->Q (.ref p) (ah M1 p (.lst ds))):LV tl δ M Q:=h
theorem KQ{s:List D->Mem->bK->Prop}(h:tl δ M λ ds M1=>s ds M1 Q):LZ s tl δ M Q:=h
theorem Uh{sp:gs}(h:tl δ M λ ds M1=>sp ds M1 Q):sD sp tl δ M Q:=h
theorem KL{s:D->Option Int->Option Int->Mem->bK->Prop}{l h':GG}(h:ta δ M λ d M1=>l δ M1 λ i M2=>h' δ M2 λ j M3=>s d i j M3 Q):SV s ta l h' δ M Q:=h
theorem qc{QO:Option Int->Mem->Prop}(h:QO none M):lV δ M QO:=h
theorem Hy{QO:Option Int->Mem->Prop}(h:ta δ M λ d M1=>match d with| .int i=>QO (some i) M1|_=>False):CH ta δ M QO:=h
theorem yc{T:String}{s:D->List D->Mem->bK->Prop}(h:ta δ M λ d M1=>O7 T d M1/\tl δ M1 λ ds M2=>s d ds M2 Q):O9 T s ta tl δ M Q:=h
theorem Mt{T:String}{s:D->List D->Mem->bK->Prop}(h:ta δ M λ d M1=>O7 T d M1/\s d [] M1 Q):L1 T s ta δ M Q:=h
theorem gG(W:cS->Mem->Prop)(h1:∀N:cS->Mem->Prop,(∀δ' M',W δ' M'->N δ' M')->t {E with nx:=N} δ M)(h2:∀δ' M',W δ' M'->u E δ' M'):CG t u E δ M:=h1 (u E) h2
set_option tactic.hygienic true in
theorem pN{M:Mem}{a:Addr}{o:MO}(h:M a=some o):ah M a o=M:=by
 funext b;unfold ah;split
 ·rename_i e;rw[e,h]
 ·rfl
theorem cF{a:Addr}{i:Int}{ds:List D}{d:D}(h:M a=some (.lst ds))(e:gr ds i=some d)(q:Q d M):Pt (.ref a) (.int i) M Q:=by
 show(match bf M a with|some ds=>(match gr ds i with|some d=>Q d M|none=>False)|none=>False);have e1:bf M a=some ds:=by unfold bf;rw[h]
 rw[e1];simp only[e];exact q
theorem bI{i:Int}{ds:List D}{d:D}(e:gr ds i=some d)(q:Q d M):Pt (.tup ds) (.int i) M Q:=by show(match gr ds i with|some d=>Q d M|none=>False);rw[e];exact q
theorem Ug{C:Int->Int->Prop}{g:Int->Int->D}{i j:Int}(h:C i j)(q:Q (g i j) M):dI C g (.int i) (.int j) M Q:=⟨h,q⟩
theorem Df{g:Int->Int->D}{i j:Int}(h:0 < j)(q:Q (g i j) M):dI (λ _ j=>0 < j) g (.int i) (.int j) M Q:=⟨h,q⟩
theorem Mr{g:Int->Int->D}{i j:Int}(h:0 < j)(h2:j < 1073741824)(q:Q (g i j) M):dI O6 g (.int i) (.int j) M Q:=⟨⟨h,h2⟩,q⟩
theorem OQ{i j:Int}(h0: -1000000000000<=i)(h1:i<=1000000000000):sH i j:=.inl ⟨Int.lt_of_lt_of_le (by decide) h0,p9 h1 (by decide)⟩
theorem FU{i j:Int}(h0: -1000000000000<=j)(h1:j<=1000000000000):sH i j:=.inr ⟨Int.lt_of_lt_of_le (by decide) h0,p9 h1 (by decide)⟩
theorem KP{g:Int->Int->D}{i j:Int}(q:Q (g i j) M):Ke g (.int i) (.int j) M Q:=q
theorem HU{a b:Addr}{xs ys:List D}(ha:M a=some (.lst xs))(hb:M b=some (.lst ys))(h:xs.length+ys.length<=sizeLine)(q:∀p,M p=none->Q (.ref p) (ah M p (.lst (xs++ys)))):Kf (.ref a) (.ref b) M Q:=by show(match M a,M b with|some (.lst xs),some (.lst ys)=>xs.length+ys.length<=sizeLine/\∀p,M p=none->Q (.ref p) (ah M p (.lst (xs++ys)))|_,_=>False);rw[ha,hb];exact⟨h,q⟩
theorem HC{i j:Int}(h:sH i j)(q:Q (.int (i*j)) M):OL (.int i) (.int j) M Q:=⟨h,q⟩
theorem Mp{i j:Int}(q:Q (.bl (decide (i=j))) M):Ll false (.int i) (.int j) M Q:=by show Q (.bl (xor false (decide (i=j)))) M;simpa using q
theorem Mq{i j:Bool}(q:Q (.bl (decide (i=j))) M):Ll false (.bl i) (.bl j) M Q:=by show Q (.bl (xor false (decide (i=j)))) M;simpa using q
theorem Mo{i j:Str}(q:Q (.bl (decide (i=j))) M):Ll false (.str i) (.str j) M Q:=by show Q (.bl (xor false (decide (i=j)))) M;simpa using q
theorem Mi{i j:Int}(q:Q (.bl (!decide (i=j))) M):Ll true (.int i) (.int j) M Q:=by show Q (.bl (xor true (decide (i=j)))) M;simpa using q
theorem Mj{i j:Bool}(q:Q (.bl (!decide (i=j))) M):Ll true (.bl i) (.bl j) M Q:=by show Q (.bl (xor true (decide (i=j)))) M;simpa using q
theorem rf{a:Addr}{ds:List D}(h:M a=some (.lst ds))(q:Q (.int ds.length) M):Bs [.ref a] M Q:=by
 show(match bf M a with|some ds=>Q (.int ds.length) M|none=>False);have e1:bf M a=some ds:=by unfold bf;rw[h]
 rw[e1];exact q
theorem HG{ds:List D}(q:Q (.int ds.length) M):Bs [.tup ds] M Q:=q
theorem Dh{ds:List D}(q:∀p,M p=none->Q (.ref p) (ah M p (.lst ds))):dList [.fl ds] M Q:=q
theorem Mh{i:Int}(q:Q (.int (-i)) M):RY (.int i) M Q:=q
theorem aS{P:Prop}{inst:Decidable P}{A B:Prop}(h1:P->A)(h2:¬P->B):if @decide P inst=true then A else B:=by
 by_cases h:P
 ·rw[C0 h,J6 rfl];exact h1 h
 ·rw[A7 h,J7 n9];exact h2 h
theorem lX{P:Prop}{inst:Decidable P}{A B:Prop}(h1:¬P->A)(h2:P->B):if(!@decide P inst)=true then A else B:=by
 by_cases h:P
 ·rw[C0 h,Bool.not_true,J7 n9];exact h2 h
 ·rw[A7 h,Bool.not_false,J6 rfl];exact h1 h
theorem HH{A B:Prop}(h:A):if true=true then A else B:=by rw[J6 rfl];exact h
theorem ya{A B:Prop}(h:B):if false=true then A else B:=by rw[J7 n9];exact h
theorem h_{b:Bool}{A B:Prop}(h1:b=true->A)(h2:b=false->B):if b=true then A else B:=by
 cases b with
 |true=>rw[J6 rfl];exact h1 rfl
 |false=>rw[J7 n9];exact h2 rfl
end
end L3
namespace L3
open PySem L2
section
variable {g:iE}{tt:fz}{te:cu}{tb:jY}{δ δc:cS}{M1:Mem}{Qe:List D->Mem->Prop}{E:iP}
theorem oq{ds:List D}(Pv:Nat->List D->Mem->Prop)(h0:Pv 0 [] M1)(hz:∀i acc M,i<=ds.length->Pv i acc M->acc.length<=sizeLine) (hs:∀i d acc M,ds[i]?=some d->Pv i acc M->g d δc M λ δ2 M2=>tt δ2 M2 λ b M3=>if b=true then te δ2 M3 λ y M4=>Pv (i+1) (acc++[y]) M4 else Pv (i+1) acc M3) (hd:∀acc M,Pv ds.length acc M->Qe acc M):∃(B:Nat) (W:Nat->List D->Mem->Prop),W 0 [] M1/\∀i acc M,W i acc M->i<=B/\acc.length<=sizeLine/\match items (.fix ds) M with
   |none=>False
   |some ds=>match ds[i]? with
    |none=>i=ds.length/\Qe acc M
    |some d=>g d δc M λ δ2 M2=>tt δ2 M2 λ b M3=>if b=true then te δ2 M3 λ y M4=>W (i+1) (acc++[y]) M4 else W (i+1) acc M3:=by
 refine⟨ds.length,λ i acc M=>if i<=ds.length then Pv i acc M else False,by dsimp only;rw[J6 (G7 _)];exact h0,?_⟩;intro i acc M w;by_cases hi:i<=ds.length
 ·rw[J6 hi]at w;refine⟨hi,hz i acc M hi w,?_⟩;show(match ds[i]? with
    |none=>i=ds.length/\Qe acc M
    |some d=>g d δc M λ δ2 M2=>tt δ2 M2 λ b M3=>if b=true then te δ2 M3 λ y M4=>(if i+1<=ds.length then Pv (i+1) (acc++[y]) M4 else False)else(if i+1<=ds.length then Pv (i+1) acc M3 else False))
  cases e:ds[i]? with
  |none=>have:i=ds.length:=B7 hi (i3.mp e);subst this;exact⟨rfl,hd acc M w⟩
  |some d=>have iX:i+1<=ds.length:=(g9.mp e).1;simp only[J6 iX];exact hs i d acc M e w
 ·rw[J7 hi]at w;exact w.elim
theorem fU{ds:List D}(Pv:Nat->cS->Mem->Prop)(h0:Pv 0 δ M1) (hs:∀i d δ M,ds[i]?=some d->Pv i δ M->g d δ M λ δ2 M2=>tb {E with nx:=Pv (i+1),ct:=Pv (i+1),bk:=E.nx} δ2 M2) (hd:∀δ M,Pv ds.length δ M->E.nx δ M):∃(B:Nat) (W:Nat->cS->Mem->Prop),W 0 δ M1/\∀i δ M,W i δ M->i<=B/\match items (.fix ds) M with
   |none=>False
   |some ds=>match ds[i]? with
    |none=>i=ds.length/\E.nx δ M
    |some d=>g d δ M λ δ2 M2=>tb {E with nx:=W (i+1),ct:=W (i+1),bk:=E.nx} δ2 M2:=by
 refine⟨ds.length,λ i δ M=>if i<=ds.length then Pv i δ M else False,by dsimp only;rw[J6 (G7 _)];exact h0,?_⟩;intro i δ M w;by_cases hi:i<=ds.length
 ·rw[J6 hi]at w;refine⟨hi,?_⟩;show(match ds[i]? with
    |none=>i=ds.length/\E.nx δ M
    |some d=>g d δ M λ δ2 M2=>tb {E with nx:=(λ δ M=>if i+1<=ds.length then Pv (i+1) δ M else False),ct:=(λ δ M=>if i+1<=ds.length then Pv (i+1) δ M else False),bk:=E.nx} δ2 M2)
  cases e:ds[i]? with
  |none=>have:i=ds.length:=B7 hi (i3.mp e);subst this;exact⟨rfl,hd δ M w⟩
  |some d=>have iX:i+1<=ds.length:=(g9.mp e).1;simp only[J6 iX];exact hs i d δ M e w
 ·rw[J7 hi]at w;exact w.elim
theorem zd{a:Addr}{ds:List D}(Pv:Nat->cS->Mem->Prop)(h0:Pv 0 δ M1)(hl:∀i δ M,i<=ds.length->Pv i δ M->M a=some (.lst ds)) (hs:∀i d δ M,ds[i]?=some d->Pv i δ M->g d δ M λ δ2 M2=>tb {E with nx:=Pv (i+1),ct:=Pv (i+1),bk:=E.nx} δ2 M2) (hd:∀δ M,Pv ds.length δ M->E.nx δ M):∃(B:Nat) (W:Nat->cS->Mem->Prop),W 0 δ M1/\∀i δ M,W i δ M->i<=B/\match items (.at a) M with
   |none=>False
   |some ds=>match ds[i]? with
    |none=>i=ds.length/\E.nx δ M
    |some d=>g d δ M λ δ2 M2=>tb {E with nx:=W (i+1),ct:=W (i+1),bk:=E.nx} δ2 M2:=by
 refine⟨ds.length,λ i δ M=>if i<=ds.length then Pv i δ M else False,by dsimp only;rw[J6 (G7 _)];exact h0,?_⟩;intro i δ M w;by_cases hi:i<=ds.length
 ·rw[J6 hi]at w;refine⟨hi,?_⟩;have e0:items (.at a) M=some ds:=by show(match M a with|some (.lst ds)=>some ds|_=>none)=some ds;rw[hl i δ M hi w]
  rw[e0];show(match ds[i]? with
    |none=>i=ds.length/\E.nx δ M
    |some d=>g d δ M λ δ2 M2=>tb {E with nx:=(λ δ M=>if i+1<=ds.length then Pv (i+1) δ M else False),ct:=(λ δ M=>if i+1<=ds.length then Pv (i+1) δ M else False),bk:=E.nx} δ2 M2)
  cases e:ds[i]? with
  |none=>have:i=ds.length:=B7 hi (i3.mp e);subst this;exact⟨rfl,hd δ M w⟩
  |some d=>have iX:i+1<=ds.length:=(g9.mp e).1;simp only[J6 iX];exact hs i d δ M e w
 ·rw[J7 hi]at w;exact w.elim
end
section
variable {δ:cS}{M:Mem}{Q:bK}{wi:qG}{g:iE}{tt:fz}{te:cu}{n:Nat}{fr:List Nat}{ta:cu}{E:iP}{tb:jY}{tl:eO}{R:Src->Mem->Prop}
theorem Mc{r3:List D->Mem->bK->Prop}(h:wi δ M λ src M1=>∃(B:Nat) (W:Nat->List D->Mem->Prop),W 0 [] M1/\∀i acc M,W i acc M->i<=B/\acc.length<=sizeLine/\match items src M with
   |none=>False
   |some ds=>match ds[i]? with
    |none=>i=ds.length/\r3 acc M Q
    |some d=>g d (jf n fr δ) M λ δ2 M2=>tt δ2 M2 λ b M3=>if b=true then te δ2 M3 λ y M4=>W (i+1) (acc++[y]) M4 else W (i+1) acc M3):Aq r3 wi g tt te n fr δ M Q:=h
theorem Dq{Qe:List D->Mem->Prop}(h:wi δ M λ src M1=>∃(B:Nat) (W:Nat->List D->Mem->Prop),W 0 [] M1/\∀i acc M,W i acc M->i<=B/\acc.length<=sizeLine/\match items src M with
   |none=>False
   |some ds=>match ds[i]? with
    |none=>i=ds.length/\Qe acc M
    |some d=>g d (jf n fr δ) M λ δ2 M2=>tt δ2 M2 λ b M3=>if b=true then te δ2 M3 λ y M4=>W (i+1) (acc++[y]) M4 else W (i+1) acc M3):nu wi g tt te n fr δ M Qe:=h
theorem HM(h:nu wi g tt te n fr δ M λ ds M'=>∀p,M' p=none->Q (.ref p) (ah M' p (.lst ds))):tM wi g tt te n fr δ M Q:=h
theorem Mm(h:wi δ M λ src M1=>∃(B:Nat) (W:Nat->cS->Mem->Prop),W 0 δ M1/\∀i δ M,W i δ M->i<=B/\match items src M with
   |none=>False
   |some ds=>match ds[i]? with
    |none=>i=ds.length/\E.nx δ M
    |some d=>g d δ M λ δ2 M2=>tb {E with nx:=W (i+1),ct:=W (i+1),bk:=E.nx} δ2 M2):LX wi g tb E δ M:=h
theorem Hx(h:tl δ M λ ds M1=>match ds with|[.int j]=>V5 j/\R (.fix (cR 0 j.toNat)) M1|_=>False):EB tl δ M R:=h
theorem Ma{QB:Bool->Mem->Prop}(h:QB true M):tK δ M QB:=h
end
end L3
namespace L4
open PySem PySem.Spec L2 L3
structure WE(X:Cx)(e:Expr)(t:cu):Prop where
 h:QE X e t
structure WT(X:Cx)(e:Expr)(t:fz):Prop where
 h:QT X e t
structure WW(X:Cx)(e:Expr)(t:fz):Prop where
 h:QW X e t
structure WA(X:Cx)(e:List Expr)(t:eO):Prop where
 h:QA X e t
structure WS(X:Cx)(e:Stmt)(t:jY):Prop where
 h:QS X e t
structure GD(X:Cx)(e:List Stmt)(t:jY):Prop where
 h:GH X e t
structure WO(X:Cx)(e:Option Expr)(t:GG):Prop where
 h:QO X e t
structure WG(X:Cx)(e:Expr)(t:iE):Prop where
 h:QG X e t
structure Tv(X:Cx)(e:List Expr)(t:oC):Prop where
 h:Sf X e t
structure VV(X:Cx)(e:List Expr)(t:fz):Prop where
 h:TB X e t
structure WI(X:Cx)(tg e:Expr)(t:qG):Prop where
 h:QI X tg e t
theorem WW.pt {X:Cx}{e:Expr}{t:fz}(w:WW X e t):WT X e t:=⟨w.h.pt⟩
structure Kr(X:Cx)(scope:Scope)(tgs:List Str)(fr:List Nat)(tg:Expr)(g:iE):Prop where
 h:Sa X scope tgs fr tg g
structure iD(X:Cx)(scope:Scope)(tgs:List Str)(fr:List Nat)(tg iter:Expr)(ifs:List Expr)(elt:Expr)(wi:qG)(g:iE)(tt:fz)(te:cu):Prop where
 b:kg X scope fr
 calm:X.calm=true
 xe:∀e s,X.xe e s->False
 it:WI X tg iter wi
 XA:Kr X scope tgs fr tg g
 ifs:∀cl C fp s H,VV (bz X scope cl tgs fr C fp s H) ifs tt
 elt:∀cl C fp s H,WE (bz X scope cl tgs fr C fp s H) elt te
theorem iD.h {X:Cx}{scope:Scope}{tgs:List Str}{fr:List Nat}{tg iter:Expr}{ifs:List Expr}{elt:Expr}{wi:qG}{g:iE}{tt:fz}{te:cu}(C:iD X scope tgs fr tg iter ifs elt wi g tt te):oG X scope tgs fr tg iter ifs elt wi g tt te:=
 ⟨C.b,C.calm,C.xe,C.it.h,C.XA.h,λ cl D fp s H=>(C.ifs cl D fp s H).h,λ cl D fp s H=>(C.elt cl D fp s H).h⟩
section
variable {X:Cx}{a b c e:Expr}{ta tb tc:cu}{pos:Pos}
theorem ak(i:Nat){x:Str}(hN:X.N[i]?=some x:=by rfl)(hv:Lo X.env.scope x:=by first|exact Or.inl rfl|exact Or.inr (Or.inl rfl)|exact Or.inr (Or.inr rfl))(hd:(x==("__debug__":Str))=false:=by decide)(hcd:(x==("__classdict__":Str))=false:=by decide):WE X (.Name x pos) (fF i):=⟨XU (i:=i) (hN:=hN) (hv:=hv) (hd:=hd) (hcd:=hcd)⟩
theorem ai{i j}:WE X (.Constant (.int i) j pos) (sC (.int i)):=⟨QD⟩
theorem z_{i j}:WE X (.Constant (.bool i) j pos) (sC (.bl i)):=⟨Uv⟩
theorem xE{i j}:WE X (.Constant (.str i) j pos) (sC (.str i)):=⟨Qw⟩
theorem sX{j}:WE X (.Constant .none j pos) (sC .bx):=⟨Qy⟩
theorem lF{x:Str}{n:String}(hg:Gl X x)(hm:X.mg x=none)(hv:bootBuiltins x=some (.type n))(hn:x≠"__name__":=by decide)(hd:(x==("__debug__":Str))=false:=by decide):WE X (.Name x pos) (sC (.ty n)):=⟨Ur (hg:=hg) (hm:=hm) (hv:=hv) (hn:=hn) (hd:=hd)⟩
theorem bH{op:Operator}{r2:fZ}(o:fM X (binaryOp op) r2)(ha:WE X a ta)(hb:WE X b tb):WE X (.BinOp a op b pos) (Ar r2 ta tb):=⟨Us (o:=o) (ha:=ha.h) (hb:=hb.h)⟩
theorem PD{op:UnaryOp}{r2:D->Mem->bK->Prop}(o:VW X (unaryOp op) r2)(ha:WE X a ta):WE X (.UnaryOp op a pos) (Ub r2 ta):=⟨Uq (o:=o) (ha:=ha.h)⟩
theorem eD{op:CmpOp}{r2:fZ}(o:fM X (compareOp op) r2)(ha:WE X a ta)(hb:WE X b tb)(hm:behindInMarks op b=false):WE X (.Compare a [op] [b] pos) (Ar r2 ta tb):=⟨QH (o:=o) (ha:=ha.h) (hb:=hb.h) (hm:=hm)⟩
theorem aK{op:CmpOp}{r2:fZ}(o:fM X (compareOp op) r2)(ha:WE X a ta)(hb:WE X b tb)(hm:behindInMarks op b=false):WT X (.Compare a [op] [b] pos) (lh (Ar r2 ta tb)):=⟨MB (o:=o) (ha:=ha.h) (hb:=hb.h) (hm:=hm)⟩
theorem gu(h:WE X e ta)(he:∀whole,isTrue e X.env whole=(do let v <- whole;standAt e.pos;holding [v] (truthy v)):=by intro _;rfl):WT X e (lh ta):=⟨Mz (h:=h.h) (he:=he)⟩
variable {tA tB:fz}{rest:List Expr}
theorem qM(ha:WT X a tA):WW X (.BoolOp .And [a] pos) tA:=⟨HV (ha:=ha.h)⟩
theorem qL(ha:WT X a tA):WW X (.BoolOp .Or [a] pos) tA:=⟨Mx (ha:=ha.h)⟩
theorem qN(ha:WT X a tA)(hb:WW X (.BoolOp .And (b::rest) pos) tB):WW X (.BoolOp .And (a::b::rest) pos) (L6 tA tB):=⟨My (ha:=ha.h) (hb:=hb.h)⟩
theorem xC(ha:WT X a tA)(hb:WW X (.BoolOp .Or (b::rest) pos) tB):WW X (.BoolOp .Or (a::b::rest) pos) (SW tA tB):=⟨Qt (ha:=ha.h) (hb:=hb.h)⟩
theorem BV(ha:WT X a tA):WT X (.UnaryOp .Not a pos) (LU tA):=⟨MA (ha:=ha.h)⟩
theorem sW{op}(h:WE X a ta):WE X (.BoolOp op [a] pos) ta:=⟨Qx (h:=h.h)⟩
theorem w_and(ha:WE X a ta)(hb:WE X (.BoolOp .And (b::rest) pos) tb):WE X (.BoolOp .And (a::b::rest) pos) (CO ta tb):=⟨QK (ha:=ha.h) (hb:=hb.h)⟩
variable {es:List Expr}{t:eO}
theorem ab:WA X [] vT:=⟨MJ⟩
theorem aa(ha:WE X e ta)(hr:WA X es t)(hs:starEach (e::es) X.env=(false,eval e X.env)::starEach es X.env:=by rfl):WA X (e::es) (nk ta t):=⟨Ii (ha:=ha.h) (hr:=hr.h) (hs:=hs)⟩
theorem c_{x1}(h:WA X es t):WE X (.Tuple es x1 pos) (LR t):=⟨Qv (h:=h.h)⟩
theorem cz(h:WA X es t):WE X (.List es pos) (LV t):=⟨Qz (h:=h.h)⟩
theorem aL{r2:fZ}(o:Si X r2)(ha:WE X a ta)(hb:WE X b tb)(hs:sA b):WE X (.Subscript a b pos) (Ar r2 ta tb):=⟨Ut (o:=o) (ha:=ha.h) (hb:=hb.h) (hs:=hs)⟩
theorem qO:WO X none lV:=⟨Ia⟩
theorem xD(h:WE X e ta):WO X (some e) (CH ta):=⟨H_ (h:=h.h)⟩
variable {lo hi:Option Expr}{tl th:GG}{p2:Pos}
theorem qP{r2:D->Option Int->Option Int->Mem->bK->Prop}(o:Se X r2)(he:WE X e ta)(hl:WO X lo tl)(hu:WO X hi th):WE X (.Subscript e (.Slice lo hi none p2) pos) (SV r2 ta tl th):=⟨Ij (o:=o) (he:=he.h) (hl:=hl.h) (hu:=hu.h)⟩
variable {x:Str}{p:Pos}{id T:String}
theorem aD{r2:List D->Mem->bK->Prop}(o:dE X (.builtin id) r2)(hg:Gl X x)(hm:X.mg x=none)(hv:bootBuiltins x=some (.builtin id))(ha:WA X (e::es) t)(hn:x≠"__name__":=by decide)(hdb:(x==("__debug__":Str))=false:=by decide)(he:starEach (e::es) X.env=(false,eval e X.env)::starEach es X.env:=by rfl)(hpl:(backTo pos (starEach es X.env)).any (·.1)=false:=by rfl):WE X (.Call (.Name x p) (e::es) [] pos) (LZ r2 t):=⟨Iq (o:=o) (hg:=hg) (hm:=hm) (hv:=hv) (ha:=ha.h) (hn:=hn) (hdb:=hdb) (he:=he) (hpl:=hpl)⟩
theorem bR{r2:List D->Mem->bK->Prop}(o:dE X (.type T) r2)(hg:Gl X x)(hm:X.mg x=none)(hv:bootBuiltins x=some (.type T))(ha:WA X (e::es) t)(hn:x≠"__name__":=by decide)(hdb:(x==("__debug__":Str))=false:=by decide)(he:starEach (e::es) X.env=(false,eval e X.env)::starEach es X.env:=by rfl)(hpl:(backTo pos (starEach es X.env)).any (·.1)=false:=by rfl):WE X (.Call (.Name x p) (e::es) [] pos) (LZ r2 t):=⟨Im (o:=o) (hg:=hg) (hm:=hm) (hv:=hv) (ha:=ha.h) (hn:=hn) (hdb:=hdb) (he:=he) (hpl:=hpl)⟩
end
section
variable {X:Cx}{o e:Expr}{es:List Expr}{to:cu}{t:eO}{T id:String}{name:Str}{apos cZ:Pos}
theorem PH{r2:D->List D->Mem->bK->Prop}(pa:PlainAttrs T)(slot:Slot T name id)(hty:typeOf (.builtin id)=pure (.type "method_descriptor"))(hm:Ls X id r2)(ho:WE X o to)(hbase:attributeBase o name X.env (eval o X.env)=eval o X.env:=by rfl)(hline:(apos.endLine==cZ.line)=true:=by rfl):WE X (.Call (.Attribute o name apos) [] [] cZ) (L1 T r2 to):=⟨QJ (pa:=pa) (slot:=slot) (hty:=hty) (hm:=hm) (ho:=ho.h) (hbase:=hbase) (hline:=hline)⟩
theorem eE{r2:D->List D->Mem->bK->Prop}(pa:PlainAttrs T)(slot:Slot T name id)(hty:typeOf (.builtin id)=pure (.type "method_descriptor"))(hm:Ls X id r2)(ho:WE X o to)(ha:WA X (e::es) t)(hbase:attributeBase o name X.env (eval o X.env)=eval o X.env:=by rfl)(hfew:((backTo cZ (starEach (e::es) X.env)).all (λ x=>!x.1)&&(backToKw cZ (keywordEach [] X.env)).all (λ x=>x.1.isSome)
   &&decide ((e::es).length+([]:List Keyword).length+(if([]:List Keyword).isEmpty then 0 else 1) < 30))=true:=by rfl) (hline:(apos.endLine==cZ.line)=true:=by rfl) (hs:starEach (e::es) X.env=(false,eval e X.env)::starEach es X.env:=by rfl) (hplain:(backTo cZ (starEach es X.env)).any (·.1)=false:=by rfl):WE X (.Call (.Attribute o name apos) (e::es) [] cZ) (O9 T r2 to t):=⟨Uu (pa:=pa) (slot:=slot) (hty:=hty) (hm:=hm) (ho:=ho.h) (ha:=ha.h) (hbase:=hbase) (hfew:=hfew) (hline:=hline) (hs:=hs) (hplain:=hplain)⟩
end
section
variable {X:Cx}{x:Str}{p pos:Pos}{e:Expr}{es:List Expr}{t:eO}{k j:Nat}{ps:List Str}{sp:gs}
theorem aJ(d:cX X.prog X.w X.K X.mg X.base k x ps sp)(hr:cM k X.A)(hg:Gl X x)(ha:WA X (e::es) t)(hdb:(x==("__debug__":Str))=false:=by decide)(he:starEach (e::es) X.env=(false,eval e X.env)::starEach es X.env:=by rfl)(hpl:(backTo pos (starEach es X.env)).any (·.1)=false:=by rfl):WE X (.Call (.Name x p) (e::es) [] pos) (sD sp t):=⟨QF (d:=d) (hr:=hr) (hg:=hg) (ha:=ha.h) (hdb:=hdb) (he:=he) (hpl:=hpl)⟩
end
section
variable {X:Cx}{st:Stmt}{rest:List Stmt}{t u:jY}{te:cu}{e:Expr}{pos:Pos}
theorem aZ:GD X [] xV:=⟨HX⟩
theorem aj(h:WS X st t):GD X [st] t:=⟨HW (h:=h.h)⟩
theorem ae(h1:WS X st t)(h2:GD X rest u):GD X (st::rest) (CG t u):=⟨Dw (h1:=h1.h) (h2:=h2.h)⟩
theorem bZ(he:WE X e te)(hs:swapsWith e none pos.line X.env=pure false:=by rfl):WS X (.Expr e pos) (tL te):=⟨HY (he:=he.h) (hs:=hs)⟩
theorem aV(he:WE X e te):WS X (.Return (some e) pos) (LS te):=⟨MD (he:=he.h)⟩
theorem cb{c:Expr}{a b:List Stmt}{tc:fz}(hc:WT X c tc)(ha:GD X a t)(hb:GD X b u):WS X (.If c a b pos) (Hq tc t u):=⟨Qu (hc:=hc.h) (ha:=ha.h) (hb:=hb.h)⟩
theorem bD{i:Nat}{x:Str}(hN:X.N.Nodup)(hi:X.N[i]?=some x)(hx:Loc X.env.scope x)(hf:X.fn x=true\/X.env.scope.names.lookup x=some .local:=by first|exact .inl rfl|exact .inr rfl|assumption):WG X (.Name x pos) (hName i):=⟨Ih (hN:=hN) (hi:=hi) (hx:=hx) (hf:=hf)⟩
theorem jn:Tv X [] ph:=⟨Ig⟩
theorem cU{e:Expr}{es:List Expr}{t:iE}{u:oC}(h1:WG X e t)(h2:Tv X es u)(hs:(assignEach (e::es) X.env).map (·.2)=assign e X.env::(assignEach es X.env).map (·.2):=by rfl):Tv X (e::es) (cO t u):=⟨Dz (h1:=h1.h) (h2:=h2.h) (hs:=hs)⟩
theorem mK{es:List Expr}{k:Nat}{t:oC}{n:Nat}(hc:X.calm=true)(h:Tv X es t)(hn:(assignEach es X.env).length=n:=by rfl)(hst:(assignEach es X.env).findIdx? (·.1)=none:=by rfl):WG X (.Tuple es k pos) (pd n t):=⟨MH (hc:=hc) (h:=h.h) (hn:=hn) (hst:=hst)⟩
theorem gw{o i:Expr}{to ti:cu}{t:jX}(ho:WE X o to)(hi:WE X i ti)(hs:Gj X t)(ha:∀v,assign (.Subscript o i pos) X.env v=(do
   let ov <- holding [v] (eval o X.env)
   let iv <- holding [v,ov] (eval i X.env)
   standAt pos
   holding [v,ov,iv] (setItem ov iv v)
   release [v,ov,iv] []):=by intro _;rfl):WG X (.Subscript o i pos) (hSub to ti t):=⟨MI (ho:=ho.h) (hi:=hi.h) (hs:=hs) (ha:=ha)⟩
theorem fg{tg e:Expr}{g:iE}(he:WE X e te)(hg:WG X tg g)(hs:swapsWithSole [tg] e pos.line X.env=pure false:=by rfl)(hw:swappedStores [tg] e X.env=pure none:=by rfl)(h1:(assignEach [tg] X.env).map (·.2)=[assign tg X.env]:=by rfl):WS X (.Assign [tg] e pos) (tN te g):=⟨MF (he:=he.h) (hg:=hg.h) (hs:=hs) (hw:=hw) (h1:=h1)⟩
theorem aB{i:Nat}{x:Str}{e:Expr}{pos':Pos}(hN:X.N.Nodup)(hi:X.N[i]?=some x)(hx:Loc X.env.scope x)(he:WE X e te)(hs:swapsWith e (some (.Name x pos')) pos.line X.env=pure false:=by rfl)(hf:X.fn x=true\/X.env.scope.names.lookup x=some .local:=by first|exact .inl rfl|exact .inr rfl|assumption):WS X (.Assign [.Name x pos'] e pos) (tN te (hName i)):=⟨MC (hN:=hN) (hi:=hi) (hx:=hx) (he:=he.h) (hs:=hs) (hf:=hf)⟩
end
section
variable {X:Cx}{tg l:Expr}{tl:cu}{ta:eO}{a b:Expr}{p pos:Pos}
theorem eh(hl:WE X l tl):WI X tg l (N9 tl):=⟨MG (hl:=hl.h)⟩
theorem bo(hg:Gl X "range")(hm:X.mg "range"=none)(ha:WA X [a] ta)(hs:starEach [a] X.env=[(false,eval a X.env)]:=by rfl):WI X tg (.Call (.Name "range" p) [a] [] pos) (EB ta):=⟨AD (hg:=hg) (hm:=hm) (ha:=ha.h) (hs:=hs)⟩
end
section
variable {X:Cx}{tg iter:Expr}{wi:qG}{g:iE}{tb:jY}{body:List Stmt}{pos:Pos}
theorem dF(hp:PassesOwn (model X.prog X.w) X.A X.env X.xe)(hc:X.calm=true)(hi:WI X tg iter wi)(hg:WG X tg g)(hb:GD X body tb)(hs:∀x,foldedSetIterable iter X.env x=pure x:=by intro _;rfl):WS X (.For tg iter body [] pos) (LX wi g tb):=⟨ME (hp:=hp) (hc:=hc) (hi:=hi.h) (hg:=hg.h) (hb:=hb.h) (hs:=hs)⟩
end
section
variable {X:Cx}{c:Expr}{tc:fz}{tb:jY}{body:List Stmt}{pos:Pos}
theorem dS(hp:PassesOwn (model X.prog X.w) X.A X.env X.xe)(hc:WT X c tc)(hb:GD X body tb):WS X (.While c body [] pos) (vS tc tb):=⟨Dx (hp:=hp) (hc:=hc.h) (hb:=hb.h)⟩
end
section
variable {X:Cx}{scope:Scope}{tgs:List Str}{fr:List Nat}{tg elt iter:Expr}{ifs:List Expr}{pos:Pos}{wi:qG}{g:iE}{tt:fz}{te:cu}
theorem b_:VV X [] tK:=⟨Ic⟩
theorem lQ{c:Expr}{t:fz}(h:WT X c t):VV X [c] t:=⟨Ib (h:=h.h)⟩
theorem bB{i:Nat}{x:Str}{ps:Pos}(h:∀cl C fp s H,PG (bz X scope cl tgs fr C fp s H) (.Name x ps) (cC i))(hi:i < tgs.length):Kr X scope tgs fr (.Name x ps) (hName i):=⟨GZ (h:=h) (hi:=hi)⟩
theorem sV{i j k:Nat}{x y:Str}{px py pt:Pos}(h:∀cl C fp s H,PG (bz X scope cl tgs fr C fp s H) (.Tuple [.Name x px,.Name y py] k pt) (uG X.K 2 (dD (cC i) (dD (cC j) rT))))(hi:i < tgs.length)(hj:j < tgs.length):Kr X scope tgs fr (.Tuple [.Name x px,.Name y py] k pt) (pd 2 (cO (hName i) (cO (hName j) ph))):=⟨GY (h:=h) (hi:=hi) (hj:=hj)⟩
theorem kj(C:iD X scope tgs fr tg iter ifs elt wi g tt te)(hs:∀x,foldedSetIterable iter X.env x=pure x:=by intro _;rfl):WE X (.ListComp elt [⟨tg,iter,ifs,0⟩] scope pos) (tM wi g tt te tgs.length fr):=⟨MQ (C:=C.h) (hs:=hs)⟩
theorem cY{i:Nat}{y:Str}{py tm:Pos}(hN:X.N.Nodup)(hiy:X.N[i]?=some y)(hy:Loc X.env.scope y)(C:iD X scope tgs fr tg iter ifs elt wi g tt te)(hsw:swapsWith (.ListComp elt [⟨tg,iter,ifs,0⟩] scope pos) (some (.Name y py)) tm.line X.env=pure true:=by rfl)(hf:X.fn y=true\/X.env.scope.names.lookup y=some .local:=by first|exact .inl rfl|exact .inr rfl|assumption)(hs:∀x,foldedSetIterable iter X.env x=pure x:=by intro _;rfl):WS X (.Assign [.Name y py] (.ListComp elt [⟨tg,iter,ifs,0⟩] scope pos) tm) (tN (tM wi g tt te tgs.length fr) (hName i)):=⟨wc (hN:=hN) (hiy:=hiy) (hy:=hy) (C:=C.h) (hsw:=hsw) (hf:=hf) (hs:=hs)⟩
variable {x:Str}{p:Pos}{id T:String}{cZ:Pos}
theorem Lv{r2 r3:List D->Mem->bK->Prop}(o:dE X (.builtin id) r2)(h3:oB r2 r3)(hg:Gl X x)(hm:X.mg x=none)(hv:bootBuiltins x=some (.builtin id))(C:iD X scope tgs fr tg iter ifs elt wi g tt te)(hn:x≠"__name__":=by decide)(hdb:(x==("__debug__":Str))=false:=by decide)(hs:∀x,foldedSetIterable iter X.env x=pure x:=by intro _;rfl):WE X (.Call (.Name x p) [.ListComp elt [⟨tg,iter,ifs,0⟩] scope cZ] [] pos) (Aq r3 wi g tt te tgs.length fr):=⟨ML (o:=o) (h3:=h3) (hg:=hg) (hm:=hm) (hv:=hv) (C:=C.h) (hn:=hn) (hdb:=hdb) (hs:=hs)⟩
theorem ki{r2 r3:List D->Mem->bK->Prop}(o:dE X (.type T) r2)(h3:oB r2 r3)(hg:Gl X x)(hm:X.mg x=none)(hv:bootBuiltins x=some (.type T))(C:iD X scope tgs fr tg iter ifs elt wi g tt te)(hn:x≠"__name__":=by decide)(hdb:(x==("__debug__":Str))=false:=by decide)(hs:∀x,foldedSetIterable iter X.env x=pure x:=by intro _;rfl):WE X (.Call (.Name x p) [.ListComp elt [⟨tg,iter,ifs,0⟩] scope cZ] [] pos) (Aq r3 wi g tt te tgs.length fr):=⟨MK (o:=o) (h3:=h3) (hg:=hg) (hm:=hm) (hv:=hv) (C:=C.h) (hn:=hn) (hdb:=hdb) (hs:=hs)⟩
variable {o:Expr}{to:cu}{name:Str}{apos:Pos}
end
end L4
namespace L4
open PySem PySem.Spec L2 L3
section
variable {P:Program}{w:World}{K:J8}{mg:Str->Option Value}{base:Heap}
theorem oU{x qual:Str}{st:Stmt}{f:Addr}{fd:FuncData}{N ps:List Str}{k:Nat}{sp:gs}(F:jk K x qual st f fd)(S:aM N ps (aq st))(len:∀ds M Q,sp ds M Q->ds.length=ps.length) (dZ:∀(dQ:Value) (A:Around) (outer:List Env) (s:Shared) (H:Hp) (E:XK) (ds:List D) (M:Mem) (Q:bK),cM k (A.deeper (PyProof.Rows.envOfC qual (aq st) s.heap.objs.size f dQ))->sp ds M Q->
   ∃t,GD (pA fA P w K mg base N qual (aq st) f dQ A outer s H E).Jl (bA st) t/\t {nx:=λ _ M'=>fin2 Q .bx M',rt:=fin2 Q} (gz N ds) M):cw P w K mg base fA (k+1) f fd ps (cV K sp):=
 XX F S len λ dQ A outer s H E ds M Q hr h=>let⟨t,a,b⟩:=dZ dQ A outer s H E ds M Q hr h;⟨t,a.h,b⟩
end
end L4
namespace L5
open PySem PySem.W PyProof.Rows
section
variable (n:Nat)(lt:Nat->Nat->Bool)
def kw{α:Type}:KasT α->(α->Prop)->Prop
 | .ret a,Q=>Q a
 | .ask i j k,Q=>i < n/\j < n/\kw (k (lt i j)) Q
variable {n lt}
theorem ip{α β:Type}{f:α->KasT β}{Q:β->Prop}:∀{t:KasT α},kw n lt t (λ a=>kw n lt (f a) Q)->kw n lt (t.bind f) Q
 | .ret a,h=>h
 | .ask i j k,h=>⟨h.1,h.2.1,ip (t:=k (lt i j)) h.2.2⟩
def pg(p:Array Nat)(i:Nat):Nat:=p.getD i 0
theorem ll(p:Array Nat)(i:Nat):pg p i=(p[i]?).getD 0:=by unfold pg;rw[Array.getD_eq_getD_getElem?]
def Pm(n:Nat)(p:Array Nat):Prop:=p.Perm (List.toArray (List.range n))
theorem Pm.size {p:Array Nat}(h:Pm n p):p.size=n:=by have:=Array.Perm.size_eq h;simpa using this
theorem Pm.below {p:Array Nat}(h:Pm n p)(i:Nat)(hn:0 < n):pg p i < n:=by
 rw[ll];cases e:p[i]? with
 |none=>exact hn
 |some x=>have hm:x∈p:=Array.mem_of_getElem? e;have:=(Array.Perm.mem_iff h (a:=x)).mp hm;simpa using this
theorem nI{p:Array Nat}{i j:Nat}(hj:j<=p.size)(k:Nat):pg (kas_rev p i j) k=if i<=k/\k < j then pg p (i+j - 1 - k)else pg p k:=by
 rw[ll];unfold kas_rev;rw[getElem?_mirror_all hj k];split
 ·rw[ll]
 ·rw[ll]
theorem Pm.rev {p:Array Nat}(h:Pm n p)(i j:Nat):Pm n (kas_rev p i j):=Array.Perm.trans (mirror_perm _ _ _ _) h
theorem DJ{p:Array Nat}{k l:Nat}(hk:k < p.size)(hl:l<=k)(j:Nat):pg (bubble p k (k - l)) j=if j=l then pg p k else if l < j/\j<=k then pg p (j - 1)else pg p j:=by
 have e0:k - (k - l)=l:=by omega
 rw[ll,getElem?_bubble hk (k - l) (by omega) j,e0];by_cases h1:j=l
 ·rw[J6 h1,J6 h1,ll]
 ·rw[J7 h1,J7 h1];by_cases h2:l < j/\j<=k
  ·rw[J6 h2,J6 h2,ll]
  ·rw[J7 h2,J7 h2,ll]
theorem Pm.ZO {p:Array Nat}(h:Pm n p)(k d:Nat):Pm n (bubble p k d):=Array.Perm.trans (bubble_perm _ _ _) h
structure Ord(lt:Nat->Nat->Bool):Prop where
 BA:∀a b,lt a b=true->lt b a=false
 tr:∀a b c,lt a b=false->lt b c=false->lt a c=false
abbrev le(lt:Nat->Nat->Bool)(a b:Nat):Prop:=lt b a=false
theorem Ord.refl (O:Ord lt)(a:Nat):le lt a a:=by
 show lt a a=false;cases e:lt a a with
 |false=>rfl
 |true=>have:=O.BA a a e;rw[e]at this;cases this
theorem Ord.trans (O:Ord lt){a b c:Nat}(h1:le lt a b)(h2:le lt b c):le lt a c:=O.tr c b a h2 h1
def Up(lt:Nat->Nat->Bool)(p:Array Nat)(m:Nat):Prop:=∀i j,i<=j->j < m->le lt (pg p i) (pg p j)
def Dn(lt:Nat->Nat->Bool)(p:Array Nat)(m:Nat):Prop:=∀i j,i<=j->j < m->le lt (pg p j) (pg p i)
def Ev(lt:Nat->Nat->Bool)(a b:Nat):Prop:=le lt a b/\le lt b a
theorem Ord.RU (O:Ord lt){a b c:Nat}(h:Ev lt a b)(q:Ev lt b c):Ev lt a c:=⟨O.trans h.1 q.1,O.trans q.2 h.2⟩
theorem Ev.sym {a b:Nat}(h:Ev lt a b):Ev lt b a:=⟨h.2,h.1⟩
theorem Up.one (O:Ord lt)(p:Array Nat):Up lt p 1:=λ i j h q=>by
 have:i=j:=by omega
 subst this;exact O.refl _
theorem Up.next (O:Ord lt){p:Array Nat}{m:Nat}(h:Up lt p m)(hm:1<=m)(q:le lt (pg p (m - 1)) (pg p m)):Up lt p (m+1):=λ i j yU hj=>by
 by_cases e:j=m
 ·subst e;by_cases e2:i=j
  ·subst e2;exact O.refl _
  ·exact O.trans (h i (j - 1) (by omega) (by omega)) q
 ·exact h i j yU (by omega)
theorem Dn.next (O:Ord lt){p:Array Nat}{m:Nat}(h:Dn lt p m)(hm:1<=m)(q:le lt (pg p m) (pg p (m - 1))):Dn lt p (m+1):=λ i j yU hj=>by
 by_cases e:j=m
 ·subst e;by_cases e2:i=j
  ·subst e2;exact O.refl _
  ·exact O.trans q (h i (j - 1) (by omega) (by omega))
 ·exact h i j yU (by omega)
theorem Dn.ev (O:Ord lt){p p':Array Nat}{m:Nat}(h:Dn lt p m)(e:∀k,k < m->Ev lt (pg p' k) (pg p k)):Dn lt p' m:=λ i j yU hj=>
 O.trans (e j hj).1 (O.trans (h i j yU hj) (e i (by omega)).2)
theorem Up.Q6 {p:Array Nat}{m:Nat}(hm:m<=p.size)(h:Dn lt p m):Up lt (kas_rev p 0 m) m:=λ i j yU hj=>by rw[nI hm,nI hm,J6 ⟨G7 _,by omega⟩,J6 ⟨G7 _,hj⟩];exact h _ _ (by omega) (by omega)
theorem wU(O:Ord lt){p:Array Nat}{i j:Nat}(hj:j<=p.size)(he:∀k,i<=k->k < j->Ev lt (pg p k) (pg p (j - 1)))(k:Nat):Ev lt (pg (kas_rev p i j) k) (pg p k):=by
 rw[nI hj];split
 case isTrue h=>exact O.RU (he _ (by omega) (by omega)) (he k h.1 h.2).sym
 case isFalse h=>exact⟨O.refl _,O.refl _⟩
theorem wC(O:Ord lt){p:Array Nat}(hp:Pm n p){Q:Nat->Prop}:∀(f a:Nat),1<=a->a+f<=n->Up lt p a->(∀m,a<=m->m<=a+f->Up lt p m->(m < a+f->lt (pg p m) (pg p (m - 1))=true)->Q m)->kw n lt (kas_asc p f a) Q
 |0,a,h1,hn,hu,hq=>hq a (G5 _) (G5 _) hu λ h=>absurd h (by omega)
 |f+1,a,h1,hn,hu,hq=>by
  refine⟨hp.below a (by omega),hp.below (a - 1) (by omega),?_⟩;show kw n lt (if lt (pg p a) (pg p (a - 1))=true then KasT.ret a else kas_asc p f (a+1)) Q;cases e:lt (pg p a) (pg p (a - 1))with
  |true=>rw[J6 rfl];exact hq a (G5 _) (by omega) hu λ _=>e
  |false=>rw[J7 (by simp)];exact wC O hp f (a+1) (by omega) (by omega) (hu.next O h1 e) λ m m1 m2 m3 m4=>hq m (by omega) (by omega) m3 λ q=>m4 (by omega)
theorem mh(O:Ord lt){Q:Array Nat×Nat×Nat->Prop}(yT:0 < n):∀(f:Nat) (p:Array Nat) (m q:Nat),Pm n p->1<=m->m+f<=n->q+1<=m->Dn lt p m->(∀k,m - (q+1)<=k->k < m->Ev lt (pg p k) (pg p (m - 1)))-> (∀p' m' q',Pm n p'->m<=m'->m'<=m+f->q'+1<=m'->Dn lt p' m'->(∀k,m' - (q'+1)<=k->k < m'->Ev lt (pg p' k) (pg p' (m' - 1)))->Q (p',m',q'))->kw n lt (kas_desc f p m q) Q
 |0,p,m,q,hp,h1,hf,Ry,hd,he,hQ=>hQ p m q hp (G5 _) (G5 _) Ry hd he
 |f+1,p,m,q,hp,h1,hf,Ry,hd,he,hQ=>by
  refine⟨hp.below m yT,hp.below (m - 1) yT,?_⟩;show kw n lt (if lt (pg p m) (pg p (m - 1))=true then(if q > 0 then kas_desc f (kas_rev p (m - (q+1)) m) (m+1) 0 else kas_desc f p (m+1) 0)else KasT.ask (pg p (m - 1)) (pg p m) λ d=>if d=true then KasT.ret (p,m,q)else kas_desc f p (m+1) (q+1)) Q;have hz:=hp.size;cases e:lt (pg p m) (pg p (m - 1))with
  |true=>
   rw[J6 rfl];by_cases hq:q > 0
   ·rw[J6 hq];have ev:=wU O (p:=p) (i:=m - (q+1)) (j:=m) (by omega) he;have em:pg (kas_rev p (m - (q+1)) m) m=pg p m:=by rw[nI (by omega),J7 (by omega)]
    refine mh O yT f _ (m+1) 0 (hp.rev _ _) (by omega) (by omega) (by omega) ((hd.ev O λ k _=>ev k).next O h1 ?_) (λ k k1 k2=>?_) λ p' m' q' a b c d g i=>hQ p' m' q' a (by omega) (by omega) d g i
    ·rw[em];exact O.trans (O.BA _ _ e) (ev (m - 1)).2
    ·have:k=m:=by omega
     subst this;exact⟨O.refl _,O.refl _⟩
   ·rw[J7 hq];refine mh O yT f _ (m+1) 0 hp (by omega) (by omega) (by omega) (hd.next O h1 (O.BA _ _ e)) (λ k k1 k2=>?_) λ p' m' q' a b c d g i=>hQ p' m' q' a (by omega) (by omega) d g i;have:k=m:=by omega
    subst this;exact⟨O.refl _,O.refl _⟩
  |false=>
   rw[J7 (by simp)];refine⟨hp.below (m - 1) yT,hp.below m yT,?_⟩;cases e2:lt (pg p (m - 1)) (pg p m)with
   |true=>exact hQ p m q hp (G5 _) (by omega) Ry hd he
   |false=>
    refine mh O yT f p (m+1) (q+1) hp (by omega) (by omega) (by omega) (hd.next O h1 e2) (λ k k1 k2=>?_) λ p' m' q' a b c d g i=>hQ p' m' q' a (by omega) (by omega) d g i;have hE:Ev lt (pg p (m - 1)) (pg p m):=⟨e,e2⟩;by_cases ek:k=m
    ·subst ek;exact⟨O.refl _,O.refl _⟩
    ·exact O.RU (he k (by omega) (by omega)) hE
theorem yF(O:Ord lt){p:Array Nat}(hp:Pm n p){m:Nat}(h1:1<=m)(hm:m<=n)(hd:Dn lt p m){Q:Nat×Array Nat->Prop}(hQ:∀m' p',Pm n p'->1<=m'->m'<=n->Up lt p' m'->Q (m',p')):kw n lt (kas_tail3 m n p) Q:=by unfold kas_tail3;refine ip (wC O (hp.rev _ _) (n - m) m h1 (by omega) (Up.Q6 (by rw[hp.size];exact hm) hd) λ m' a b c _=>?_);exact hQ m' _ (hp.rev _ _) (by omega) (by omega) c
theorem uj(O:Ord lt){p:Array Nat}(hp:Pm n p){m:Nat}(h1:1<=m)(hm:m+1<=n)(hd:Dn lt p (m+1)){Q:Nat×Array Nat->Prop}(hQ:∀m' p',Pm n p'->1<=m'->m'<=n->Up lt p' m'->Q (m',p')):kw n lt (kas_descPart m n p) Q:=by
 unfold kas_descPart;refine ip (mh O (by omega) (n - (m+1)) p (m+1) 0 hp (by omega) (by omega) (by omega) hd (λ k k1 k2=>?_) λ p' m' q' a b c d g i=>?_)
 ·have:k=m:=by omega
  subst this;exact⟨O.refl _,O.refl _⟩
 ·show kw n lt (if q' > 0 then kas_tail3 m' n (kas_rev p' (m' - (q'+1)) m')else kas_tail3 m' n p') Q;by_cases hq:q' > 0
  ·rw[J6 hq];have hz:=a.size;exact yF O (a.rev _ _) (by omega) (by omega) (g.ev O λ k _=>wU O (by omega) i k) hQ
  ·rw[J7 hq];exact yF O a (by omega) (by omega) g hQ
theorem Ex(O:Ord lt){p:Array Nat}(hp:Pm n p)(hn:2<=n){Q:Nat×Array Nat->Prop}(hQ:∀m' p',Pm n p'->1<=m'->m'<=n->Up lt p' m'->Q (m',p')):kw n lt (kas_count n p) Q:=by
 unfold kas_count;refine ip (wC O hp (n - 1) 1 (G5 _) (by omega) (Up.one O p) λ m a b c d=>?_);have hz:=hp.size;by_cases e1:(m==n)=true
 ·rw[J6 e1];exact hQ m p hp a (by omega) c
 ·rw[J7 e1];have eZ:m≠n:=λ q=>e1 (by rw[q];exact beq_self_eq_true _);have hl:=d (by omega);by_cases e2:m > 1
  ·rw[J6 e2];refine⟨hp.below 0 (by omega),hp.below (m - 1) (by omega),?_⟩;show kw n lt (if lt (pg p 0) (pg p (m - 1))=true then KasT.ret (m,p)else kas_descPart m n (kas_rev p 0 m)) Q;cases e3:lt (pg p 0) (pg p (m - 1))with
   |true=>rw[J6 rfl];exact hQ m p hp a (by omega) c
   |false=>
    rw[J7 (by simp)];have Fi:∀k,0<=k->k < m->Ev lt (pg p k) (pg p (m - 1)):=λ k _ hk=>⟨c k (m - 1) (by omega) (by omega),O.trans e3 (c 0 k (by omega) hk)⟩;have ev:=wU O (p:=p) (i:=0) (j:=m) (by omega) Fi;have em:pg (kas_rev p 0 m) m=pg p m:=by rw[nI (by omega),J7 (by omega)]
    refine uj O (hp.rev _ _) a (by omega) (Dn.next O (λ i j yU hj=>?_) a ?_) hQ
    ·exact O.trans (ev j).1 (O.trans (O.trans (Fi j (G7 _) hj).1 (Fi i (G7 _) (by omega)).2) (ev i).2)
    ·rw[em];exact O.trans (O.BA _ _ hl) (ev (m - 1)).2
  ·rw[J7 e2];have bQ:m=1:=by omega
   subst bQ;refine uj O hp (G5 _) (by omega) (Dn.next O (λ i j yU hj=>?_) (G5 _) (O.BA _ _ hl)) hQ;have:i=j:=by omega
   subst this;exact O.refl _
theorem nP(O:Ord lt){p:Array Nat}(hp:Pm n p){k:Nat}(hk:k < n){Q:Nat->Prop}(hQ:∀l,l<=k->(∀i,i < l->le lt (pg p i) (pg p k))->(∀i,l<=i->i < k->lt (pg p k) (pg p i)=true)->Q l)(hu:Up lt p k):∀(f l r:Nat),l<=r->r<=k->r - l<=f->(∀i,i < l->le lt (pg p i) (pg p k))->(∀i,r<=i->i < k->lt (pg p k) (pg p i)=true)->kw n lt (kas_place p k f l r) Q
 |0,l,r,h1,h2,h3,h4,h5=>by
  have:r=l:=by omega
  subst this;exact hQ r h2 h4 h5
 |f+1,l,r,h1,h2,h3,h4,h5=>by
  unfold kas_place;by_cases e:l ≥ r
  ·rw[J6 e];have:r=l:=by omega
   subst this;exact hQ r h2 h4 h5
  ·rw[J7 e];refine⟨hp.below k (by omega),hp.below _ (by omega),?_⟩;show kw n lt (if lt (pg p k) (pg p ((l+r) / 2))=true then kas_place p k f l ((l+r) / 2)else kas_place p k f ((l+r) / 2+1) r) Q;cases e2:lt (pg p k) (pg p ((l+r) / 2))with
   |true=>
    rw[J6 rfl];refine nP O hp hk hQ hu f l _ (by omega) (by omega) (by omega) h4 λ i i1 i2=>?_;cases e3:lt (pg p k) (pg p i)with
    |true=>rfl
    |false=>have:=O.tr _ _ _ e3 (hu ((l+r) / 2) i i1 i2);rw[e2]at this;cases this
   |false=>rw[J7 (by simp)];exact nP O hp hk hQ hu f _ r (by omega) (by omega) (by omega) (λ i hi=>O.trans (hu i ((l+r) / 2) (by omega) (by omega)) e2) h5
theorem Ey(O:Ord lt){Q:Array Nat->Prop}(hQ:∀p,Pm n p->Up lt p n->Q p):∀(f:Nat) (p:Array Nat) (k:Nat),Pm n p->k+f=n->Up lt p k->kw n lt (kas_bin f p k) Q
 |0,p,k,hp,hf,hu=>hQ p hp (by rw[<- hf];exact hu)
 |f+1,p,k,hp,hf,hu=>by
  unfold kas_bin;have hz:=hp.size;refine ip (nP O hp (by omega) (λ l hl h4 h5=>?_) hu k 0 k (G7 _) (G5 _) (by omega) (λ i hi=>absurd hi (by omega)) λ i a b=>absurd b (by omega));refine Ey O hQ f _ (k+1) (hp.ZO _ _) (by omega) λ i j yU hj=>?_;rw[DJ (by omega) hl,DJ (by omega) hl];by_cases e1:i=l
  ·rw[J6 e1];by_cases e2:j=l
   ·rw[J6 e2];exact O.refl _
   ·rw[J7 e2,J6 ⟨by omega,by omega⟩];exact O.BA _ _ (h5 (j - 1) (by omega) (by omega))
  ·rw[J7 e1];by_cases e2:j=l
   ·rw[J6 e2,J7 (by omega)];exact h4 i (by omega)
   ·rw[J7 e2];by_cases e3:l < i/\i<=k
    ·rw[J6 e3,J6 ⟨by omega,by omega⟩];exact hu _ _ (by omega) (by omega)
    ·rw[J7 e3];by_cases e4:l < j/\j<=k
     ·rw[J6 e4];exact hu _ _ (by omega) (by omega)
     ·rw[J7 e4];exact hu _ _ (by omega) (by omega)
theorem Jx(O:Ord lt)(hn:2<=n){Q:Array Nat->Prop}(hQ:∀p,Pm n p->Up lt p n->Q p):kw n lt (kas_sort n) Q:=by
 unfold kas_sort;refine ip (Ex O (Array.Perm.refl _) hn λ m p hp h1 h2 hu=>?_);show kw n lt (if m < n then kas_bin (n - max m 1) p (max m 1)else KasT.ret p) Q;have hm:max m 1=m:=by omega
 rw[hm];by_cases e:m < n
 ·rw[J6 e];exact Ey O hQ (n - m) p m hp (by omega) hu
 ·rw[J7 e];have:m=n:=by omega
  subst this;exact hQ p hp hu
end
end L5
namespace L5
open PySem
def lO(T:String)(h:Heap)(j l:Addr)(i:Nat):Prop:=∃o,h.get? j=some o/\o.cls=.type T/\o.data=.fields #[.ref l,.int i 0]
theorem lO.keep {T:String}{h h':Heap}{j l:Addr}{i:Nat}(x:lO T h j l i)(k:∀o,h.get? j=some o->h'.get? j=some o):lO T h' j l i:=let⟨o,a,r⟩:=x;⟨o,k o a,r⟩
structure NK(T:String)(Sq:Heap->Addr->Array Value->Prop):Prop where
 keep:∀{h h':Heap} {l:Addr} {vs:Array Value},Sq h l vs->(∀o,h.get? l=some o->h'.get? l=some o)->Sq h' l vs
 start:∀{prog:Program} {w:World} {A:Around} {E:Value->Shared->Prop} {s:Shared} {l:Addr} {vs:Array Value} {Q:Value->Shared->Prop},Sq s.heap l vs->
  Q (.ref s.heap.objs.size) {s with heap:=s.heap.push {cls:=.type T,data:=.fields #[.ref l,.int 0 0]}}->wpAny (model prog w) A (pyIter (.ref l)) Q E s
 item:∀{prog:Program} {w:World} {A:Around} {E:Value->Shared->Prop} {s:Shared} {j l:Addr} {i:Nat} {vs:Array Value} {x:Value} {Q:Value->Shared->Prop},lO T s.heap j l i->Sq s.heap l vs->vs[i]?=some x->
  (∀h',lO T h' j l (i+1)->Heap.SameBut j s.heap h'->Q x {s with heap:=h'})->wpAny (model prog w) A (Builtin.SmallTypes.nextOf (.ref j)) Q E s
 stop:∀{prog:Program} {w:World} {A:Around} {E:Value->Shared->Prop} {s:Shared} {j l:Addr} {i:Nat} {vs:Array Value} {Q:Value->Shared->Prop},A.handled=none->lO T s.heap j l i->Sq s.heap l vs->vs[i]?=none->
  (∀h' e,Heap.ExtBut j s.heap h'->(∃o,h'.get? e=some o/\o.cls=.type "StopIteration")->E (.ref e) {s with heap:=h'})->wpAny (model prog w) A (Builtin.SmallTypes.nextOf (.ref j)) Q E s
theorem jJ:NK "list_iterator" Heap.IsList where
 keep:=λ x k=>x.at k
 start:=λ x q=>wpAny_pyIter_list x q
 item:=λ a b c d=>wpAny_nextOf_list_item a b c d
 stop:=λ a b c d e=>wpAny_nextOf_list_end a b c d e
section
variable {prog:Program}{w:World}{A:Around}{E:Value->Shared->Prop}{s:Shared}
theorem NO{j q:Addr}{i:Nat}{vs:Array Value}{x:Value}{Q:Value->Shared->Prop}(ji:s.heap.IsTupleIter j q i)(jt:s.heap.IsTuple q vs)(jx:vs[i]?=some x) (k:∀h',h'.IsTupleIter j q (i+1)->Heap.SameBut j s.heap h'->Q x {s with heap:=h'}):wpAny (model prog w) A (Builtin.SmallTypes.nextOf (.ref j)) Q E s:=by obtain⟨ob,hb,kc,kd⟩:=id ji;obtain⟨ot,ht,_,nt,dt⟩:=jt;unfold Builtin.SmallTypes.nextOf;refine G9 (i9 (name:=Str.ofString "__next__") ji.typeIs a9 (y6 a9 ji.typeIs F.entry_tuple_iterator_next ?_ (F.args_tuple_iterator_next_1 _)));refine G9 (m:=field (.ref j) 0) (G8 hb kd (x:=.ref q) rfl ?_);show wpAny _ _ (if(Value.ref q==Value.none)=true then _ else _) _ _ s;rw[J7 (show(Value.ref q==Value.none)≠true from n9)];refine G9 (m:=field (.ref j) 1) (G8 hb kd (x:=.int i 0) rfl ?_);refine G9 (m:=seqItems? (.ref q)) (C3 ht dt ?_);simp only[u7,jx];refine G9 (C5 hb kd (by simp) (H9 ⟨x,rfl,H9 (k _ ?_ (l7 ..))⟩));refine⟨_,j7 _ hb (Obj.isFreed_of_fields (Obj.data_mapFields kd _)),(Obj.cls_mapFields ..).trans kc,?_⟩;rw[Obj.data_mapFields kd];simp[rawInt]
theorem LL{j q:Addr}{i:Nat}{vs:Array Value}{Q:Value->Shared->Prop}(hA:A.handled=none)(ji:s.heap.IsTupleIter j q i)(jt:s.heap.IsTuple q vs)(jx:vs[i]?=none) (k:∀h' e,Heap.ExtBut j s.heap h'->(∃o,h'.get? e=some o/\o.cls=.type "StopIteration")->E (.ref e) {s with heap:=h'}):wpAny (model prog w) A (Builtin.SmallTypes.nextOf (.ref j)) Q E s:=by obtain⟨ob,hb,kc,kd⟩:=id ji;obtain⟨ot,ht,_,nt,dt⟩:=jt;unfold Builtin.SmallTypes.nextOf;refine G9 (i9 (name:=Str.ofString "__next__") ji.typeIs a9 (y6 a9 ji.typeIs F.entry_tuple_iterator_next ?_ (F.args_tuple_iterator_next_1 _)));refine G9 (m:=field (.ref j) 0) (G8 hb kd (x:=.ref q) rfl ?_);show wpAny _ _ (if(Value.ref q==Value.none)=true then _ else _) _ _ s;rw[J7 (show(Value.ref q==Value.none)≠true from n9)];refine G9 (m:=field (.ref j) 1) (G8 hb kd (x:=.int i 0) rfl ?_);refine G9 (m:=seqItems? (.ref q)) (C3 ht dt ?_);simp only[u7,jx];refine G9 (wpAny_rule (G9 (C5 hb kd (by simp) ?_)));refine G9 (m:=newExc (.type "StopIteration") []) ?_;simp only[newExc,newTuple];refine G9 (u9 (G9 (m:=firstArgMember _ _) (wpAny_of_eq (a:=Value.none) (by first|rfl|(simp only[firstArgMember];rfl)) (u9 ?_ (by size_fits)))) (by size_fits));simp only[raiseNew];refine G9 (wpAny_handled ?_);have hB:A.in1.handled=none:=hA;rw[hB];exact G9 (H9 (wpAny_throw (k _ _ (((l7 ..).extBut.push _).push _) ⟨_,m8 _ rfl,rfl⟩)))
end
theorem gL:NK "tuple_iterator" Heap.IsTuple where
 keep:=λ x k=>let⟨o,a,r⟩:=x;⟨o,k o a,r⟩
 start:=λ x q=>wpAny_pyIter_tuple x q
 item:=λ a b c d=>NO a b c d
 stop:=λ a b c d e=>LL a b c d e
end L5
namespace L2
open PySem PySem.Spec PyProof.Rows L5
def Sq(b:Bool)(K:J8)(H:Hp)(a:Addr)(xs:List V):Prop:=match b with
 |true=>fJ K H a xs
 |false=>eW K H a xs
def Sz(b:Bool):String:=match b with
 |true=>"tuple_iterator"
 |false=>"list_iterator"
def jP(b:Bool):Heap->Addr->Array Value->Prop:=match b with
 |true=>Heap.IsTuple
 |false=>Heap.IsList
theorem gM:∀b,NK (Sz b) (jP b)
 |true=>gL
 |false=>jJ
section
variable {X:Cx}{pins:List (Addr×Obj)}{σ:St}{H:Hp}{s:Shared}{a v:Addr}{xs ys:List V}
theorem kq(I:Inv X pins σ H s):∀{b:Bool},Sq b X.K H a xs->∃ax:List Value,Vals xs ax/\jP b s.heap a ax.toArray
 |true,h=>let⟨ax,r,p,_⟩:=I.tuple h;⟨ax,r,p⟩
 |false,h=>let⟨ax,r,p,_⟩:=I.list h;⟨ax,r,p.isList⟩
theorem LM(I:Inv X pins σ H s):∀{b:Bool},Sq b X.K H a xs->Sq b X.K H a ys->xs=ys
 |true,h,q=>I.pO h q
 |false,h,q=>I.uf h q
theorem xX{u:HO}(h:Rd H a u):∃o,H a=some o:=by
 rcases h with h|⟨o,h⟩
 ·exact⟨_,h⟩
 ·exact⟨_,h⟩
theorem Ci:∀{b:Bool} {K:J8},Sq b K H a xs->(∃o,H a=some o)\/∃o,K.lookup a=some o
 |true,K,h=>by
  rcases h with h|⟨o,ax,n,hk,_⟩
  ·exact .inl (xX h)
  ·exact .inr ⟨o,hk⟩
 |false,K,h=>by
  rcases h with h|⟨o,ax,n,hk,_⟩
  ·exact .inl (xX h)
  ·exact .inr ⟨o,hk⟩
theorem Cj(I:Inv X pins σ H s)(f:ke X pins H v){b:Bool}(h:Sq b X.K H a xs):a≠v:=λ e=>by
 subst e;rcases Ci h with⟨o,q⟩|⟨o,q⟩
 ·rw[f.1]at q;cases q
 ·have q:=I.ok.mod.Rm a o q;rcases f.2.2.2.1 with z|z
  ·exact I.ok.AN a o q z
  ·exact absurd (p6 (D5 q) (D8 I.ok.Bz z)) (C8 _)
theorem Ca{t':Nat}{ch:List Addr}{h':Heap}(I:Inv X pins σ H s)(k:∀b o,b∉ch->s.heap.get? b=some o->h'.get? b=some o)(hf:∀b∈ch,ke X pins H b):Inv X pins σ H {s with heap:=h',toks:=t'}:=by
 have Rf:∀b u,H b=some u->b∉ch:=λ b u e z=>by rw[(hf b z).1]at e;cases e
 refine I.step (g':=s.gens) (d':=s.drawn) (ch:=ch) (λ b hb=>?_) (λ b o _ _ hc e _=>k b o hc e) (λ b o _ _ hc e _=>⟨o.slots,k b o hc e⟩) (λ _ _ _ _ n=>n)
  (λ b o hc e=>⟨o,k b o hc e⟩) (λ _ _ e=>e) (λ _ _ _ e=>e) (λ b ps e=>⟨#[],by rw[e];simp⟩) (λ m hm=>?_) (λ b u e=>?_) I.bare
 ·obtain⟨f0,f1,f2,f3,f4,f5⟩:=hf b hb;exact⟨f3,f1,f4,f5⟩
 ·obtain⟨o,es,ep,ho,r⟩:=hm;exact⟨o,es,ep,k _ o (λ z=>(hf _ z).2.1 rfl) ho,r⟩
 ·refine(I.bh b u e).ko (λ c v hc q=>k c v ?_ q) (λ _ q=>q) λ _ _ q=>q;rcases hc with z|z
  ·rw[z];exact Rf b u e
  ·exact Rf c _ z
end
end L2
namespace L5
open PySem PySem.W PySem.Calls PyProof.Rows
section
variable {prog:Program}{w:World}{A:Around}{E:Value->Shared->Prop}{s:Shared}
def Out{α:Type}(lt:Nat->Nat->Bool)(vs:List α)(d:α)(out:List α):Prop:=∃p:Array Nat,Pm vs.length p/\Up lt p vs.length/\out=p.toList.map λ i=>vs.getD i d
theorem IT{α:Type}{lt:Nat->Nat->Bool}(O:Ord lt){vs:List α}(d:α)(h:vs.length < 2):Out lt vs d vs:=by
 refine⟨List.toArray (List.range vs.length),Array.Perm.refl _,λ i j yU hj=>?_,?_⟩
 ·have:i=j:=by omega
  subst this;exact O.refl _
 ·match vs,h with
  |[],_=>rfl
  |[v],_=>rfl
end
end L5
namespace L2
open PySem PySem.Spec PyProof.Rows L5 PySem.W
open HT (lexLt eR)
theorem uh:∀a b:List Int,lexLt a b=true->lexLt b a=false
 |[],[],h=>by cases h
 |[],_::_,_=>rfl
 |_::_,[],h=>by cases h
 |x::a,y::b,h=>by
  rw[eR]at h ⊢;by_cases e:x=y
  ·rw[J6 e]at h;rw[J6 e.symm];exact uh a b h
  ·rw[J7 e]at h;rw[J7 (J5 e)];have:=of_decide_eq_true h;exact A7 (by omega)
set_option tactic.hygienic true in
theorem Ep:∀a b c:List Int,lexLt a b=false->lexLt b c=false->lexLt a c=false
 |_,_::_,[],_,_=>by rename_i a _ _ _ _;cases a <;> rfl
 |[],[],c,_,h=>h
 |_::_,[],[],_,_=>rfl
 |_::_,[],_::_,_,h=>by cases h
 |[],_::_,_::_,h,_=>by cases h
 |x::a,y::b,z::c,h,g=>by
  rw[eR]at h g ⊢;by_cases e:x=y
  ·rw[J6 e]at h;subst e;by_cases e2:x=z
   ·rw[J6 e2]at g ⊢;exact Ep a b c h g
   ·rw[J7 e2]at g ⊢;exact g
  ·rw[J7 e]at h;have h:=of_decide_eq_false h;by_cases e2:y=z
   ·subst e2;rw[J7 e];exact A7 h
   ·rw[J7 e2]at g;have g:=of_decide_eq_false g;have:x≠z:=by omega
    rw[J7 this];exact A7 (by omega)
end L2
namespace L5
open PySem
theorem GU:fillsNumberSlot (.type "tuple") "mul"=pure false:=fillsNumberSlot_seq (id:="tuple.__mul__") (r:=some (.builtin "tuple.__rmul__")) F.slot_tuple_mul.lookup (by decide+kernel) F.slot_tuple_rmul.lookup (by decide+kernel)
theorem LA:seqRepeat? (.type "tuple")=pure (some (.builtin "tuple.__mul__")):=by unfold seqRepeat?;rw[seqSlot_of (T:="tuple") (name:="__mul__") (id:="tuple.__mul__") F.slot_tuple_mul.lookup (by decide+kernel),seqSlot_of (T:="tuple") (name:="__rmul__") (id:="tuple.__rmul__") F.slot_tuple_rmul.lookup (by decide+kernel)];rfl
theorem LC(a:Int)(t:Tok)(l:Addr)(ax:Array Value)(n:Nat)(dd:Option Addr)(sl:Array (Option Value)):Meets (Builtin.«int.__rmul__» ⟨[.int a t,.ref l],[]⟩) (λ _ R s=>s.heap.get? l=some {cls:=.type "tuple",dict:=dd,data:=.seq ax n,slots:=sl}/\R (.ok (.ret Value.notImplemented)) s):=
 .of_wp λ prog w A R s h=>by
  obtain⟨hp,g,d,tk,os⟩:=s;obtain⟨hl,h⟩:=h
  wp_walk
  exact⟨_,rfl,h⟩
theorem LB(l:Addr)(ax:Array Value)(n:Nat)(dd:Option Addr)(sl:Array (Option Value))(u:Tok):Meets (Builtin.«tuple.__mul__» ⟨[.ref l,.int 1 u],[]⟩) (λ _ R s=>s.heap.get? l=some {cls:=.type "tuple",dict:=dd,data:=.seq ax n,slots:=sl}/\R (.ok (.ret (.ref l))) s):=
 .of_wp λ prog w A R s h=>by
  obtain⟨hp,g,d,tk,os⟩:=s;obtain⟨hl,h⟩:=h
  wp_walk
  exact⟨_,rfl,h⟩
theorem GS(l:Addr)(ax:Array Value)(n:Nat)(dd:Option Addr)(sl:Array (Option Value))(x:Int)(u:Tok)(hx:x≠1)(h1: -(2^63)<=x)(h2:x < 2^63)(hi:ax.isEmpty=false)(hz:ax.size*x.toNat<=sizeLine):
  Meets (Builtin.«tuple.__mul__» ⟨[.ref l,.int x u],[]⟩) (λ _ R s=>s.heap.get? l=some {cls:=.type "tuple",dict:=dd,data:=.seq ax n,slots:=sl}/\
   R (.ok (.ret (.ref s.heap.objs.size))) {s with heap:=s.heap.push {cls:=.type "tuple",data:=.seq ((List.replicate x.toNat ax).foldl (·++·) #[])}}):=
 .of_wp λ prog w A R s h=>by
  obtain⟨hp,g,d,tk,os⟩:=s;obtain⟨hl,h⟩:=h
  wp_walk
  rw[J7 (by simp;omega)]
  wp_walk
  by_cases Yk:x<=0
  ·rw[J6 (by simp[Yk])]
   wp_walk
   have e:x.toNat=0:=by omega
   rw[e]at h;exact⟨_,rfl,h⟩
  ·rw[J7 (by simp[hi];omega)];have ez:((ax.size:Int)*x)=((ax.size*x.toNat:Nat):Int):=by rw[Int.natCast_mul,Int.toNat_of_nonneg (by omega)]
   have Yf:=hz;rw[G6]at Yf;rw[J7 (by rw[ez];omega)]
   wp_walk
   rw[J7 (by unfold Builtin.Tuple.tupleTooMany;rw[ez,u6,G6];omega)];have hsz:(List.foldl (λ x1 x2=>x1++x2) #[] (List.replicate x.toNat ax)).size<=sizeLine:=by
    have f0:∀(m:Nat) (acc:Array Value),(List.foldl (λ x1 x2=>x1++x2) acc (List.replicate m ax)).size=acc.size+m*ax.size:=by
     intro m
     induction m with
     |zero=>intro acc;simp
     |succ m ih=>intro acc;rw[m6,foldl_cons,ih,Array.size_append,Nat.succ_mul];omega
    rw[f0,Nat.mul_comm];simpa using hz
   wp_walk
   exact⟨_,rfl,h⟩
end L5
namespace L2
open PySem PySem.Spec PyProof.Rows L5
section
variable {X:Cx}
theorem IU:fK X (binaryOp .Mult) (λ x y H Q=>∃l k xs,x=.ref l/\y=.int k/\fJ X.K H l xs/\xs≠[]/\-(2^63)<=k/\k < 2^63/\xs.length*k.toNat<=sizeLine/\(k=1->Q (.ref l) H)/\(k≠1->∀p,H p=none->Q (.ref p) (upd H p (.tup (List.replicate k.toNat xs).flatten)))):=by
 intro pins s σ H x y v u Q I rx ry h;obtain⟨l,k,xs,rfl,rfl,hH,eZ,h1,h2,hz,q1,q2⟩:=h;cases rx;obtain⟨t,rfl⟩:=ry;obtain⟨ax,r,⟨⟨c,dd,da,sl⟩,e,hc,n,hd⟩,_⟩:=I.tuple hH;have hl:=r.length;cases(show c=.type "tuple" from hc);cases(show da=.seq ax.toArray n from hd);refine wpAny_binaryOp_repeat_ref (T:="tuple") (U:="int") (by decide) ⟨_,e,rfl⟩ (λ s'=>typeIs_int s' k t) GU F.fills_int_mul F.slot_int_rmul LA F.slot_int_index.lookup
  (J0 F.slot_int_rmul (typeIs_int s k t) F.entry_int_rmul (F.args_int_rmul_2 _ _) (LC k t l ax.toArray n dd sl) ⟨e,rfl,⟨_,e,rfl⟩,?_⟩)
 by_cases hk:k=1
 ·subst hk;exact J0 F.slot_tuple_mul ⟨_,e,rfl⟩ F.entry_tuple_mul (F.args_tuple_mul_2 _ _) (LB l ax.toArray n dd sl t) ⟨e,.ref l,H,I,rfl,q1 rfl⟩
 ·refine J0 F.slot_tuple_mul ⟨_,e,rfl⟩ F.entry_tuple_mul (F.args_tuple_mul_2 _ _) (GS l ax.toArray n dd sl k t hk h1 h2 ?_ (by rw[x5,<- hl];exact hz)) ⟨e,?_⟩
  ·cases ax with
   |nil=>cases r;exact absurd rfl eZ
   |cons a b=>rfl
  ·have EY:List.foldl (λ x1 x2=>x1++x2) #[] (List.replicate k.toNat ax.toArray)=(List.replicate k.toNat ax).flatten.toArray:=by have:=foldl_rep ax k.toNat [];rw[A5]at this;exact this
   rw[EY];have fr:=I.fresh;refine⟨.ref s.heap.objs.size,_,I.laid (t':=s.toks) (o:=.tup (List.replicate k.toNat xs).flatten) (λ b o e=>j4 _ e) (G5 _) ⟨?_,_,r.rep k.toNat,⟨_,m8 _ rfl,rfl,_,rfl⟩⟩,rfl,q2 hk _ fr⟩;rw[len_rep,Nat.mul_comm];exact hz
end
end L2
namespace L3
open PySem PySem.Spec L2 L5 PyProof.Rows
mutual
def toP:D->PyData
 | .bx=>.none
 | .bl b=>.bool b
 | .int i=>.int i
 | .str x=>.str x
 | .ty _=>.none
 | .ref _=>.none
 | .tup ds=>.tuple (toPs ds)
 | .fl ds=>.list (toPs ds)
def toPs:List D->List PyData
 |[]=>[]
 |d::ds=>toP d::toPs ds
end
mutual
def nr:D->Bool
 | .bx=>true
 | .bl _=>true
 | .int _=>true
 | .str _=>true
 | .ty _=>false
 | .ref _=>false
 | .tup ds=>wy ds
 | .fl ds=>wy ds
def wy:List D->Bool
 |[]=>true
 |d::ds=>nr d&&wy ds
end
section
variable {X:Cx}{pins:List (Addr×Obj)}{σ:L2.St}{H:Hp}{s:Shared}
mutual
theorem S0(I:Inv X pins σ H s):∀(d:D) {x:V} {u:Value},nr d=true->Dat X.K H d x->RelV x u->∃as,Reads s.heap u (toP d) as
 | .bx,x,u,_,h,r=>by cases(dA.mp h);cases r;unfold toP;exact⟨_,Reads.none⟩
 | .bl b,x,u,_,h,r=>by cases(aY.mp h);cases r;unfold toP;exact⟨_,Reads.bool b⟩
 | .int i,x,u,_,h,r=>by cases(au.mp h);obtain⟨t,rfl⟩:=r;unfold toP;exact⟨_,Reads.int i t⟩
 | .str z,x,u,_,h,r=>by cases(aX.mp h);obtain⟨t,rfl⟩:=r;unfold toP;exact⟨_,Reads.str z t⟩
 | .ty _,x,u,n,h,r=>by unfold nr at n;cases n
 | .ref _,x,u,n,h,r=>by unfold nr at n;cases n
 | .tup ds,x,u,n,h,r=>by unfold nr at n;obtain⟨p,xs,rfl,hq,hd⟩:=aU.mp h;cases(show u=Value.ref p from r);obtain⟨ax,rv,⟨o,ho,hc,m,Ot⟩,_⟩:=I.tuple hq;obtain⟨as,ra⟩:=wb I ds n hd rv;unfold toP;exact⟨_,reads_tuple_at ho hc Ot ra⟩
 | .fl ds,x,u,n,h,r=>by unfold nr at n;obtain⟨p,xs,rfl,hq,hd⟩:=jc.mp h;cases(show u=Value.ref p from r);obtain⟨ax,rv,pl,_⟩:=I.list hq.sq;obtain⟨o,ho,hc,m,Ot⟩:=pl.isList;obtain⟨as,ra⟩:=wb I ds n hd rv;unfold toP;exact⟨_,reads_list_at ho hc Ot ra⟩
theorem wb(I:Inv X pins σ H s):∀(ds:List D) {xs:List V} {us:List Value},wy ds=true->aA X.K H ds xs->Vals xs us->∃as,ReadsAll s.heap us (toPs ds) as
 |[],xs,us,_,h,r=>by cases(ao.mp h);cases r;unfold toPs;exact⟨_,ReadsAll.nil⟩
 |d::ds,xs,us,n,h,r=>by
  unfold wy at n;rw[y7]at n;obtain⟨x,Kw,rfl,h1,h2⟩:=ag.mp h;cases r with
  |cons r1 r2=>obtain⟨as,a⟩:=S0 I d n.1 h1 r1;obtain⟨bs,b⟩:=wb I ds n.2 h2 r2;unfold toPs;exact⟨_,ReadsAll.cons a b⟩
end
end
def Px(K:J8)(H:Hp)(x:V)(a:PyData):Prop:=(∃d,nr d=true/\Dat K H d x/\toP d=a)\/∃p ds xs,x=.ref p/\eW K H p xs/\aA K H ds xs/\wy ds=true/\a=.list (toPs ds)
def wd(M:Mem)(d:D):Option PyData:=match d with
 | .ref a=>match M a with
  |some (.lst ds)=>if wy ds=true then some (.list (toPs ds))else none
  |_=>none
 |d=>if nr d=true then some (toP d)else none
theorem lZ{K:J8}{H:Hp}{M:Mem}{d:D}{x:V}{a:PyData}(e:wd M d=some a)(h:Dat K H d x)(hm:RelM K H M):Px K H x a:=by
 cases d with
 |ref p=>
  cases(aE.mp h);unfold wd at e;cases q:M p with
  |none=>simp[q]at e
  |some o=>
   cases o with
   |cL b kvs=>simp[q]at e
   |fm x=>simp[q]at e
   |lst ds=>
    simp only[q]at e;by_cases n:wy ds=true
    ·rw[J6 n]at e;cases e;obtain⟨xs,hx,hd⟩:=hm p _ q;exact .inr ⟨p,ds,xs,rfl,eW.of hx,hd,n,rfl⟩
    ·rw[J7 n]at e;cases e
 |bx=>exact .inl ⟨_,rfl,h,by simpa[wd,nr]using e⟩
 |bl _=>exact .inl ⟨_,rfl,h,by simpa[wd,nr]using e⟩
 |int _=>exact .inl ⟨_,rfl,h,by simpa[wd,nr]using e⟩
 |str _=>exact .inl ⟨_,rfl,h,by simpa[wd,nr]using e⟩
 |ty _=>simp[wd,nr]at e
 |tup ds=>
  by_cases n:wy ds=true
  ·exact .inl ⟨.tup ds,by unfold nr;exact n,h,by simpa[wd,nr,n]using e⟩
  ·simp[wd,nr,n]at e
 |fl ds=>
  by_cases n:wy ds=true
  ·exact .inl ⟨.fl ds,by unfold nr;exact n,h,by simpa[wd,nr,n]using e⟩
  ·simp[wd,nr,n]at e
section
variable {X:Cx}
theorem ib{pins:List (Addr×Obj)}{σ:L2.St}{H:Hp}{s:Shared}(I:Inv X pins σ H s){x:V}{u:Value}{a:PyData}(h:Px X.K H x a)(r:RelV x u):∃as,Reads s.heap u a as:=by
 rcases h with⟨d,n,hd,rfl⟩|⟨p,ds,xs,rfl,hq,hd,n,rfl⟩
 ·exact S0 I d n hd r
 ·cases(show u=Value.ref p from r);obtain⟨ax,rv,pl,_⟩:=I.list hq;obtain⟨o,ho,hc,m,Ot⟩:=pl.isList;obtain⟨as,ra⟩:=wb I ds n hd rv;exact⟨_,reads_list_at ho hc Ot ra⟩
def VS(neg:Bool):fZ:=λ x y M Q=>∃a b,wd M x=some a/\wd M y=some b/\SeqAt.shaped a=true/\SeqAt.shaped b=true/\Q (.bl (if neg then !PyData.eqv a b else PyData.eqv a b)) M
theorem NB(hu:X.A.units+64 < cLine):fK X (compareOp .Eq) (λ x y H Q=>∃a b,Px X.K H x a/\Px X.K H y b/\SeqAt.shaped a=true/\SeqAt.shaped b=true/\Q (.bl (PyData.eqv a b)) H):=by intro pins s σ H x y v u Q I rx ry h;obtain⟨a,b,ha,hb,sa,sb,q⟩:=h;obtain⟨as,ra⟩:=ib I ha rx;obtain⟨bs,rb⟩:=ib I hb ry;exact eq_dataH ra rb sa sb hu ⟨.bl (PyData.eqv a b),H,I,rfl,q⟩
theorem Nw(hu:X.A.units+64 < cLine):fK X (compareOp .NotEq) (λ x y H Q=>∃a b,Px X.K H x a/\Px X.K H y b/\SeqAt.shaped a=true/\SeqAt.shaped b=true/\Q (.bl (!PyData.eqv a b)) H):=by intro pins s σ H x y v u Q I rx ry h;obtain⟨a,b,ha,hb,sa,sb,q⟩:=h;obtain⟨as,ra⟩:=ib I ha rx;obtain⟨bs,rb⟩:=ib I hb ry;exact ne_dataH ra rb sa sb hu ⟨.bl (!PyData.eqv a b),H,I,rfl,q⟩
theorem fM.or {f:Value->Value->Sem Value}{r r':fZ}(h:fM X f r)(h':fM X f r'):fM X f (λ x y M Q=>r x y M Q\/r' x y M Q):=by
 obtain⟨a,h1,h2⟩:=h;obtain⟨b,g1,g2⟩:=h';refine⟨_,h1.or g1,λ x y d e H M Q2 Q hd he hm q k=>?_⟩;rcases q with q|q
 ·exact .inl (h2 x y d e H M Q2 Q hd he hm q k)
 ·exact .inr (g2 x y d e H M Q2 Q hd he hm q k)
def uS(neg:Bool):fZ:=λ x y M Q=>Ll neg x y M Q\/VS neg x y M Q
theorem df(hu:X.A.units+64 < cLine):fM X (compareOp .Eq) (uS false):=UE.or ⟨_,NB hu,λ x y d e H M Q2 Q hd he hm q k=>by
 obtain⟨a,b,ha,hb,sa,sb,q⟩:=q;exact⟨a,b,lZ ha hd hm,lZ hb he hm,sa,sb,k _ H _ M (aY.mpr rfl) hm (ar.refl H) q⟩⟩
theorem nJ(hu:X.A.units+64 < cLine):fM X (compareOp .NotEq) (uS true):=UB.or ⟨_,Nw hu,λ x y d e H M Q2 Q hd he hm q k=>by
 obtain⟨a,b,ha,hb,sa,sb,q⟩:=q;exact⟨a,b,lZ ha hd hm,lZ hb he hm,sa,sb,k _ H _ M (aY.mpr rfl) hm (ar.refl H) q⟩⟩
def mz:D->List D->Mem->bK->Prop:=λ x vs M Q=>∃p ds y,x=.ref p/\vs=[y]/\M p=some (.lst ds)/\ds.length < sizeLine/\Q .bx (ah M p (.lst (ds++[y])))
theorem bP:Ls X "list.append" mz:=⟨ye,AR,λ x xs d ds H M Q2 Q hx hd hm q k=>by
 obtain⟨p,es,y,rfl,rfl,hM,hz,q⟩:=q;cases(aE.mp hx);obtain⟨v,r,rfl,hv,hr⟩:=ag.mp hd;cases(ao.mp hr);obtain⟨zs,h1,h2⟩:=hm p _ hM;have t:=ar.lst (o:=.lst (zs++[v])) h1;refine⟨p,zs,v,rfl,rfl,h1,by rw[h2.length];exact hz,k _ _ .bx _ (dA.mpr rfl) (hm.put (u:=.lst (es++[y])) t ⟨_,aP,?_⟩) t q⟩;exact(aA.mono t es h2).append (aA.one (Dat.mono t y hv))⟩
theorem jb{K:J8}{H:Hp}:∀{ns:List Int} {xs:List V},aA K H (ns.map D.int) xs->xs=ns.map V.int
 |[],xs,h=>by rw[map_nil,ao]at h;exact h
 |b::bs,xs,h=>by rw[C9,ag]at h;obtain⟨x,r,rfl,a,q⟩:=h;rw[au]at a;rw[a,jb q];rfl
def RZ:fZ:=λ x y M Q=>∃ds k,x=.tup ds/\y=.int k/\ds≠[]/\-(2^63)<=k/\k < 2^63/\ds.length*k.toNat<=sizeLine/\Q (.tup (List.replicate k.toNat ds).flatten) M
theorem oi{K:J8}{H:Hp}{ds:List D}{xs:List V}(h:aA K H ds xs):∀k:Nat,aA K H (List.replicate k ds).flatten (List.replicate k xs).flatten
 |0=>by simp[ao]
 |k+1=>by rw[m6,m6,w6,w6];exact h.append (oi h k)
def zo:fZ:=λ x y M Q=>OL x y M Q\/RZ x y M Q
theorem NN:fM X (binaryOp .Mult) zo:=Q_.or ⟨_,IU,λ x y d e H M Q2 Q hd he hm q k=>by
 obtain⟨ds,n,rfl,rfl,eZ,h1,h2,hz,q⟩:=q;obtain⟨p,xs,rfl,hq,hx⟩:=aU.mp hd;cases(au.mp he);refine⟨p,n,xs,rfl,rfl,hq,λ z=>?_,h1,h2,by rw[hx.length];exact hz,λ e1=>?_,λ _ l hl=>?_⟩
 ·have:=hx.length;rw[z]at this;exact eZ (j0.mp this.symm)
 ·subst e1;rw[show(1:Int).toNat=1 from rfl,show(List.replicate 1 ds).flatten=ds by simp]at q;exact k _ H _ M (aU.mpr ⟨p,xs,rfl,hq,hx⟩) hm (ar.refl H) q
 ·exact k _ _ (.tup _) M (g_ hl (oi hx _)) (hm.laid hl) (ar.laid hl) q⟩
end
end L3
namespace L3
open PySem PySem.Spec L2 L5
section
variable {M:Mem}{Q:bK}
theorem HJ{i j:Int}(q:Q (.bl (decide (i=j))) M):uS false (.int i) (.int j) M Q:=.inl (Mp q)
theorem HK{i j:Bool}(q:Q (.bl (decide (i=j))) M):uS false (.bl i) (.bl j) M Q:=.inl (Mq q)
theorem HI{i j:Str}(q:Q (.bl (decide (i=j))) M):uS false (.str i) (.str j) M Q:=.inl (Mo q)
theorem HA{i j:Int}(q:Q (.bl (!decide (i=j))) M):uS true (.int i) (.int j) M Q:=.inl (Mi q)
theorem HB{i j:Bool}(q:Q (.bl (!decide (i=j))) M):uS true (.bl i) (.bl j) M Q:=.inl (Mj q)
theorem De{i j:Int}(h:sH i j)(q:Q (.int (i*j)) M):zo (.int i) (.int j) M Q:=.inl (HC h q)
theorem Dd{d:D}{k:Int}(h0:0<=k)(h1:k<=10000)(q:Q (.tup (List.replicate k.toNat d)) M):zo (.tup [d]) (.int k) M Q:=.inr ⟨[d],k,rfl,rfl,by simp,Int.le_trans (by decide) h0,p9 h1 (by decide),D8 (show 1*k.toNat<=10000 by omega) (by decide),by
 rw[show(List.replicate k.toNat [d]).flatten=List.replicate k.toNat d by simp];exact q⟩
theorem fS{p:Addr}{ds:List D}{y:D}(h:M p=some (.lst ds))(hz:ds.length < sizeLine)(q:Q .bx (ah M p (.lst (ds++[y])))):mz (.ref p) [y] M Q:=⟨p,ds,y,rfl,rfl,h,hz,q⟩
abbrev row(ns:List Int):D:=.tup (ns.map D.int)
theorem Hv{i j:Nat}{a b:D}{δ:cS}{N:cS->Mem->Prop}(h:N ((δ.set i (some a)).set j (some b)) M):pd 2 (cO (hName i) (cO (hName j) ph)) (.tup [a,b]) δ M N:=⟨rfl,h⟩
theorem Di{A B:Prop}(h:B):if(!true)=true then A else B:=by rw[Bool.not_true,J7 n9];exact h
theorem dX{c:fz}{tb:jY}{E:iP}{δ:cS}(h:∃W:Nat->cS->Mem->Prop,(∃m,W m δ M)/\∀m δ M,W m δ M->c δ M λ b M1=>
  if b=true then ∃N:cS->Mem->Prop,(∀δ' M',N δ' M'->∃m',m' < m/\W m' δ' M')/\tb {E with nx:=N,ct:=N,bk:=E.nx} δ M1 else E.nx δ M1):vS c tb E δ M:=h
theorem Ln{g:iE}{tt:fz}{te:cu}{δc:cS}{M1:Mem}{Qe:List D->Mem->Prop}{a:Addr}{ds:List D}(Pv:Nat->List D->Mem->Prop)(h0:Pv 0 [] M1)(hl:∀i acc M,i<=ds.length->Pv i acc M->M a=some (.lst ds))(hz:∀i acc M,i<=ds.length->Pv i acc M->acc.length<=sizeLine) (hs:∀i d acc M,ds[i]?=some d->Pv i acc M->g d δc M λ δ2 M2=>tt δ2 M2 λ b M3=>if b=true then te δ2 M3 λ y M4=>Pv (i+1) (acc++[y]) M4 else Pv (i+1) acc M3) (hd:∀acc M,Pv ds.length acc M->Qe acc M):∃(B:Nat) (W:Nat->List D->Mem->Prop),W 0 [] M1/\∀i acc M,W i acc M->i<=B/\acc.length<=sizeLine/\match items (.at a) M with
   |none=>False
   |some ds=>match ds[i]? with
    |none=>i=ds.length/\Qe acc M
    |some d=>g d δc M λ δ2 M2=>tt δ2 M2 λ b M3=>if b=true then te δ2 M3 λ y M4=>W (i+1) (acc++[y]) M4 else W (i+1) acc M3:=by
 refine⟨ds.length,λ i acc M=>if i<=ds.length then Pv i acc M else False,by dsimp only;rw[J6 (G7 _)];exact h0,?_⟩;intro i acc M w;by_cases hi:i<=ds.length
 ·rw[J6 hi]at w;refine⟨hi,hz i acc M hi w,?_⟩;have e0:items (.at a) M=some ds:=by show(match M a with|some (.lst ds)=>some ds|_=>none)=some ds;rw[hl i acc M hi w]
  rw[e0];show(match ds[i]? with
    |none=>i=ds.length/\Qe acc M
    |some d=>g d δc M λ δ2 M2=>tt δ2 M2 λ b M3=>if b=true then te δ2 M3 λ y M4=>(if i+1<=ds.length then Pv (i+1) (acc++[y]) M4 else False)else(if i+1<=ds.length then Pv (i+1) acc M3 else False))
  cases e:ds[i]? with
  |none=>have:i=ds.length:=B7 hi (i3.mp e);subst this;exact⟨rfl,hd acc M w⟩
  |some d=>have iX:i+1<=ds.length:=(g9.mp e).1;simp only[J6 iX];exact hs i d acc M e w
 ·rw[J7 hi]at w;exact w.elim
end
end L3
namespace L2
open PySem PySem.Spec PyProof.Rows L5 PySem.W
section
variable {X:Cx}{e:Expr}{te:TE}{p p2 pos cW fp kp:Pos}{f:Str}{k:Nat}{ps:List Str}{sp:Sp}
theorem pK:∀as:List Addr,Vals (as.map V.ref) (as.map Value.ref)
 |[]=>.nil
 |a::as=>.cons rfl (pK as)
end
end L2
namespace L5
open PySem
open AutoSeq1 (wpAny_loadPart')
abbrev Ts(T:String)(h:Heap)(l:Addr):Heap:=h.push {cls:=.type T,data:=.fields #[.ref l,.int 0 0]}
abbrev VO(T:String)(h:Heap)(l:Addr):Heap:=(Ts T h l).push {cls:=.type "enumerate",data:=.fields #[.none,.bool false,.ref h.objs.size,rawInt 0,.none,.none]}
set_option tactic.hygienic true in
theorem wW{T:String}{S:Heap->Addr->Array Value->Prop}(k:NK T S)(l:Addr)(vs:Array Value):Meets (Builtin.«enumerate.__new__» ⟨[.type "enumerate",.ref l],[]⟩) (λ _ R s=>S s.heap l vs/\R (.ok (.ret (.ref (Ts T s.heap l).objs.size))) {s with heap:=VO T s.heap l}):=
 .of_wp λ prog w A R s h=>by
  obtain⟨hp,g,d,tk,os⟩:=s;obtain⟨a1,h⟩:=h;have se:=sub_enumerate;have aT:S (Shared.heap ⟨hp,g,d,tk,os⟩) l vs:=a1
  wp_walk using k.start aT
  refine wpAny_stack_any λ st=>H9 ?_;split
  ·rename_i c _ _ _ _ _;cases(c==Value.type "enumerate")
   all_goals
    wp_walk using k.start aT
    exact⟨_,rfl,h⟩
  ·wp_walk using k.start aT
   exact⟨_,rfl,h⟩
theorem Jo{prog:Program}{w:World}{A:Around}{E:Value->Shared->Prop}{s:Shared}{T:String}{S:Heap->Addr->Array Value->Prop}(kk:NK T S){l:Addr}{vs:Array Value}{Q:Value->Shared->Prop}(a1:S s.heap l vs) (k:∀h',IsEnum h' (s.heap.objs.size+1) s.heap.objs.size 0 .none->lO T h' s.heap.objs.size l 0->(∀f o,s.heap.get? f=some o->h'.get? f=some o)->Q (.ref (s.heap.objs.size+1)) {s with heap:=h'}):wpAny (model prog w) A (call (.type "enumerate") [.ref l]) Q E s:=by refine callType_new F.called_enumerate (by decide) (F.typeCall_enumerate_1 _) (F.newCall_enumerate_1 _) (λ ob=>F.args_object_init_2 ob _) F.entry_enumerate_new (wW kk l vs) ⟨a1,?_⟩;have e1:(Ts T s.heap l).objs.size=s.heap.objs.size+1:=C4 ..;have g2:(VO T s.heap l).get? (Ts T s.heap l).objs.size=some _:=m8 _ rfl;have g1:(VO T s.heap l).get? s.heap.objs.size=some _:=j4 _ (m8 s.heap rfl);rw[e1]at g2;show _/\_;rw[e1];exact⟨⟨_,g2,rfl⟩,k _ g2 ⟨_,g1,rfl,rfl⟩ λ f o x=>j4 _ (j4 _ x)⟩
theorem Ee{T:String}{S:Heap->Addr->Array Value->Prop}(k:NK T S){prog:Program}{w:World}{A:Around}(hA:A.handled=none)(j l:Addr)(ne:l≠j)(vs:Array Value):Draws prog w A j [j,l] vs.size (λ i v=>vs[i]?=some v) (λ i h=>lO T h j l i/\S h l vs) where
 live:=λ _ _ st=>let⟨⟨o,ho,_⟩,_⟩:=st;⟨o,ho⟩
 frame:=λ _ _ _ st q=>let⟨⟨o,ho,r⟩,su⟩:=st;⟨⟨o,q j (by simp) o ho,r⟩,k.keep su λ o e=>q l (by simp) o e⟩
 item:=λ i s Q E hi st kk=>k.item st.1 st.2 (g0 hi) λ h' a b=>kk _ h' s.toks (g0 hi) ⟨a,k.keep st.2 λ o e=>b.extBut _ _ ne e⟩ b
 done:=λ s Q E st kk=>k.stop hA st.1 st.2 (j3 (G5 _)) kk
end L5
namespace L2
open PySem PySem.Spec PyProof.Rows L5
def TH(K:J8)(b:Bool)(l:Addr):It:=
 ⟨λ i H=>∃xs x,Sq b K H l xs/\xs[i]?=some x,
  λ i H v H'=>∃(p:Addr) (x:V),H p=none/\v=.ref p/\H'=upd H p (.tup [.int i,x])/\∀xs,Sq b K H l xs->xs[i]?=some x,
  λ i H=>∃xs,Sq b K H l xs/\xs.length<=i⟩
def Xy(b:Bool)(e j l:Addr)(i:Nat)(h:Heap):Prop:=(∃old,IsEnum h e j i old)/\lO (Sz b) h j l i
theorem Ac{P:Program}{w:World}{K:J8}{es:List Expr}{k0}{pos:Pos}{e j:Addr}(b:Bool)(B:e≠j)(l:Addr):Turn P w K (.Tuple es k0 pos) (TH K b l) [e,j] e (Xy b e j l) where
 mem:=by simp
 obj:=λ i h st c hc=>by
  obtain⟨⟨old,he⟩,⟨oa,ha,_,da⟩⟩:=st;rcases D1.mp hc with rfl|hc
  ·exact⟨_,he,λ v z=>by cases z⟩
  rcases D1.mp hc with rfl|hc
  ·exact⟨_,ha,λ v z=>by rw[da]at z;cases z⟩
  ·cases hc
 keep:=λ i h h' st q=>by obtain⟨⟨old,he⟩,⟨oa,ha,r⟩⟩:=st;exact⟨⟨old,q e (by simp) _ he⟩,⟨oa,q j (by simp) _ ha,r⟩⟩
 item:=by
  intro X hP hw hK hc i pins s σ H E I hf st hg;subst hP hw hK;obtain⟨xs,x,hl,hx⟩:=hg;obtain⟨⟨old,he⟩,hj⟩:=st;obtain⟨O',r1,p1⟩:=kq I hl;obtain⟨u1,e1,q1⟩:=r1.get hx;have lj:l≠j:=Cj I (hf j (by simp)) hl;have le:l≠e:=Cj I (hf e (by simp)) hl;have hi:i < O'.toArray.size:=by have:=(g9.mp e1).1;simpa using this
  refine wpAny_pyNext_enum_itemD (Ee (gM b) (A:=X.A.in1) (I.ok.hd hc) j l lj O'.toArray) he ⟨hj,p1⟩ hi B (by simp;exact⟨B,J5 le⟩) λ y g tk g1 g2 g3 g4 g5 g6=>?_;have ey:y=u1:=by rw[getElem?_toArray,e1]at g1;cases g1;rfl
  subst ey;have hn:H s.heap.objs.size=none:=I.bh.fresh (G5 _);have I1:Inv X pins σ H {s with heap:=g,toks:=tk+1}:=Ca (t':=tk+1) I (ch:=[e,j]) (λ c o hc e=>g6 c o (λ z=>hc (by simp[z])) (λ z=>hc (by simp[z])) e) hf;refine⟨_,rfl,wpAny_letOwnedTupleGo_enum (s:={s with heap:=g,toks:=tk+1}) g2 λ g' e' sb=>?_⟩;have I2:Inv X pins σ H {s with heap:=g',toks:=tk+1}:=Ca (s:={s with heap:=g,toks:=tk+1}) (t':=tk+1) (ch:=[e]) I1 (λ c o hc q=>sb.extBut _ _ (λ z=>hc (by simp[z])) q) (λ c hc=>hf c (by simp at hc ⊢;exact .inl hc));have fo:=I.kR (H':=H) (G5 s.heap.objs.size) hn;have Wn:e < s.heap.objs.size:=D5 he;have X6:j < s.heap.objs.size:=let⟨_,q,_⟩:=hj;D5 q
  have t5:=sb.extBut _ _ (G0 Wn) g4;have I3:Inv X pins σ (upd H s.heap.objs.size (.tup [.int i,x])) {s with heap:=g',toks:=tk+1}:=Inv.pP I2 hn ⟨show 2<=sizeLine by decide,[.int i tk,y],.cons ⟨tk,rfl⟩ (.cons q1 .nil),⟨_,t5,rfl,_,rfl⟩⟩ fo.2.1 (D8 I.sz (G5 _)) fo.2.2.2.2.1 fo.2.2.2.2.2;refine⟨.ref s.heap.objs.size,_,I3,rfl,⟨s.heap.objs.size,x,hn,rfl,rfl,λ Kw h'=>by rw[LM I h' hl];exact hx⟩,⟨⟨_,by simpa using e'⟩,?_⟩,λ c hc=>?_⟩
  ·obtain⟨o,ho,r⟩:=g3.1;exact⟨o,sb.extBut _ _ (J5 B) ho,r⟩
  ·have iX:c < s.heap.objs.size:=by
    simp at hc;rcases hc with rfl|rfl
    ·exact Wn
    ·exact X6
   rw[aG (D4 iX)];exact(hf c hc).1
 done:=by intro X hP hw hK hc i pins s σ H E I hf st hg;subst hP hw hK;obtain⟨xs,hl,hx⟩:=hg;obtain⟨⟨old,he⟩,hj⟩:=st;obtain⟨O',r1,p1⟩:=kq I hl;have l1:=r1.length;have lj:l≠j:=Cj I (hf j (by simp)) hl;have hT:s.TypeIs (.ref e) "enumerate":=⟨_,he,rfl⟩;unfold pyNext;refine G9 (wpAny_attempt (i9 (name:=Str.ofString "__next__") hT F.slot_enumerate_next (y6 F.slot_enumerate_next hT F.entry_enumerate_next ?_ (F.args_enumerate_next_1 _))));refine G9 (m:=field (.ref e) 2) (G8 he rfl (x:=.ref j) rfl ?_);refine G9 ((gM b).stop (A:=X.A.in1) (I.ok.hd hc) hj p1 (j3 (by simp;omega)) λ g c g1 g2=>?_);obtain⟨o,ho,Ou⟩:=g2;refine G9 (A0 (T:="StopIteration") (b:=true) ⟨o,ho,Ou⟩ isSubtype_stop (H9 ⟨rfl,?_⟩));exact Ca (t':=s.toks) (ch:=[j]) I (λ b o hb q=>g1 b o (λ z=>hb (by simp[z])) q) λ b hb=>hf b (by simp at hb ⊢;exact .inr hb)
 self:=λ _ _ _ _ _ st h=>wpAny_pyIter_enum st.1.choose_spec h
section
variable {X:Cx}{es:List Expr}{k0:_}{Cc:Pos}{a:Expr}{ta:TA}{p pos:Pos}
def Rr(K:J8)(ta:TA):TI:=λ σ H R=>ta σ H λ vs H1=>∃(b:Bool) (l:Addr),vs=[.ref l]/\(∃xs,Sq b K H1 l xs)/\R (TH K b l) H1
theorem IG(hg:Gl X "enumerate")(hm:X.mg "enumerate"=none)(ha:PA X [a] ta)(hs:starEach [a] X.env=[(false,eval a X.env)]:=by rfl)(hs2:starEach [] X.env=[]:=by rfl):PI X (.Tuple es k0 Cc) (.Call (.Name "enumerate" p) [a] [] pos) (Rr X.K ta):=by
 intro pins s σ H R I h;refine Call_ (fj I hg hm boot_enumerate (a8 (cT (ha pos pins s σ H _ I h) λ us s1 ⟨vs,H1,I1,r1,q1⟩=>?_) (by rw[hs,hs2]) (by rw[hs2];rfl)));obtain⟨b,l,e,⟨xs,hl⟩,q⟩:=q1;subst e;obtain⟨u1,rfl,r⟩:=vals1 r1;cases(show u1=Value.ref l from r);obtain⟨O',r1,p1⟩:=kq I1 hl;refine Jo (gM b) p1 λ g g1 g2 g7=>wpAny_pyIter_enum (s:={s1 with heap:=g}) g1 ?_;have I2:Inv X pins σ H1 {s1 with heap:=g}:=I1.kept (t':=s1.toks) g7;have fr:∀c,s1.heap.objs.size<=c->ke X pins H1 c:=λ c hc=>I1.kR hc (I1.bh.fresh hc);have ne:s1.heap.objs.size+1≠s1.heap.objs.size:=by omega
 refine⟨_,[s1.heap.objs.size+1,s1.heap.objs.size],_,_,H1,rfl,I2,Ac b ne l,⟨⟨_,g1⟩,g2⟩,λ c hc=>fr c ?_,q⟩;simp at hc;rcases hc with rfl|rfl <;> omega
end
end L2
namespace L3
open PySem PySem.Spec L2 L5
def e_(ds:List D):List D:=(List.range ds.length).map λ(i:Nat)=>D.tup [.int (i:Int),ds.getD i D.bx]
theorem dh(ds:List D):(e_ ds).length=ds.length:=by simp[e_]
def kindB:D->Bool
 | .tup _=>true
 |_=>false
theorem qX{K:J8}{H:Hp}{M:Mem}{d:D}{ds:List D}{x:V}(e:cE M d=some ds)(h:Dat K H d x)(hm:RelM K H M):∃p xs,x=.ref p/\Sq (kindB d) K H p xs/\aA K H ds xs:=by
 cases d with
 |tup es=>cases(show some es=some ds from e);obtain⟨p,xs,rfl,h1,h2⟩:=aU.mp h;exact⟨p,xs,rfl,h1,h2⟩
 |fl es=>cases(show some es=some ds from e);obtain⟨p,xs,rfl,h1,h2⟩:=jc.mp h;exact⟨p,xs,rfl,h1.sq,h2⟩
 |ref a=>cases(aE.mp h);obtain⟨xs,h1,h2⟩:=eM (show bf M a=some ds from e) hm;exact⟨a,xs,rfl,eW.of h1,h2⟩
 |_=>cases e
def iO(x:D)(M:Mem):Option (List D):=(cE M x).map e_
theorem Ba{K:J8}{H1:Hp}{a:Addr}{x:D}(hx:Dat K H1 x (.ref a)):sF K H1 (TH K (kindB x) a) (.fn (iO x)):=λ H M fs t hm e=>by
 have e:(cE M x).map e_=some fs:=e;cases e1:cE M x with
 |none=>rw[e1]at e;cases e
 |some ds=>rw[e1]at e;cases e;obtain⟨p,xs,e3,q1,x1⟩:=qX e1 (Dat.mono t x hx) hm;cases e3;have l1:=x1.length;rw[dh];refine⟨λ i hi=>⟨xs,xs[i]'(by omega),q1,by simp⟩,λ i hi=>⟨xs,q1,by omega⟩,λ i v H' hi y=>?_⟩;obtain⟨p,v,hp,rfl,rfl,hx⟩:=y;obtain⟨d,d1,d2⟩:=x1.Fs (hx xs q1);refine⟨ar.laid hp,hm.laid hp,.tup [.int i,d],?_,g_ hp (ag.mpr ⟨.int i,[v],rfl,au.mpr rfl,aA.one d2⟩)⟩;obtain⟨z1,w1⟩:=g9.mp d1;simp[e_,z1,w1]
def EC(ta:eO):qG:=λ δ M R=>ta δ M λ ds M1=>match ds with
 |[.tup xs]=>R (.fix (e_ xs)) M1
 |[x]=>(∃zs,cE M1 x=some zs)/\R (.fn (iO x)) M1
 |_=>False
section
variable {X:Cx}{es:List Expr}{k0:_}{Cc:Pos}{a:Expr}{ta:eO}{p pos:Pos}
theorem Ie(hg:Gl X "enumerate")(hm:X.mg "enumerate"=none)(ha:QA X [a] ta)(hs:starEach [a] X.env=[(false,eval a X.env)]:=by rfl)(hs2:starEach [] X.env=[]:=by rfl):QI X (.Tuple es k0 Cc) (.Call (.Name "enumerate" p) [a] [] pos) (EC ta):=ym (IG hg hm ha hs hs2) λ σ H R ⟨δ,M,R2,hs,hm,q,k⟩=>by
 refine⟨δ,M,_,hs,hm,q,λ xs H1 ds M1 hd bQ t1 q1=>?_⟩;have go:∀x,ds=[x]->(∃zs,cE M1 x=some zs)->(∀J,sF X.K H1 J (.fn (iO x))->R J H1)->∃(b:Bool) (l:Addr),xs=[.ref l]/\(∃xs,Sq b X.K H1 l xs)/\R (TH X.K b l) H1:=by rintro x rfl ⟨zs,hz⟩ hR;obtain⟨vx,r,rfl,hx,hr⟩:=ag.mp hd;cases(ao.mp hr);obtain⟨p,vs,rfl,q1,_⟩:=qX hz hx bQ;exact⟨_,p,rfl,⟨vs,q1⟩,hR _ (Ba hx)⟩
 match ds,q1 with
 |[x],q1=>
  by_cases ht:∃xs,x=.tup xs
  ·obtain⟨xs,rfl⟩:=ht;exact go _ rfl ⟨_,rfl⟩ λ J hJ=>k J H1 (.fix (e_ xs)) M1 (λ H M ds t hm e=>hJ H M ds t hm e) bQ t1 q1
  ·have q2:(∃zs,cE M1 x=some zs)/\R2 (.fn (iO x)) M1:=by cases x <;> first|exact q1|exact absurd ⟨_,rfl⟩ ht
   exact go x rfl q2.1 λ J hJ=>k J H1 _ M1 hJ bQ t1 q2.2
 |[],q1=>exact q1.elim
 |x::y::r,q1=>cases x <;> exact q1.elim
end
end L3
namespace L4
open PySem PySem.Spec L2 L3 L5
section
variable {X:Cx}{es:List Expr}{k0:_}{Cc:Pos}{a:Expr}{ta:eO}{p pos:Pos}
theorem lR(hg:Gl X "enumerate")(hm:X.mg "enumerate"=none)(ha:WA X [a] ta)(hs:starEach [a] X.env=[(false,eval a X.env)]:=by rfl)(hs2:starEach [] X.env=[]:=by rfl):WI X (.Tuple es k0 Cc) (.Call (.Name "enumerate" p) [a] [] pos) (EC ta):=⟨Ie hg hm ha.h hs hs2⟩
end
end L4
namespace L2
open PySem PySem.Spec PyProof.Rows
section
variable {X:Cx}
theorem IZ:fK X (binaryOp .Add) (λ x y H Q=>∃a b ys,x=.ref a/\y=.ref b/\fJ X.K H a []/\fJ X.K H b ys/\Q (.ref b) H):=by intro pins s σ H x y v u Q I rx ry h;obtain⟨a,b,ys,rfl,rfl,ha,hb,q⟩:=h;cases rx;cases ry;obtain⟨i1,r1,p1,_⟩:=I.tuple ha;obtain⟨i2,r2,p2,_⟩:=I.tuple hb;cases r1;obtain⟨⟨c1,d1,a1,l1⟩,o1,k1,n1,e1⟩:=id p1;obtain⟨⟨c2,d2,a2,l2⟩,o2,k2,n2,e2⟩:=id p2;cases(show c1=.type "tuple" from k1);cases(show a1=_ from e1);cases(show c2=.type "tuple" from k2);cases(show a2=_ from e2);exact concat_meets ⟨_,o1,rfl⟩ ⟨_,o2,rfl⟩ noFill_tuple_add seq_tuple_add PySem.F.slot_tuple_add PySem.F.entry_tuple_add (PySem.F.args_tuple_add_2 _ _) (tuple_addW0 a b #[] i2.toArray n1 n2 d1 d2 l1 l2 rfl) ⟨o1,o2,⟨.ref b,H,I,rfl,q⟩⟩
end
end L2
namespace L3
open PySem PySem.Spec L2
section
variable {X:Cx}
def zr:fZ:=λ x y M Q=>Kf x y M Q\/∃ys,x=.tup []/\y=.tup ys/\Q (.tup ys) M
theorem bw:fM X (binaryOp .Add) zr:=by
 obtain⟨r,h1,h2⟩:=(Rb:fM X (binaryOp .Add) Kf);refine⟨_,h1.or IZ,λ x y d e H M Q2 Q hd he hm q k=>?_⟩;rcases q with q|⟨ys,rfl,rfl,q⟩
 ·exact .inl (h2 x y d e H M Q2 Q hd he hm q k)
 ·obtain⟨p,vs,rfl,hp,hx⟩:=aU.mp hd;obtain⟨p2,ws,rfl,eT,hy⟩:=aU.mp he;cases(ao.mp hx);exact .inr ⟨p,p2,ws,rfl,rfl,hp,eT,k _ H _ M (aU.mpr ⟨p2,ws,rfl,eT,hy⟩) hm (ar.refl H) q⟩
def zp:D->List D->Mem->bK->Prop:=λ x vs M Q=>∃p q ds es,x=.ref p/\vs=[.ref q]/\M p=some (.lst ds)/\M q=some (.lst es)/\ds.length+es.length<=sizeLine/\Q .bx (ah M p (.lst (ds++es)))
theorem Ej:Ls X "list.extend" zp:=⟨yd,AQ,λ x xs d ds H M Q2 Q hx hd hm q k=>by
 obtain⟨p,p2,es,fs,rfl,rfl,hM,VA,hz,q⟩:=q;cases(aE.mp hx);obtain⟨v,r,rfl,hv,hr⟩:=ag.mp hd;cases(ao.mp hr);cases(aE.mp hv);obtain⟨zs,h1,h2⟩:=hm p _ hM;obtain⟨ys,g1,g2⟩:=hm p2 _ VA;have t:=ar.lst (o:=.lst (zs++ys)) h1;refine⟨p,p2,zs,ys,rfl,rfl,h1,g1,by rw[h2.length,g2.length];exact hz,k _ _ .bx _ (dA.mpr rfl) (hm.put (u:=.lst (es++fs)) t ⟨_,aP,?_⟩) t q⟩;exact(aA.mono t es h2).append (aA.mono t fs g2)⟩
end
section
variable {M:Mem}{Q:bK}
theorem Mn{p q:Addr}{ds es:List D}(h:M p=some (.lst ds))(g:M q=some (.lst es))(hz:ds.length+es.length<=sizeLine)(k:Q .bx (ah M p (.lst (ds++es)))):zp (.ref p) [.ref q] M Q:=⟨p,q,ds,es,rfl,rfl,h,g,hz,k⟩
theorem tS{i j:Int}(q:Q (.int (i+j)) M):zr (.int i) (.int j) M Q:=.inl q
theorem Ds{a b:Addr}{xs ys:List D}(ha:M a=some (.lst xs))(hb:M b=some (.lst ys))(h:xs.length+ys.length<=sizeLine)(q:∀p,M p=none->Q (.ref p) (ah M p (.lst (xs++ys)))):zr (.ref a) (.ref b) M Q:=.inl (HU ha hb h q)
theorem jB{xs ys:List D}(h:xs.length+ys.length<=sizeLine)(q:Q (.tup (xs++ys)) M):zr (.tup xs) (.tup ys) M Q:=by
 cases xs with
 |nil=>exact .inr ⟨ys,rfl,rfl,q⟩
 |cons x xs=>exact .inl ⟨by simp,h,q⟩
end
end L3
namespace L3
open PySem L2
section
variable {g:iE}{tt:fz}{te:cu}{δ δc:cS}{M1:Mem}{Qe:List D->Mem->Prop}
theorem T_{n:Nat}(h:n<=10000):n<=sizeLine:=D8 h (by decide)
theorem lb{α β:Type}{xs:List α}{enc:α->D}(wX:β->D)(I:List β->Mem->Prop)(hn:xs.length<=10000)(h0:I [] M1) (hs:∀(i:Nat) (x:α) (ys:List β) (M:Mem) (N:D->Mem->Prop),xs[i]?=some x->ys.length=i->I ys M->(∀b M',I (ys++[b]) M'->N (wX b) M')->g (enc x) δc M λ δ2 M2=>te δ2 M2 N) (hd:∀ys M,ys.length=xs.length->I ys M->Qe (ys.map wX) M):∃(B:Nat) (W:Nat->List D->Mem->Prop),W 0 [] M1/\∀i acc M,W i acc M->i<=B/\acc.length<=sizeLine/\match items (.fix (xs.map enc)) M with
   |none=>False
   |some ds=>match ds[i]? with
    |none=>i=ds.length/\Qe acc M
    |some d=>g d δc M λ δ2 M2=>tK δ2 M2 λ b M3=>if b=true then te δ2 M3 λ y M4=>W (i+1) (acc++[y]) M4 else W (i+1) acc M3:=by
 refine oq (λ i acc M=>∃ys:List β,acc=ys.map wX/\ys.length=i/\I ys M) ⟨[],rfl,rfl,h0⟩ (λ i acc M hi h=>?_) (λ i d acc M hd h=>?_) (λ acc M h=>?_)
 ·obtain⟨ys,rfl,h1,_⟩:=h;rw[B4]at hi ⊢;exact T_ (by omega)
 ·obtain⟨ys,rfl,h1,h2⟩:=h;rw[s9]at hd;cases e:xs[i]? with
  |none=>rw[e]at hd;cases hd
  |some x=>rw[e]at hd;cases hd;refine hs i x ys M _ e h1 h2 λ b M' hb=>⟨ys++[b],by rw[B6];rfl,by simp[h1],hb⟩
 ·obtain⟨ys,rfl,h1,h2⟩:=h;rw[B4]at h1;exact hd ys M h1 h2
theorem uW{α β:Type}{a:Addr}{xs:List α}(enc:α->D)(wX:β->D)(I:List β->Mem->Prop)(hn:xs.length<=10000)(h0:I [] M1)(hl:∀ys M,I ys M->M a=some (.lst (xs.map enc))) (hs:∀(i:Nat) (x:α) (ys:List β) (M:Mem) (N:D->Mem->Prop),xs[i]?=some x->ys.length=i->I ys M->(∀b M',I (ys++[b]) M'->N (wX b) M')->g (enc x) δc M λ δ2 M2=>te δ2 M2 N) (hd:∀ys M,ys.length=xs.length->I ys M->Qe (ys.map wX) M):∃(B:Nat) (W:Nat->List D->Mem->Prop),W 0 [] M1/\∀i acc M,W i acc M->i<=B/\acc.length<=sizeLine/\match items (.at a) M with
   |none=>False
   |some ds=>match ds[i]? with
    |none=>i=ds.length/\Qe acc M
    |some d=>g d δc M λ δ2 M2=>tK δ2 M2 λ b M3=>if b=true then te δ2 M3 λ y M4=>W (i+1) (acc++[y]) M4 else W (i+1) acc M3:=by
 refine Ln (ds:=xs.map enc) (λ i acc M=>∃ys:List β,acc=ys.map wX/\ys.length=i/\I ys M) ⟨[],rfl,rfl,h0⟩ (λ i acc M hi h=>?_) (λ i acc M hi h=>?_) (λ i d acc M hd h=>?_) (λ acc M h=>?_)
 ·obtain⟨ys,rfl,h1,h2⟩:=h;exact hl ys M h2
 ·obtain⟨ys,rfl,h1,_⟩:=h;rw[B4]at hi ⊢;exact T_ (by omega)
 ·obtain⟨ys,rfl,h1,h2⟩:=h;rw[s9]at hd;cases e:xs[i]? with
  |none=>rw[e]at hd;cases hd
  |some x=>rw[e]at hd;cases hd;refine hs i x ys M _ e h1 h2 λ b M' hb=>⟨ys++[b],by rw[B6];rfl,by simp[h1],hb⟩
 ·obtain⟨ys,rfl,h1,h2⟩:=h;rw[B4]at h1;exact hd ys M h1 h2
theorem take_one{α:Type}{l:List α}{i:Nat}{a:α}(h:l[i]?=some a):l.take (i+1)=l.take i++[a]:=by rw[take_add_one,h];rfl
theorem jV{α:Type}{xs:List α}{enc:α->D}(out:α->D)(hn:xs.length<=10000) (hs:∀(i:Nat) (x:α) (N:D->Mem->Prop),xs[i]?=some x->N (out x) M1->g (enc x) δc M1 λ δ2 M2=>te δ2 M2 N) (hd:Qe (xs.map out) M1):∃(B:Nat) (W:Nat->List D->Mem->Prop),W 0 [] M1/\∀i acc M,W i acc M->i<=B/\acc.length<=sizeLine/\match items (.fix (xs.map enc)) M with
   |none=>False
   |some ds=>match ds[i]? with
    |none=>i=ds.length/\Qe acc M
    |some d=>g d δc M λ δ2 M2=>tK δ2 M2 λ b M3=>if b=true then te δ2 M3 λ y M4=>W (i+1) (acc++[y]) M4 else W (i+1) acc M3:=by
 refine lb (β:=α) out (λ ys M=>M=M1/\ys=xs.take ys.length) hn ⟨rfl,rfl⟩ (λ i x ys M N hx hy h k=>?_) (λ ys M hy h=>?_)
 ·obtain⟨rfl,h⟩:=h;refine hs i x N hx (k x M ⟨rfl,?_⟩);rw[o6,j9,take_one (a:=x) (by rw[hy];exact hx),<- h]
 ·obtain⟨rfl,h⟩:=h;rw[hy,y4]at h;rw[h];exact hd
theorem k_{α:Type}{a:Addr}{xs:List α}(enc out:α->D)(hn:xs.length<=10000)(hl:M1 a=some (.lst (xs.map enc))) (hs:∀(i:Nat) (x:α) (N:D->Mem->Prop),xs[i]?=some x->N (out x) M1->g (enc x) δc M1 λ δ2 M2=>te δ2 M2 N) (hd:Qe (xs.map out) M1):∃(B:Nat) (W:Nat->List D->Mem->Prop),W 0 [] M1/\∀i acc M,W i acc M->i<=B/\acc.length<=sizeLine/\match items (.at a) M with
   |none=>False
   |some ds=>match ds[i]? with
    |none=>i=ds.length/\Qe acc M
    |some d=>g d δc M λ δ2 M2=>tK δ2 M2 λ b M3=>if b=true then te δ2 M3 λ y M4=>W (i+1) (acc++[y]) M4 else W (i+1) acc M3:=by
 refine uW (β:=α) enc out (λ ys M=>M=M1/\ys=xs.take ys.length) hn ⟨rfl,rfl⟩ (λ ys M h=>by rw[h.1];exact hl) (λ i x ys M N hx hy h k=>?_) (λ ys M hy h=>?_)
 ·obtain⟨rfl,h⟩:=h;refine hs i x N hx (k x M ⟨rfl,?_⟩);rw[o6,j9,take_one (a:=x) (by rw[hy];exact hx),<- h]
 ·obtain⟨rfl,h⟩:=h;rw[hy,y4]at h;rw[h];exact hd
end
abbrev SY(i:Nat):D:=.int ((0:Int)+(i:Nat))
theorem CU(i:Nat):SY i=.int (i:Int):=by show D.int (0+(i:Int))=_;rw[D3]
theorem dM(n:Nat):cR 0 n=(List.range n).map SY:=rfl
def OW(R:Src->Mem->Prop)(d:D)(M1:Mem):Prop:=match d with
 | .str z=>R (.fix (kr z)) M1
 | .tup ds=>R (.fix ds) M1
 | .fl ds=>R (.fix ds) M1
 | .ref a=>(match M1 a with
  |some (.lst _)=>R (.at a) M1
  |_=>False)
 |_=>False
theorem HQ{ta:cu}{δ:cS}{M:Mem}{R:Src->Mem->Prop}(h:ta δ M (OW R)):N9 ta δ M R:=h
theorem HR{ds:List D}{M:Mem}{R:Src->Mem->Prop}(h:R (.fix ds) M):OW R (.tup ds) M:=h
theorem lY{a:Addr}{ds:List D}{M:Mem}{R:Src->Mem->Prop}(hM:M a=some (.lst ds))(h:R (.at a) M):OW R (.ref a) M:=by show(match M a with|some (.lst _)=>R (.at a) M|_=>False);rw[hM];exact h
end L3
namespace KK
open PySem L3 L4 L5
open L2 hiding aI fR
def Lf(c:Addr)(p b sd ct:Int):List D:=[.ref c,.int p,.int b,.int sd,.int ct]
structure Flow(M:Mem)(f c:Addr):Prop where
 ex:∃(ns:List Int) (p b sd ct:Int),M f=some (.lst (Lf c p b sd ct))/\M c=some (.lst (ns.map D.int))/\c≠f/\0<=p/\0<=b/\0<=sd/\sd < 2147483647
def iR:gs:=λ ds M Q=>∃(f c:Addr) (n:Int),ds=[.ref f,.int n]/\Flow M f c/\0 < n/\n < 1073741824/\∀(d:Int) (o:MO),0<=d->d < n->Flow (ah M f o) f c->Q (.int d) (ah M f o)
structure Fl(f c:Addr)(M M':Mem):Prop where
 bp:Flow M' f c
 mv:∀b o,b≠f->M b=some o->M' b=some o
theorem Fl.trans {f c:Addr}{M M1 M2:Mem}(a:Fl f c M M1)(b:Fl f c M1 M2):Fl f c M M2:=⟨b.bp,λ c o h e=>b.mv c o h (a.mv c o h e)⟩
theorem Fl.pick {f c:Addr}{M:Mem}{o:MO}(h:Flow (ah M f o) f c):Fl f c M (ah M f o):=⟨h,λ b o' hb e=>by rw[av hb];exact e⟩
theorem Flow.there {M:Mem}{f c:Addr}(h:Flow M f c):∃o,M f=some o:=by obtain⟨ns,p,b,sd,ct,h,_⟩:=h;exact⟨_,h⟩
theorem Flow.LF {M:Mem}{f c:Addr}(h:Flow M f c):∃o,M c=some o:=by obtain⟨ns,p,b,sd,ct,_,h,_⟩:=h;exact⟨_,h⟩
theorem Flow.put {M:Mem}{f c q:Addr}{o:MO}(h:Flow M f c)(n:M q=none):Flow (ah M q o) f c:=by obtain⟨ns,p,b,sd,ct,h1,h2,h3⟩:=h;exact⟨ns,p,b,sd,ct,by rw[av (λ z=>by rw[z,n]at h1;cases h1)];exact h1,by rw[av (λ z=>by rw[z,n]at h2;cases h2)];exact h2,h3⟩
theorem Fl.put {M:Mem}{f c q:Addr}{o:MO}(h:Flow M f c)(n:M q=none):Fl f c M (ah M q o):=⟨h.put n,λ b o' hb e=>by rw[av (λ z=>by rw[z,n]at e;cases e)];exact e⟩
theorem Flow.ne {M:Mem}{f c q:Addr}(h:Flow M f c)(n:M q=none):q≠f/\q≠c:=by
 constructor
 ·intro z;subst z;obtain⟨o,e⟩:=h.there;rw[n]at e;cases e
 ·intro z;subst z;obtain⟨o,e⟩:=h.LF;rw[n]at e;cases e
theorem Fl.own {M M':Mem}{f c q:Addr}{o:MO}(h:Fl f c M M')(h0:Flow M f c)(n:M q=none):Fl f c M (ah M' q o):=by obtain⟨n1,n2⟩:=h0.ne n;obtain⟨ns,p,b,sd,ct,h1,h2,h3⟩:=h.bp;refine⟨⟨ns,p,b,sd,ct,by rw[av (J5 n1)];exact h1,by rw[av (J5 n2)];exact h2,h3⟩,λ b o' hb e=>?_⟩;rw[av (λ z=>by rw[z,n]at e;cases e)];exact h.mv b o' hb e
theorem small{n:Nat}(h:n<=10000):n<=sizeLine:=D8 h (by decide)
theorem de{lo:Int}{n i:Nat}{d:D}(h:(cR lo n)[i]?=some d):i < n/\d=.int (lo+(i:Nat)):=by
 have hi:i < n:=by have:=(g9.mp h).1;rwa [bu]at this
 rw[nF hi]at h;exact⟨hi,(A9 h).symm⟩
theorem Ge{ns:List Int}{i:Nat}(h:i < ns.length):gr (ns.map D.int) (i:Int)=some (.int (ns.getD i 0)):=by refine bG ?_;simp[c8,h]
theorem cj{p:Addr}{ds:List D}{M:Mem}{Q:bK}(h:M p=some (.lst ds))(q:Q (.tup ds) M):xb [.ref p] M Q:=by show(match bf M p with|some ds=>Q (.tup ds) M|none=>False);unfold bf;rw[h];exact q
theorem UK{M M':Mem}(h:∀b o,M b=some o->M' b=some o){q:Addr}(n:M' q=none)(x:MO):∀b o,M b=some o->ah M' q x b=some o:=λ b o e=>by rw[av (λ z=>by rw[<- z,h b o e]at n;cases n)];exact h b o e
theorem br{T:String}{d:D}{M:Mem}{Q:bK}{n:String}{b:Bool}(e:mT M d=some n)(hb:rK n T=b)(q:Q (.bl b) M):Lj T [d,.ty T] M Q:=⟨rfl,by rw[e];subst hb;exact q⟩
theorem hX{d:D}{M:Mem}{Q:bK}(h:mT M d≠some "NoneType")(q:Q (.bl false) M):Kc false d .bx M Q:=by
 cases d with
 |bx=>exact absurd rfl h
 |_=>exact q
theorem mG{ds:List D}{i:Nat}(h:i < ds.length):gr ds (0+(i:Int))=some ds[i]:=by rw[D3];refine bG ?_;simp[h]
theorem sv:∀n:Nat,((List.replicate n true).all id)=true
 |0=>rfl
 |n+1=>by rw[m6,all_cons,sv n];rfl
theorem mr{ds:List D}{i:Nat}{d:D}(h:(e_ ds)[i]?=some d):i < ds.length/\d=.tup [.int (i:Int),ds.getD i D.bx]:=by
 have hi:i < ds.length:=by have:=(g9.mp h).1;rwa [dh]at this
 refine⟨hi,?_⟩;unfold e_ at h;rw[s9,l8 hi]at h;exact(A9 h).symm
def Ext(M M':Mem):Prop:=∀b o,M b=some o->M' b=some o
theorem Ext.own {M M':Mem}(h:Ext M M'){q:Addr}{x:MO}(n:M q=none):Ext M (ah M' q x):=λ b o e=>by rw[av (λ z=>by rw[z,n]at e;cases e)];exact h b o e
end KK
namespace HT
open PySem PySem.Spec PyProof.Rows
section
variable {prog:Program}{w:World}{A:Around}{E:Value->Shared->Prop}{s:Shared}
theorem iG{t sl:Addr}{items:Array Value}{vl vu:Value}{lo hi:Option Int}{Q:Value->Shared->Prop}(ht:IsTup s.heap t items)(hs:s.heap.IsSliceOf sl vl vu .none)(pl:IsPart vl lo)(pu:IsPart vu hi) (hw:cx items.size 0 lo=0/\cx items.size items.size hi=items.size) (h:Q (.ref t) s):wpAny (model prog w) A (getItem (.ref t) (.ref sl)) Q E s:=by
 obtain⟨os,Oi,Fg,JO⟩:=id hs;have Vx:s.TypeIs (.ref sl) "slice":=⟨os,Oi,Fg⟩;unfold getItem
 try with_reducible refine C6 ?_
 first|refine G9 (H9 ?_)|skip
 refine G9 (wpAny_sequenceKey ht.typeIs (by decide) ?_);refine G9 (i9 (name:=Str.ofString "__getitem__") ht.typeIs a0
  (y6 a0 ht.typeIs entry_tuple_getitem ?_ (args_tuple_getitem _ _)))
 show wpAny _ _ (Builtin.Tuple.tupleItemsOf (.ref t) >>= _) _ _ s;refine G9 (tupleItemsOf_ ht ?_);refine G9 (E6 Vx ?_);rw[J6 (by decide)];refine G9 (fE hs pl pu ?_);have UX:(((cx items.size 0 lo:Nat):Int)==0&&(1:Int)==1&&(cx items.size items.size hi - cx items.size 0 lo)==items.size)=true:=by rw[hw.1,hw.2];simp
 show wpAny _ _ (if(((cx items.size 0 lo:Nat):Int)==0&&(1:Int)==1&&(cx items.size items.size hi - cx items.size 0 lo)==items.size)=true then _ else _) _ _ s;rw[J6 UX];unfold Builtin.Tuple.tupleIsExact;refine G9 (G9 (E6 ht.typeIs (H9 ?_)));rw[J6 (by decide)];exact G9 (wpAny_rule (H9 ⟨_,rfl,H9 h⟩))
end
end HT
namespace L2
open PySem PySem.Spec PyProof.Rows
section
variable {X:Cx}
theorem Hi:zI X (λ x lo hi H Q=>∃a xs,x=.ref a/\fJ X.K H a xs/\(HT.cx xs.length 0 lo=0/\HT.cx xs.length xs.length hi=xs.length)/\Q (.ref a) H):=by
 intro pins s σ H x v vl vu lo hi sl Q I rx hs pl pu h;obtain⟨a,xs,rfl,hx,hw,q⟩:=h;cases rx;obtain⟨ax,r,ht,hz⟩:=I.tuple hx;have hlen:ax.toArray.size=xs.length:=by rw[x5];exact r.length.symm
 exact⟨"tuple",_,a0.lookup,ht.typeIs,HT.iG ht hs pl pu (by rw[hlen];exact hw) ⟨.ref a,H,I,rfl,q⟩⟩
end
end L2
namespace L3
open PySem PySem.Spec L2
section
variable {X:Cx}
def xc:D->Option Int->Option Int->Mem->bK->Prop:=λ x lo hi M Q=>match x with
 | .str z=>z.length<=sizeLine/\Q (.str (xg z lo hi)) M
 | .tup ds=>Q (.tup (cutD ds lo hi)) M
 | .ref a=>match bf M a with
  |some ds=>∀p,M p=none->Q (.ref p) (ah M p (.lst (cutD ds lo hi)))
  |none=>False
 |_=>False
theorem CC:Se X xc:=by
 obtain⟨r,h1,h2⟩:=(fR:Se X Xk);refine⟨_,h1.or Hi,λ x d lo hi H M Q2 Q hd hm q k=>?_⟩;cases d with
 |tup ds=>
  by_cases hw:HT.cx ds.length 0 lo=0/\HT.cx ds.length ds.length hi=ds.length
  ·have q:Q2 (.tup (cutD ds lo hi)) M:=q;have e:cutD ds lo hi=ds:=by unfold cutD;rw[hw.1,hw.2];simp
   rw[e]at q;obtain⟨p,xs,rfl,h,hx⟩:=aU.mp hd;exact .inr ⟨p,xs,rfl,h,by rw[hx.length];exact hw,k _ H _ M (aU.mpr ⟨p,xs,rfl,h,hx⟩) hm (ar.refl H) q⟩
  ·exact .inl (h2 x (.tup ds) lo hi H M Q2 Q hd hm ⟨hw,q⟩ k)
 |str z=>exact .inl (h2 x (.str z) lo hi H M Q2 Q hd hm q k)
 |ref a=>exact .inl (h2 x (.ref a) lo hi H M Q2 Q hd hm q k)
 |_=>exact q.elim
end
section
variable {M:Mem}{Q:bK}
theorem zt{ds:List D}{i:Int}(h0:0<=i):cutD ds none (some i)=ds.take i.toNat:=by
 unfold cutD;have e:HT.cx ds.length ds.length (some i)=min i.toNat ds.length:=by show(if i < 0 then(i+(ds.length:Int)).toNat else min i.toNat ds.length)=_;rw[J7 (by omega)]
 rw[e];show(ds.drop 0).take (min i.toNat ds.length - 0)=_;rw[drop_zero,Nat.sub_zero,take_eq_take_iff];omega
theorem Bt{ds:List D}{i:Int}(h0:0<=i):cutD ds (some i) none=ds.drop i.toNat:=by
 unfold cutD;have e:HT.cx ds.length 0 (some i)=min i.toNat ds.length:=by show(if i < 0 then(i+(ds.length:Int)).toNat else min i.toNat ds.length)=_;rw[J7 (by omega)]
 rw[e];show(ds.drop (min i.toNat ds.length)).take (ds.length - min i.toNat ds.length)=_;rw[j2 (by rw[length_drop];omega)];by_cases h:i.toNat<=ds.length
 ·rw[Nat.min_eq_left h]
 ·rw[Nat.min_eq_right (by omega),drop_length,drop_of_length_le (by omega)]
theorem CZ{ds:List D}{i:Int}(h0:0<=i)(q:Q (.tup (ds.take i.toNat)) M):xc (.tup ds) none (some i) M Q:=by show Q (.tup (cutD ds none (some i))) M;rw[zt h0];exact q
theorem vY{ds:List D}{i:Int}(h0:0<=i)(q:Q (.tup (ds.drop i.toNat)) M):xc (.tup ds) (some i) none M Q:=by show Q (.tup (cutD ds (some i) none)) M;rw[Bt h0];exact q
theorem xY{a:Addr}{ds:List D}{lo hi:Option Int}(h:M a=some (.lst ds))(q:∀p,M p=none->Q (.ref p) (ah M p (.lst (cutD ds lo hi)))):xc (.ref a) lo hi M Q:=by show(match bf M a with|some ds=>∀p,M p=none->Q (.ref p) (ah M p (.lst (cutD ds lo hi)))|none=>False);unfold bf;rw[h];exact q
theorem Az{a:Addr}{ds:List D}{i:Int}(h:M a=some (.lst ds))(h0:0<=i)(q:∀p,M p=none->Q (.ref p) (ah M p (.lst (ds.take i.toNat)))):xc (.ref a) none (some i) M Q:=by refine xY h ?_;rw[zt h0];exact q
end
end L3
namespace L3
open PySem PySem.Spec L2 L5
section
variable {g:iE}{tt:fz}{te:cu}{tb:jY}{δ δc:cS}{M1:Mem}{Qe:List D->Mem->Prop}{E:iP}
theorem FV{src:Src}{ds:List D}(Pv:Nat->List D->Mem->Prop)(h0:Pv 0 [] M1)(hl:∀i acc M,i<=ds.length->Pv i acc M->items src M=some ds)(hz:∀i acc M,i<=ds.length->Pv i acc M->acc.length<=sizeLine) (hs:∀i d acc M,ds[i]?=some d->Pv i acc M->g d δc M λ δ2 M2=>tt δ2 M2 λ b M3=>if b=true then te δ2 M3 λ y M4=>Pv (i+1) (acc++[y]) M4 else Pv (i+1) acc M3) (hd:∀acc M,Pv ds.length acc M->Qe acc M):∃(B:Nat) (W:Nat->List D->Mem->Prop),W 0 [] M1/\∀i acc M,W i acc M->i<=B/\acc.length<=sizeLine/\match items src M with
   |none=>False
   |some ds=>match ds[i]? with
    |none=>i=ds.length/\Qe acc M
    |some d=>g d δc M λ δ2 M2=>tt δ2 M2 λ b M3=>if b=true then te δ2 M3 λ y M4=>W (i+1) (acc++[y]) M4 else W (i+1) acc M3:=by
 refine⟨ds.length,λ i acc M=>if i<=ds.length then Pv i acc M else False,by dsimp only;rw[J6 (G7 _)];exact h0,?_⟩;intro i acc M w;by_cases hi:i<=ds.length
 ·rw[J6 hi]at w;refine⟨hi,hz i acc M hi w,?_⟩;rw[hl i acc M hi w];show(match ds[i]? with
    |none=>i=ds.length/\Qe acc M
    |some d=>g d δc M λ δ2 M2=>tt δ2 M2 λ b M3=>if b=true then te δ2 M3 λ y M4=>(if i+1<=ds.length then Pv (i+1) (acc++[y]) M4 else False)else(if i+1<=ds.length then Pv (i+1) acc M3 else False))
  cases e:ds[i]? with
  |none=>have:i=ds.length:=B7 hi (i3.mp e);subst this;exact⟨rfl,hd acc M w⟩
  |some d=>have iX:i+1<=ds.length:=(g9.mp e).1;simp only[J6 iX];exact hs i d acc M e w
 ·rw[J7 hi]at w;exact w.elim
end
end L3
namespace L3
open PySem PySem.Spec L2 L5 PyProof.Rows
def Pl:Nat->D->Prop
 |0,d=>d=.bx\/(∃i,d=.int i)\/∃x,d=.str x/\PyData.strOk x=true
 |k+1,d=>d=.bx\/(∃i,d=.int i)\/(∃x,d=.str x/\PyData.strOk x=true)\/∃ds,d=.tup ds/\∀e∈ds,Pl k e
theorem dN(k:Nat)(i:Int):Pl k (.int i):=by
 cases k with
 |zero=>exact .inr (.inl ⟨i,rfl⟩)
 |succ k=>exact .inr (.inl ⟨i,rfl⟩)
theorem wj{k:Nat}{ds:List D}(h:∀e∈ds,Pl k e):Pl (k+1) (.tup ds):=.inr (.inr (.inr ⟨ds,rfl,h⟩))
theorem gH{α:Type}{k:Nat}{xs:List α}{enc:α->D}(h:∀x∈xs,Pl k (enc x)):∀e∈xs.map enc,Pl k e:=λ e he=>by obtain⟨x,hx,rfl⟩:=D6.mp he;exact h x hx
structure Xq(k:Nat)(d:D):Prop where
 nr:nr d=true
 lay:(toP d).canLay0=true
 dep:(toP d).depth<=k
structure V0(k:Nat)(ds:List D):Prop where
 nr:wy ds=true
 lay:PyData.canLayAll0 (toPs ds)=true
 dep:PyData.depthAll (toPs ds)<=k
theorem jG{k:Nat}:∀{ds:List D},(∀e∈ds,Xq k e)->V0 k ds
 |[],_=>⟨by unfold wy;rfl,by unfold toPs;simp[PyData.canLayAll0],by unfold toPs;simp[PyData.depthAll]⟩
 |d::ds,h=>by
  have h1:=h d (n6 ..);have h2:=jG (ds:=ds) λ e he=>h e (k8 _ he);refine⟨?_,?_,?_⟩
  ·unfold wy;rw[h1.nr,h2.nr];rfl
  ·unfold toPs;simp only[PyData.canLayAll0];rw[h1.lay,h2.lay];rfl
  ·unfold toPs;simp only[PyData.depthAll];exact Nat.max_le.mpr ⟨h1.dep,h2.dep⟩
theorem Pl.f:∀{k:Nat} {d:D},Pl k d->Xq k d
 |0,d,h=>by
  rcases h with rfl|⟨i,rfl⟩|⟨x,rfl,hx⟩
  ·exact⟨by unfold L3.nr;rfl,by unfold toP;simp[PyData.canLay0],by unfold toP;simp[PyData.depth]⟩
  ·exact⟨by unfold L3.nr;rfl,by unfold toP;simp[PyData.canLay0],by unfold toP;simp[PyData.depth]⟩
  ·exact⟨by unfold L3.nr;rfl,by unfold toP;simp[PyData.canLay0,hx],by unfold toP;simp[PyData.depth]⟩
 |k+1,d,h=>by
  rcases h with rfl|⟨i,rfl⟩|⟨x,rfl,hx⟩|⟨ds,rfl,h⟩
  ·exact⟨by unfold L3.nr;rfl,by unfold toP;simp[PyData.canLay0],by unfold toP;simp[PyData.depth]⟩
  ·exact⟨by unfold L3.nr;rfl,by unfold toP;simp[PyData.canLay0],by unfold toP;simp[PyData.depth]⟩
  ·exact⟨by unfold L3.nr;rfl,by unfold toP;simp[PyData.canLay0,hx],by unfold toP;simp[PyData.depth]⟩
  ·have q:=jG λ e he=>Pl.f (h e he);refine⟨?_,?_,?_⟩
   ·unfold L3.nr;exact q.nr
   ·unfold toP;simp only[PyData.canLay0];exact q.lay
   ·unfold toP;simp only[PyData.depth];have:=q.dep;omega
theorem og{k:Nat}(ih:∀x y:D,Pl k x->Pl k y->(PyData.eqv (toP x) (toP y)=true↔x=y)):∀{ds es:List D},(∀e∈ds,Pl k e)->(∀e∈es,Pl k e)->(PyData.eqvAll (toPs ds) (toPs es)=true↔ds=es)
 |[],[],_,_=>by unfold toPs;simp[PyData.eqvAll]
 |[],e::es,_,_=>by unfold toPs;simp[PyData.eqvAll]
 |d::ds,[],_,_=>by unfold toPs;simp[PyData.eqvAll]
 |d::ds,e::es,h1,h2=>by have a:=ih d e (h1 d (n6 ..)) (h2 e (n6 ..));have b:=og ih (ds:=ds) (es:=es) (λ x hx=>h1 x (k8 _ hx)) (λ x hx=>h2 x (k8 _ hx));unfold toPs;simp only[PyData.eqvAll,y7,a,b,List.cons.injEq]
theorem iA:∀{k:Nat} (x y:D),Pl k x->Pl k y->(PyData.eqv (toP x) (toP y)=true↔x=y)
 |0,x,y,hx,hy=>by rcases hx with rfl|⟨i,rfl⟩|⟨z,rfl,_⟩ <;> rcases hy with rfl|⟨j,rfl⟩|⟨w,rfl,_⟩ <;> simp[toP,PyData.eqv]
 |k+1,x,y,hx,hy=>by
  rcases hx with rfl|⟨i,rfl⟩|⟨z,rfl,_⟩|⟨ds,rfl,hd⟩ <;> rcases hy with rfl|⟨j,rfl⟩|⟨w,rfl,_⟩|⟨es,rfl,he⟩ <;> first
   |(simp[toP,PyData.eqv];done)
   |(have:=og (λ x y=>iA (k:=k) x y) hd he
     unfold toP;simp only[PyData.eqv,D.tup.injEq];exact this)
theorem Fx{k:Nat}{x y:D}(hx:Pl k x)(hy:Pl k y){b:Bool}(hb:b=true↔x=y):PyData.eqv (toP x) (toP y)=b:=by rw[A3];exact(iA x y hx hy).trans hb.symm
theorem m_{k:Nat}{ds:List D}(h:∀e∈ds,Pl k e)(hk:k<=60):SeqAt.shaped (.list (toPs ds))=true:=by
 have f:=jG λ e he=>(h e he).f;have h1:(PyData.list (toPs ds)).canLay0=true:=by simp only[PyData.canLay0];exact f.lay
 have h2:(PyData.list (toPs ds)).depth<=64:=by simp only[PyData.depth];have:=f.dep;omega
 unfold SeqAt.shaped;rw[h1,C0 h2];rfl
section
variable {M:Mem}{Q:bK}
theorem yf{k:Nat}{p:Addr}{ds:List D}(hM:M p=some (.lst ds))(h:∀e∈ds,Pl k e):wd M (.ref p)=some (.list (toPs ds)):=by have f:=jG λ e he=>(h e he).f;unfold wd;simp only[hM];rw[J6 f.nr]
theorem Bo{k:Nat}{ds es:List D}(h1:∀e∈ds,Pl k e)(h2:∀e∈es,Pl k e){b:Bool}(hb:b=true↔ds=es):PyData.eqv (.list (toPs ds)) (.list (toPs es))=b:=by rw[A3];have:=og (λ x y=>iA (k:=k) x y) h1 h2;simp only[PyData.eqv];exact this.trans hb.symm
theorem x'{k:Nat}{p p2:Addr}{ds es:List D}{b:Bool}(hM:M p=some (.lst ds))(VA:M p2=some (.lst es))(h1:∀e∈ds,Pl k e)(h2:∀e∈es,Pl k e)(hk:k<=60)(hb:b=true↔ds=es)(q:Q (.bl (!b)) M):uS true (.ref p) (.ref p2) M Q:=by refine .inr ⟨_,_,yf hM h1,yf VA h2,m_ h1 hk,m_ h2 hk,?_⟩;rw[Bo h1 h2 hb];exact q
end
section
variable {X:Cx}
theorem kH{A:Around}{s:Shared}{v:Value}{y:PyData}{bs:List Addr}(ry:Reads s.heap v y bs)(cy:y.canLay0=true)(hu:A.units+y.depth < cLine):∀{ds:List D} {us:List Value} {as:List Addr},ReadsAll s.heap us (toPs ds) as->PyData.canLayAll0 (toPs ds)=true->
  ∃e:Value->Bool,(∀u∈us,SeqAt.EqAt A s u v (e u))/\us.map e=ds.map λ d=>PyData.eqv (toP d) y:=by
 intro ds us as ra cl;refine⟨λ u=>PyData.eqv (SeqAt.readOf s.heap u) y,λ u Yp=>?_,?_⟩
 ·obtain⟨d,bs',rd,cd,_⟩:=SeqAt.readsAll_mem _ _ _ cl ra u Yp;have e:=SeqAt.readOf_eq cd rd;dsimp only;rw[e];exact SeqAt.eqAt_reads d y A s u v _ _ rd ry cd cy (by omega)
 ·have e:=SeqAt.readsAll_map _ _ _ cl ra;have f:∀(us:List Value) (ds:List D),us.map (SeqAt.readOf s.heap)=toPs ds->us.map (λ u=>PyData.eqv (SeqAt.readOf s.heap u) y)=ds.map λ d=>PyData.eqv (toP d) y:=by
   intro us
   induction us with
   |nil=>
    intro ds q;cases ds with
    |nil=>rfl
    |cons d r=>unfold toPs at q;cases q
   |cons u us ih=>
    intro ds q;cases ds with
    |nil=>unfold toPs at q;cases q
    |cons d r=>
     unfold toPs at q;rw[C9]at q;injection q with q1 q2
     rw[C9,C9,ih r q2,q1]
  exact f us ds e
structure Sk(K:J8)(H:Hp)(b:Bool)(p:Addr)(xs:List V)(ds:List D)(x:V)(d:D):Prop where
 sq:Sq b K H p xs
 J':aA K H ds xs
 dat:Dat K H d x
 ns:wy ds=true
 n:nr d=true
 AW:PyData.canLayAll0 (toPs ds)=true
 lay:(toP d).canLay0=true
 dep:(toP d).depth < 62
theorem any_map{α:Type}(us:List α)(e:α->Bool)(bs:List Bool)(h:us.map e=bs):us.any e=bs.any id:=by rw[<- h,List.any_map];rfl
theorem NA(neg:Bool)(hu:X.A.units+64 < cLine):fK X (compareOp (if neg then .NotIn else .In)) (λ x y H Q=>∃(b:Bool) (p:Addr) (xs:List V) (ds:List D) (d:D),y=.ref p/\Sk X.K H b p xs ds x d/\Q (.bl (if neg then !ds.any (λ e=>PyData.eqv (toP e) (toP d))else ds.any λ e=>PyData.eqv (toP e) (toP d))) H):=by
 intro pins s σ H x y v u Q I rx ry h;obtain⟨b,p,xs,ds,d,rfl,ok,q⟩:=h;cases ry;obtain⟨bs,rb⟩:=S0 I d ok.n ok.dat rx;have hd:=ok.dep;cases b with
 |false=>
  obtain⟨ax,r,pl,hz⟩:=I.list ok.sq;obtain⟨as,ra⟩:=wb I ds ok.ns ok.J' r;obtain⟨e,e1,e2⟩:=kH (A:=X.A.in1) rb ok.lay (by show X.A.units+1+_ < _;omega) ra ok.AW;have e3:ax.toArray.any e=ds.any λ e=>PyData.eqv (toP e) (toP d):=by rw[show ax.toArray.any e=ax.any e by simp,any_map _ _ _ e2,List.any_map];rfl
  cases neg with
  |false=>exact SeqAt.in_listAt e pl.isList (λ w hw=>e1 w (by simpa using hw)) ⟨.bl _,H,I,rfl,by rw[e3];exact q⟩
  |true=>exact SeqAt.notIn_listAt e pl.isList (λ w hw=>e1 w (by simpa using hw)) ⟨.bl _,H,I,rfl,by rw[e3];exact q⟩
 |true=>
  obtain⟨ax,r,pl,hz⟩:=I.tuple ok.sq;obtain⟨as,ra⟩:=wb I ds ok.ns ok.J' r;obtain⟨e,e1,e2⟩:=kH (A:=X.A.in1) rb ok.lay (by show X.A.units+1+_ < _;omega) ra ok.AW;have e3:ax.toArray.any e=ds.any λ e=>PyData.eqv (toP e) (toP d):=by rw[show ax.toArray.any e=ax.any e by simp,any_map _ _ _ e2,List.any_map];rfl
  cases neg with
  |false=>exact SeqAt.in_tupleAt e pl (λ w hw=>e1 w (by simpa using hw)) ⟨.bl _,H,I,rfl,by rw[e3];exact q⟩
  |true=>exact SeqAt.notIn_tupleAt e pl (λ w hw=>e1 w (by simpa using hw)) ⟨.bl _,H,I,rfl,by rw[e3];exact q⟩
end
end L3
namespace L3
open PySem PySem.Spec L2 L5 PyProof.Rows
section
variable {X:Cx}
def Li:List D->Mem->bK->Prop:=λ xs M Q=>∃i j,xs=[.int i,.int j]/\Q (.int (max i j)) M
theorem R_(hc:X.calm=true):dE X (.builtin "max") Li:=⟨_,Bv hc,λ xs ds H M Q2 Q hd hm q k=>by
 obtain⟨i,j,rfl,q⟩:=q;obtain⟨v,r,rfl,hv,hr⟩:=ag.mp hd;obtain⟨v2,r2,rfl,Pa,BM⟩:=ag.mp hr;cases(ao.mp BM);cases(au.mp hv);cases(au.mp Pa);refine⟨i,j,rfl,k _ H _ M (au.mpr rfl) hm (ar.refl H) ?_⟩;have e:(if j > i then j else i)=max i j:=by split <;> omega
 rw[e];exact q⟩
def Lk:List D->Mem->bK->Prop:=λ xs M Q=>(∃b,xs=[.bl b]/\Q (.int (if b then 1 else 0)) M)\/∃i,xs=[.int i]/\Q (.int i) M
theorem ou:dE X (.type "int") Lk:=⟨_,Bx,λ xs ds H M Q2 Q hd hm q k=>by
 rcases q with⟨b,rfl,q⟩|⟨b,rfl,q⟩
 ·obtain⟨v,r,rfl,hv,hr⟩:=ag.mp hd;cases(ao.mp hr);cases(aY.mp hv);exact .inr ⟨b,rfl,k _ H _ M (au.mpr rfl) hm (ar.refl H) q⟩
 ·obtain⟨v,r,rfl,hv,hr⟩:=ag.mp hd;cases(ao.mp hr);cases(au.mp hv);exact .inl ⟨b,rfl,k _ H _ M (au.mpr rfl) hm (ar.refl H) q⟩⟩
def RX:fZ:=λ x y M Q=>∃l k ds,x=.ref l/\y=.int k/\M l=some (.lst ds)/\-(2^63)<=k/\k < 2^63/\ds.length*k.toNat<=sizeLine/\∀p,M p=none->Q (.ref p) (ah M p (.lst (List.replicate k.toNat ds).flatten))
def zm:fZ:=λ x y M Q=>zo x y M Q\/RX x y M Q
theorem iT:fM X (binaryOp .Mult) zm:=NN.or ⟨_,Nu,λ x y d e H M Q2 Q hd he hm q k=>by
 obtain⟨l,n,ds,rfl,rfl,hM,h1,h2,hz,q⟩:=q;cases(aE.mp hd);cases(au.mp he);obtain⟨xs,hx,WV⟩:=hm l _ hM;exact⟨l,n,xs,rfl,rfl,hx,h1,h2,by rw[WV.length];exact hz,λ p hp=>k _ _ (.ref p) _ (aE.mpr rfl) (dR hp (oi WV n.toNat) hm) (ar.laid hp) (q p (hm.free hp))⟩⟩
structure V6(M:Mem)(x y:D)(ds:List D):Prop where
 sq:cE M y=some ds
 ns:wy ds=true
 n:nr x=true
 AW:PyData.canLayAll0 (toPs ds)=true
 lay:(toP x).canLay0=true
 dep:(toP x).depth < 62
def ON(neg:Bool):fZ:=λ x y M Q=>∃ds,V6 M x y ds/\Q (.bl (if neg then !ds.any (λ e=>PyData.eqv (toP e) (toP x))else ds.any λ e=>PyData.eqv (toP e) (toP x))) M
theorem KU(neg:Bool)(hu:X.A.units+64 < cLine):fM X (compareOp (if neg then .NotIn else .In)) (ON neg):=⟨_,NA neg hu,λ x y d e H M Q2 Q hd he hm q k=>by
 obtain⟨ds,ok,q⟩:=q;obtain⟨p,xs,rfl,q1,x1⟩:=qX ok.sq he hm;exact⟨_,p,xs,ds,d,rfl,⟨q1,x1,hd,ok.ns,ok.n,ok.AW,ok.lay,ok.dep⟩,k _ H _ M (aY.mpr rfl) hm (ar.refl H) q⟩⟩
def Kd:fZ:=λ x y M Q=>Xl x y M Q\/ON false x y M Q
theorem t_(hu:X.A.units+64 < cLine):fM X (compareOp .In) Kd:=UC.or (KU false hu)
def zk:fZ:=λ x y M Q=>∃i j,x=.str i/\y=.str j/\Q (.bl (!(!(Builtin.Str.occurrences j i 0 j.length 1).isEmpty))) M
theorem D_:fM X (compareOp .NotIn) zk:=⟨_,rD,λ x y d e H M Q2 Q hd he hm q k=>by
 obtain⟨i,j,rfl,rfl,q⟩:=q;cases(aX.mp hd);cases(aX.mp he);exact⟨i,j,rfl,rfl,k _ H _ M (aY.mpr rfl) hm (ar.refl H) q⟩⟩
def my:fZ:=λ x y M Q=>zk x y M Q\/ON true x y M Q
theorem gJ(hu:X.A.units+64 < cLine):fM X (compareOp .NotIn) my:=D_.or (KU true hu)
structure Sj(ds:List D)(y:D)(j:Nat):Prop where
 lt:j < ds.length
 hit:∀e,ds[j]?=some e->PyData.eqv (toP e) (toP y)=true
 no:∀m e,m < j->ds[m]?=some e->PyData.eqv (toP e) (toP y)=false
def xf:D->List D->Mem->bK->Prop:=λ x vs M Q=>∃p ds y j,x=.ref p/\vs=[y]/\M p=some (.lst ds)/\V6 M y x ds/\Sj ds y j/\Q (.int (j:Nat)) M
theorem fT(hu:X.A.units+64 < cLine):Ls X "list.index" xf:=⟨λ x vs H Q=>∃p ds xs d y j,x=.ref p/\vs=[y]/\Sk X.K H false p xs ds y d/\Sj ds d j/\Q (.int (j:Nat)) H,by
  intro pins s σ H x xs v us Q I rx rv h;obtain⟨p,ds,zs,d,y,j,rfl,rfl,ok,ix,q⟩:=h;cases(show v=Value.ref p from rx);obtain⟨u,rfl,ru⟩:=rv.one;have hd:=ok.dep;obtain⟨bs,rb⟩:=S0 I d ok.n ok.dat ru;obtain⟨ax,r,pl,hz⟩:=I.list ok.sq;obtain⟨as,ra⟩:=wb I ds ok.ns ok.J' r;obtain⟨e,e1,e2⟩:=kH (A:=X.A.in1) rb ok.lay (by show X.A.units+1+_ < _;omega) ra ok.AW;obtain⟨⟨c,dd,da,sl⟩,ho,hc,n,Ot⟩:=pl.isList;cases(show c=.type "list" from hc);cases(show da=.seq ax.toArray n from Ot);have l1:=r.length;have l2:=ok.J'.length;have iX:=ix.lt;have at_:∀m (hm:m < ax.length) (oN:m < ds.length),e ax[m]=PyData.eqv (toP ds[m]) (toP d):=λ m hm oN=>by have:=J4 (·[m]?) e2;simp only[s9,i5 hm,i5 oN,Option.map_some,Option.some.injEq]at this;exact this
  have hs:ds.length<=16777216:=by
   have h2:zs.length<=sizeLine:=hz;have h3:sizeLine=16777216:=by decide
   omega
  refine J0 PySem.F.slot_list_index ⟨_,ho,rfl⟩ PySem.F.entry_list_index (PySem.F.args_list_index_2 _ _) (SeqAt.list_indexAt p ax.toArray n dd sl u e j (by simp;omega) (by omega) ?_ ?_) ⟨ho,λ y hy=>e1 y (by simpa using hy),?_⟩
  ·have:=at_ j (by omega) iX;simp only[getElem_toArray];rw[this];exact ix.hit _ (i5 iX)
  ·intro m hm YC;have fu:m < ax.length:=by simpa using hm
   have:=at_ m fu (by omega);simp only[getElem_toArray];rw[this];exact ix.no m _ YC (i5 (by omega))
  ·exact⟨.int _,H,I.tok _,⟨_,rfl⟩,q⟩,λ x xs d ds H M Q2 Q hx hd hm q k=>by
  obtain⟨p,es,y,j,rfl,rfl,hM,ok,ix,q⟩:=q;cases(aE.mp hx);obtain⟨v,r,rfl,hv,hr⟩:=ag.mp hd;cases(ao.mp hr);obtain⟨zs,hz,oO⟩:=hm p _ hM;exact⟨p,es,zs,y,v,j,rfl,rfl,⟨eW.of hz,oO,hv,ok.ns,ok.n,ok.AW,ok.lay,ok.dep⟩,ix,k _ H _ M (au.mpr rfl) hm (ar.refl H) q⟩⟩
def OK:D->List D->Mem->bK->Prop:=λ x vs M Q=>(∃p ds y,x=.ref p/\vs=[]/\M p=some (.lst ds)/\ds[ds.length - 1]?=some y/\Q y (ah M p (.lst ds.dropLast)))\/
 ∃p ds i k y,x=.ref p/\vs=[.int i]/\M p=some (.lst ds)/\-(2^63)<=i/\i < 2^63/\seqIndex? i ds.length=some k/\ds[k]?=some y/\Q y (ah M p (.lst (ds.eraseIdx k)))
theorem aA.eraseIdx {K:J8}{H:Hp}:∀{ds:List D} {xs:List V} (n:Nat),aA K H ds xs->aA K H (ds.eraseIdx n) (xs.eraseIdx n)
 |[],xs,n,h=>by rw[ao]at h;subst h;simp[ao]
 |d::ds,xs,0,h=>by obtain⟨x,r,rfl,a,b⟩:=ag.mp h;exact b
 |d::ds,xs,n+1,h=>by obtain⟨x,r,rfl,a,b⟩:=ag.mp h;rw[eraseIdx_cons_succ,eraseIdx_cons_succ,ag];exact⟨x,_,rfl,a,b.eraseIdx n⟩
theorem aA.dropLast {K:J8}{H:Hp}{ds:List D}{xs:List V}(h:aA K H ds xs):aA K H ds.dropLast xs.dropLast:=by rw[dropLast_eq_take,dropLast_eq_take,h.length];exact h.take _
theorem Ks.or {id:String}{r r':V->List V->Hp->VK->Prop}(h:Ks X id r)(h':Ks X id r'):Ks X id (λ x vs H Q=>r x vs H Q\/r' x vs H Q):=by
 intro pins s σ H x xs v us Q I a b q;rcases q with q|q
 ·exact h pins s σ H x xs v us Q I a b q
 ·exact h' pins s σ H x xs v us Q I a b q
theorem KY:Ls X "list.pop" OK:=⟨_,Ks.or NS Ei,λ x xs d ds H M Q2 Q hx hd hm q k=>by
 rcases q with⟨p,es,y,rfl,rfl,hM,hy,q⟩|⟨p,es,i,j,y,rfl,rfl,hM,h1,h2,hs,hy,q⟩
 ·cases(aE.mp hx);cases(ao.mp hd);obtain⟨zs,h1,h2⟩:=hm p _ hM;obtain⟨v,hv,U3⟩:=h2.get hy;have t:=ar.lst (o:=.lst zs.dropLast) h1;exact .inl ⟨p,zs,v,rfl,rfl,h1,by rw[h2.length];exact hv,k _ _ y _ (Dat.mono t y U3) (hm.put (u:=.lst es.dropLast) t ⟨_,aP,aA.mono t _ h2.dropLast⟩) t q⟩
 ·cases(aE.mp hx);obtain⟨v0,r,rfl,Yo,hr⟩:=ag.mp hd;cases(ao.mp hr);cases(au.mp Yo);obtain⟨zs,g1,g2⟩:=hm p _ hM;obtain⟨v,hv,U3⟩:=g2.get hy;have t:=ar.lst (o:=.lst (zs.eraseIdx j)) g1;exact .inr ⟨p,zs,i,j,v,rfl,rfl,g1,h1,h2,by rw[g2.length];exact hs,hv,k _ _ y _ (Dat.mono t y U3) (hm.put (u:=.lst (es.eraseIdx j)) t ⟨_,aP,aA.mono t _ (g2.eraseIdx j)⟩) t q⟩⟩
end
theorem Ae{K:J8}{i j l:Nat}:∀v σ H Q,Kx K (pd 3 (cO (hName i) (cO (hName j) (cO (hName l) ph)))) v σ H Q->uG K 3 (dD (cC i) (dD (cC j) (dD (cC l) rT))) v σ H Q:=λ v σ H Q ⟨d,δ,M,Q2,hd,hs,hm,q,k⟩=>by
 cases d with
 |tup ds=>
  obtain⟨p,xs,rfl,hq,hx⟩:=aU.mp hd;obtain⟨hl,q⟩:=q
  match ds,hl,hx,q with
  |[a,b,c],hl,hx,q=>obtain⟨x,r,rfl,ha,hx⟩:=ag.mp hx;obtain⟨y,r,rfl,hb,hx⟩:=ag.mp hx;obtain⟨z,r,rfl,hc,hx⟩:=ag.mp hx;cases(ao.mp hx);exact⟨p,[x,y,z],rfl,hq,rfl,x,[y,z],rfl,y,[z],rfl,z,[],rfl,rfl,k _ H _ M (((hs.set ha).set hb).set hc) hm (ar.refl H) q⟩
 |_=>exact q.elim
section
variable {X:Cx}{scope:Scope}{tgs:List Str}{fr:List Nat}
theorem GX{i j l k:Nat}{x y z:Str}{px py pz pt:Pos}(h:∀cl C fp s H,PG (bz X scope cl tgs fr C fp s H) (.Tuple [.Name x px,.Name y py,.Name z pz] k pt) (uG X.K 3 (dD (cC i) (dD (cC j) (dD (cC l) rT)))))(hi:i < tgs.length)(hj:j < tgs.length)(hl:l < tgs.length):Sa X scope tgs fr (.Tuple [.Name x px,.Name y py,.Name z pz] k pt) (pd 3 (cO (hName i) (cO (hName j) (cO (hName l) ph)))):=
 ⟨_,h,Fp (jR (iy hi) (jR (iy hj) (jR (iy hl) Fq eI nX) eI (mn eI nX)) eI (mn eI (mn eI nX))),Ae⟩
end
end L3
namespace L4
open PySem PySem.Spec L2 L3 L5
section
variable {X:Cx}{scope:Scope}{tgs:List Str}{fr:List Nat}
theorem BU{i j l k:Nat}{x y z:Str}{px py pz pt:Pos}(h:∀cl C fp s H,PG (bz X scope cl tgs fr C fp s H) (.Tuple [.Name x px,.Name y py,.Name z pz] k pt) (uG X.K 3 (dD (cC i) (dD (cC j) (dD (cC l) rT)))))(hi:i < tgs.length)(hj:j < tgs.length)(hl:l < tgs.length):Kr X scope tgs fr (.Tuple [.Name x px,.Name y py,.Name z pz] k pt) (pd 3 (cO (hName i) (cO (hName j) (cO (hName l) ph)))):=⟨GX h hi hj hl⟩
end
end L4
namespace L3
open PySem PySem.Spec L2 L5 PyProof.Rows
section
variable {M:Mem}{Q:bK}
theorem Hu{i j l:Nat}{a b c:D}{δ:cS}{N:cS->Mem->Prop}(h:N (((δ.set i (some a)).set j (some b)).set l (some c)) M):pd 3 (cO (hName i) (cO (hName j) (cO (hName l) ph))) (.tup [a,b,c]) δ M N:=⟨rfl,h⟩
theorem HD{i j:Int}(q:Q (.int (max i j)) M):Li [.int i,.int j] M Q:=⟨i,j,rfl,q⟩
theorem Dj{b:Bool}(q:Q (.int (if b then 1 else 0)) M):Lk [.bl b] M Q:=.inl ⟨b,rfl,q⟩
theorem nB{i j:Int}(h:sH i j)(q:Q (.int (i*j)) M):zm (.int i) (.int j) M Q:=.inl (De h q)
theorem tP{d:D}{k:Int}(h0:0<=k)(h1:k<=10000)(q:Q (.tup (List.replicate k.toNat d)) M):zm (.tup [d]) (.int k) M Q:=.inl (Dd h0 h1 q)
theorem Dc{p:Addr}{d:D}{k:Int}(hM:M p=some (.lst [d]))(h0:0<=k)(h1:k<=10000)(q:∀p,M p=none->Q (.ref p) (ah M p (.lst (List.replicate k.toNat d)))):zm (.ref p) (.int k) M Q:=by
 refine .inr ⟨p,k,[d],rfl,rfl,hM,Int.le_trans (by decide) h0,p9 h1 (by decide),?_,?_⟩
 ·have:[d].length*k.toNat<=10000:=by simp;omega
  exact T_ this
 ·have e:(List.replicate k.toNat [d]).flatten=List.replicate k.toNat d:=by
   generalize k.toNat=n
   induction n with
   |zero=>rfl
   |succ n ih=>rw[m6,w6,ih,m6];rfl
  rw[e];exact q
theorem dU{a:Addr}{ds:List D}(h:M a=some (.lst ds)):cE M (.ref a)=some ds:=by show bf M a=some ds;unfold bf;rw[h]
theorem kN{k:Nat}{x y:D}{ds:List D}(hs:cE M y=some ds)(hx:Pl k x)(hd:∀e∈ds,Pl k e)(hk:k<=60):V6 M x y ds:=by have f:=jG λ e he=>(hd e he).f;exact⟨hs,f.nr,hx.f.nr,f.lay,hx.f.lay,by have:=hx.f.dep;omega⟩
theorem Gf{k:Nat}{x:D}{ds:List D}(hx:Pl k x)(hd:∀e∈ds,Pl k e){b:Bool}(hb:b=true↔x∈ds):(ds.any λ e=>PyData.eqv (toP e) (toP x))=b:=by
 rw[A3,hb,List.any_eq_true];constructor
 ·rintro⟨e,he,h⟩;rw[<- (iA e x (hd e he) hx).mp h];exact he
 ·intro h;exact⟨x,h,(iA x x hx hx).mpr rfl⟩
theorem rh{k:Nat}{x y:D}{ds:List D}{b:Bool}(hs:cE M y=some ds)(hx:Pl k x)(hd:∀e∈ds,Pl k e)(hk:k<=60)(hb:b=true↔x∈ds)(q:Q (.bl b) M):Kd x y M Q:=by refine .inr ⟨ds,kN hs hx hd hk,?_⟩;rw[Gf hx hd hb];exact q
theorem v_{k:Nat}{x y:D}{ds:List D}{b:Bool}(hs:cE M y=some ds)(hx:Pl k x)(hd:∀e∈ds,Pl k e)(hk:k<=60)(hb:b=true↔x∈ds)(q:Q (.bl (!b)) M):my x y M Q:=by refine .inr ⟨ds,kN hs hx hd hk,?_⟩;rw[Gf hx hd hb];exact q
theorem yw{α:Type}{xs:List α}{enc:α->D}(inj:∀a b,enc a=enc b->a=b)(a:α):enc a∈xs.map enc↔a∈xs:=by
 rw[D6];constructor
 ·rintro⟨b,hb,e⟩;rw[<- inj _ _ e];exact hb
 ·intro h;exact⟨a,h,rfl⟩
theorem jz{α:Type}[DecidableEq α]{k:Nat}{p:Addr}{xs:List α}{a:α}(enc:α->D)(inj:∀a b,enc a=enc b->a=b)(hM:M p=some (.lst (xs.map enc)))(ha:a∈xs)(hp:∀a,Pl k (enc a))(hk:k<=60)(q:Q (.int (xs.idxOf a:Nat)) M):xf (.ref p) [enc a] M Q:=by
 have iX:xs.idxOf a < xs.length:=idxOf_lt_length_of_mem ha;refine⟨p,xs.map enc,enc a,xs.idxOf a,rfl,rfl,hM,kN (dU hM) (hp a) (gH λ x _=>hp x) hk,⟨by rw[B4];exact iX,λ e he=>?_,λ m e hm he=>?_⟩,q⟩
 ·rw[s9,i5 iX,getElem_idxOf]at he;cases he;exact(iA _ _ (hp a) (hp a)).mpr rfl
 ·rw[s9,i5 (by omega)]at he;cases he;refine Fx (hp _) (hp a) ⟨(λ z=>by cases z),λ z=>?_⟩;have:=inj _ _ z;have eZ:=not_of_lt_findIdx (p:=(·==a)) (xs:=xs) (i:=m) hm;exact absurd (show(xs[m]==a)=true by rw[this];simp) (by simpa using eZ)
theorem Mf{p:Addr}{ds:List D}{y:D}(hM:M p=some (.lst (ds++[y])))(q:Q y (ah M p (.lst ds))):OK (.ref p) [] M Q:=by refine .inl ⟨p,ds++[y],y,rfl,rfl,hM,by simp,?_⟩;rw[dropLast_concat];exact q
theorem C'{p:Addr}{ds:List D}{j:Nat}{y:D}(hM:M p=some (.lst ds))(hj:ds[j]?=some y)(hz:ds.length<=10000)(q:Q y (ah M p (.lst (ds.eraseIdx j)))):OK (.ref p) [.int (j:Int)] M Q:=by have hl:j < ds.length:=(g9.mp hj).1;exact .inr ⟨p,ds,j,j,y,rfl,rfl,hM,Int.le_trans (by decide) (Int.natCast_nonneg j),p9 (show(j:Int)<=10000 by omega) (by decide),by rw[seqIndex_of (by omega) (by omega)];simp,hj,q⟩
end
end L3
namespace L3
open PySem PySem.Spec L2 L5 PyProof.Rows
def CL(i:Nat)(te:cu):jY:=λ E δ M=>∃a,δ[i]?=some (some (.int a))/\te δ M λ d M1=>∃b,d=.int b/\E.nx (δ.set i (some (.int (a+b)))) M1
section
variable {X:Cx}{pos:Pos}{te:cu}
theorem HZ{i:Nat}{x:Str}{e:Expr}{pos':Pos}(hN:X.N.Nodup)(hi:X.N[i]?=some x)(hx:Loc X.env.scope x)(he:QE X e te)(hf:X.fn x=true\/X.env.scope.names.lookup x=some .local:=by first|exact .inl rfl|exact .inr rfl|assumption):QS X (.AugAssign (.Name x pos') .Add e pos) (CL i te):=jE (MZ hN hi hx he Oc hf) λ E σ H ⟨δ,M,D2,hs,hm,⟨a,ea,q⟩,k⟩=>by obtain⟨v,ev,hv⟩:=hs.get i _ ea;cases(au.mp hv);refine⟨_,ev,δ,M,_,hs,hm,q,λ y H1 d M1 hd bQ t1 q1=>?_⟩;obtain⟨b,rfl,q1⟩:=q1;cases(au.mp hd);exact⟨_,_,rfl,rfl,k.nx _ _ _ _ ((hs.mono t1).set (au.mpr rfl)) bQ t1 q1⟩
end
theorem HN{i:Nat}{te:cu}{E:iP}{δ:cS}{M:Mem}{a:Int}(ea:δ[i]?=some (some (.int a)))(h:te δ M λ d M1=>∃b,d=.int b/\E.nx (δ.set i (some (.int (a+b)))) M1):CL i te E δ M:=⟨a,ea,h⟩
def FA(R:Src->Mem->Prop)(ds:List D)(M1:Mem):Prop:=match ds with
 |[.tup xs]=>R (.fix (e_ xs)) M1
 |[x]=>(∃zs,cE M1 x=some zs)/\R (.fn (iO x)) M1
 |_=>False
theorem Dl{ta:eO}{δ:cS}{M:Mem}{R:Src->Mem->Prop}(h:ta δ M (FA R)):EC ta δ M R:=h
theorem Dm{xs:List D}{M:Mem}{R:Src->Mem->Prop}(h:R (.fix (e_ xs)) M):FA R [.tup xs] M:=h
theorem Dp{a:Addr}{xs:List D}{M:Mem}{R:Src->Mem->Prop}(hM:M a=some (.lst xs))(h:R (.fn (iO (.ref a))) M):FA R [.ref a] M:=⟨⟨xs,dU hM⟩,h⟩
end L3
namespace L4
open PySem PySem.Spec L2 L3 L5
section
variable {X:Cx}{pos:Pos}{te:cu}
theorem GO{i:Nat}{x:Str}{e:Expr}{pos':Pos}(hN:X.N.Nodup)(hi:X.N[i]?=some x)(hx:Loc X.env.scope x)(he:WE X e te)(hf:X.fn x=true\/X.env.scope.names.lookup x=some .local:=by first|exact .inl rfl|exact .inr rfl|assumption):WS X (.AugAssign (.Name x pos') .Add e pos) (CL i te):=⟨HZ hN hi hx he.h hf⟩
end
end L4
namespace L2
open PySem PySem.Spec PyProof.Rows
section
variable {X:Cx}
def Ul(K:J8)(x y:V)(H:Hp)(Q:Bool->Prop):Prop:=(∃a o,y=.ref a/\pH H a x o/\Q o.isSome)\/∃a b kvs k,y=.ref a/\x=.ref b/\oF K H a kvs/\k.dep<=5/\fG K H k (.ref b)/\Q (jo kvs k).isSome
theorem IV(neg:Bool)(hu:X.A.units+64 < cLine):fK X (compareOp (if neg then .NotIn else .In)) (λ x y H Q=>Ul X.K x y H λ b=>Q (.bl (if neg then !b else b)) H):=by
 intro pins s σ H x y v u Q I rx ry h;rcases h with⟨a,o,rfl,g,q⟩|⟨a,b,kvs,k,rfl,rfl,d,hk,vy,q⟩
 ·cases(show u=Value.ref a from ry);cases neg with
  |false=>exact VR (by omega) I g rx λ s3 I3=>⟨.bl o.isSome,H,I3,rfl,q⟩
  |true=>exact Ka (by omega) I g rx λ s3 I3=>⟨.bl (!o.isSome),H,I3,rfl,q⟩
 ·cases(show u=Value.ref a from ry);cases(show v=Value.ref b from rx);cases neg with
  |false=>exact TQ hu I d hk vy λ s3 I3=>⟨.bl (jo kvs k).isSome,H,I3,rfl,q⟩
  |true=>exact G_ hu I d hk vy λ s3 I3=>⟨.bl (!(jo kvs k).isSome),H,I3,rfl,q⟩
def Qr(K:J8)(x y:V)(H:Hp)(Q:VK):Prop:=(∃a v,x=.ref a/\pH H a y (some v)/\Q v H)\/∃a b kvs k v,x=.ref a/\y=.ref b/\oF K H a kvs/\k.dep<=5/\fG K H k (.ref b)/\jo kvs k=some v/\Q v H
theorem Ob(hu:X.A.units+64 < cLine):xw X (λ x y H Q=>Qr X.K x y H Q):=by
 intro value slice pins s σ H x y v u Q I rx ry h hs;rcases h with⟨a,w,rfl,g,q⟩|⟨a,b,kvs,k,w,rfl,rfl,d,hk,vy,g,q⟩
 ·cases(show v=Value.ref a from rx);refine tail_any (ops:=[.ref a,u]) (uL I g) PySem.F.slot_dict_getitem.lookup ?_ hs;exact Bq (by omega) I g ry λ w' s3 I3 gD=>⟨w,H,I3,gD,q⟩
 ·cases(show v=Value.ref a from rx);cases(show u=Value.ref b from ry);obtain⟨_,_,xs,_,dd⟩:=d.of I;refine tail_any (ops:=[.ref a,.ref b]) dd.typeIs PySem.F.slot_dict_getitem.lookup ?_ hs;exact Aj hu I d hk vy g λ w' s3 I3 gD=>⟨w,H,I3,gD,q⟩
def Qq(K:J8):BD:=λ o i v H Q=>(∃a H',o=.ref a/\Gp H a i v H'/\Q H')\/∃a b kvs k,o=.ref a/\i=.ref b/\oF K H a kvs/\k.dep<=5/\fG K H k (.ref b)/\kvs.length < sizeLine/\Q (upd H a (sP a (jD kvs k b v)))
theorem Hn(hu:X.A.units+64 < cLine):sE X (Qq X.K):=by
 intro pins s σ H o i v ov iv u Q I ro ri rv h;rcases h with⟨a,H',rfl,g,q⟩|⟨a,b,kvs,k,rfl,rfl,d,hk,vy,hl,q⟩
 ·cases(show ov=Value.ref a from ro);exact Bp (by omega) I g ri rv λ s3 I3=>⟨H',I3,q⟩
 ·cases(show ov=Value.ref a from ro);cases(show iv=Value.ref b from ri);exact Ai hu I d hk vy hl rv λ s3 I3=>⟨_,I3,q⟩
theorem xp:di X (.builtin "len") (λ xs H Q=>∃a,xs=[.ref a]/\((∃kvs,H a=some (.dK kvs)/\Q (.int kvs.length) H)\/∃kvs,H a=some (sP a kvs)/\Q (.int kvs.length) H)):=by
 intro pins s σ H xs us Q I r h;obtain⟨a,rfl,h⟩:=h;obtain⟨u,rfl,ru⟩:=vals1 r;cases(show u=Value.ref a from ru);rcases h with⟨kvs,e,q⟩|⟨kvs,e,q⟩
 ·exact RW I (.inl e) λ t s' I'=>⟨.int kvs.length,H,I',⟨t,rfl⟩,q⟩
 ·exact PM I e λ t s' I'=>⟨.int kvs.length,H,I',⟨t,rfl⟩,q⟩
end
end L2
namespace L3
open PySem PySem.Spec L2 L5 PyProof.Rows
noncomputable instance Zy:DecidableEq D:=λ a b=>Classical.propDecidable (a=b)
noncomputable def dg (kvs:List (D×D))(k:D):Option D:=(kvs.find? λ p=>decide (p.1=k)).map (·.2)
noncomputable def putD (kvs:List (D×D))(k v:D):List (D×D):=if(dg kvs k).isSome=true then kvs.map (λ p=>if p.1=k then(p.1,v)else p)else kvs++[(k,v)]
def gX(t:Bool)(x:D):Prop:=match t with
 |false=>∃k:Key,x=iW k
 |true=>∃ks:List IK,x=oK (.t ks)/\(IK.t ks).dep<=5
def BH(K:J8)(H:Hp):Option D->Option V->Prop
 |none,none=>True
 |some d,some v=>Dat K H d v
 |_,_=>False
section
variable {K:J8}{H:Hp}
theorem Gq.look {kvs:List (D×D)}{xs:List (Key×V)}(h:Gq K H kvs xs)(k:Key):BH K H (dg kvs (iW k)) (iQ xs k):=by
 induction h with
 |nil=>exact True.intro
 |@cons p q ps qs jO t ih=>
  obtain⟨h1,h2⟩:=jO;unfold dg iQ at ih ⊢;by_cases e:q.1=k
  ·have e':p.1=iW k:=by rw[h1,e]
   simp only[A6,C0 e,C0 e',Option.map_some];exact h2
  ·have e':¬p.1=iW k:=λ z=>e (uk (h1.symm.trans z));simp only[A6,A7 e,A7 e'];exact ih
theorem BG.look {kvs:List (D×D)}{xs:List eV}(h:BG K H kvs xs)(k:IK):BH K H (dg kvs (oK k)) (jo xs k):=by
 induction h with
 |nil=>exact True.intro
 |@cons p q ps qs jO t ih=>
  obtain⟨h1,_,_,h2⟩:=jO;unfold dg jo at ih ⊢;by_cases e:q.1=k
  ·have e':p.1=oK k:=by rw[h1,e]
   simp only[A6,C0 e,C0 e',Option.map_some];exact h2
  ·have e':¬p.1=oK k:=λ z=>e (rP (h1.symm.trans z));simp only[A6,A7 e,A7 e'];exact ih
theorem BH.isSome {o:Option D}{u:Option V}(h:BH K H o u):o.isSome=u.isSome:=by
 cases o with
 |none=>cases u with
  |none=>rfl
  |some _=>exact(show False from h).elim
 |some _=>cases u with
  |none=>exact(show False from h).elim
  |some _=>rfl
theorem BH.some_of {d:D}{u:Option V}(h:BH K H (some d) u):∃v,u=some v/\Dat K H d v:=by
 cases u with
 |none=>exact(show False from h).elim
 |some v=>exact⟨v,rfl,h⟩
theorem BG.keys {a:Addr}{kvs:List (D×D)}{xs:List eV}(h:BG K H kvs xs)(e:H a=some (sP a xs)):oF K H a xs:=by
 refine⟨e,?_⟩;clear e
 induction h with
 |nil=>intro p hp;cases hp
 |@cons p q ps qs jO t ih=>
  intro x hx;rcases D1.mp hx with rfl|hx
  ·obtain⟨h1,h2,h3,_⟩:=jO;rw[h1]at h3;exact⟨h2,kW _ h3⟩
  ·exact ih x hx
theorem DA(xs:List (Key×V))(k:Key)(v:V):putK xs k v=if(iQ xs k).isSome=true then xs.map (λ kv=>if kv.1=k then(kv.1,v)else kv)else xs++[(k,v)]:=by unfold putK;rw[mQ]
theorem Gq.put {kvs:List (D×D)}{xs:List (Key×V)}(h:Gq K H kvs xs)(k:Key){d:D}{v:V}(hd:Dat K H d v):Gq K H (putD kvs (iW k) d) (putK xs k v):=by
 rw[DA];unfold putD;rw[(h.look k).isSome];by_cases e:(iQ xs k).isSome=true
 ·rw[J6 e,J6 e];clear e
  induction h with
  |nil=>exact .nil
  |@cons p q ps qs jO t ih=>
   rw[C9,C9];refine .cons ?_ ih;obtain⟨h1,h2⟩:=jO;by_cases e:q.1=k
   ·rw[J6 e,J6 (by rw[h1,e])];exact⟨h1,hd⟩
   ·rw[J7 e,J7 (λ z=>e (uk (h1.symm.trans z)))];exact⟨h1,h2⟩
 ·rw[J7 e,J7 e];exact Paired.snoc h ⟨rfl,hd⟩
theorem BG.put {kvs:List (D×D)}{xs:List eV}(h:BG K H kvs xs)(k:IK){b:Addr}{d:D}{v:V}(hk:k.dep<=5)(hb:Dat K H (oK k) (.ref b))(hd:Dat K H d v):BG K H (putD kvs (oK k) d) (jD xs k b v):=by
 unfold putD jD;rw[(h.look k).isSome];by_cases e:(jo xs k).isSome=true
 ·rw[J6 e,J6 e];clear e
  induction h with
  |nil=>exact .nil
  |@cons p q ps qs jO t ih=>
   rw[C9,C9];refine .cons ?_ ih;obtain⟨h1,h2,h3,h4⟩:=jO;by_cases e:q.1=k
   ·rw[J6 e,J6 (by rw[h1,e])];exact⟨h1,h2,h3,hd⟩
   ·rw[J7 e,J7 (λ z=>e (rP (h1.symm.trans z)))];exact⟨h1,h2,h3,h4⟩
 ·rw[J7 e,J7 e];exact Paired.snoc h ⟨rfl,hk,hb,hd⟩
end
section
variable {X:Cx}
def OO(neg:Bool):fZ:=λ x y M Q=>∃a t kvs,y=.ref a/\M a=some (.cL t kvs)/\gX t x/\Q (.bl (if neg then !(dg kvs x).isSome else(dg kvs x).isSome)) M
theorem lS{K:J8}{H:Hp}{ks:List IK}{v:V}(h:Dat K H (oK (.t ks)) v):∃b,v=.ref b:=by unfold oK at h;obtain⟨p,xs,rfl,_⟩:=aU.mp h;exact⟨p,rfl⟩
theorem Ea(neg:Bool)(hu:X.A.units+64 < cLine):fM X (compareOp (if neg then .NotIn else .In)) (OO neg):=⟨_,IV neg hu,λ x y d e H M Q2 Q hd he hm q k=>by
 obtain⟨a,t,kvs,rfl,hM,ok,q⟩:=q;cases(aE.mp he);have hr:=hm a _ hM;cases t with
 |false=>obtain⟨xs,hx,rel⟩:=hr;obtain⟨kk,rfl⟩:=ok;rw[mx hd];refine .inl ⟨a,_,rfl,pH.k hx,k _ H _ M (aY.mpr rfl) hm (ar.refl H) ?_⟩;rw[<- (rel.look kk).isSome];exact q
 |true=>
  obtain⟨xs,hx,rel⟩:=hr;obtain⟨ks,rfl,gn⟩:=ok;obtain⟨b,rfl⟩:=lS hd;refine .inr ⟨a,b,xs,_,rfl,rfl,rel.keys hx,gn,kW _ hd,k _ H _ M (aY.mpr rfl) hm (ar.refl H) ?_⟩;rw[<- (rel.look _).isSome];exact q⟩
def R0:fZ:=λ x y M Q=>Kd x y M Q\/OO false x y M Q
theorem KW(hu:X.A.units+64 < cLine):fM X (compareOp .In) R0:=(t_ hu).or (Ea false hu)
def zl:fZ:=λ x y M Q=>my x y M Q\/OO true x y M Q
theorem tZ(hu:X.A.units+64 < cLine):fM X (compareOp .NotIn) zl:=(gJ hu).or (Ea true hu)
def R4:fZ:=λ x y M Q=>∃a t kvs d,x=.ref a/\M a=some (.cL t kvs)/\gX t y/\dg kvs y=some d/\Q d M
def OM:fZ:=λ x y M Q=>Pt x y M Q\/R4 x y M Q
theorem eX(hu:X.A.units+64 < cLine):Si X OM:=by
 obtain⟨r,h1,h2⟩:=(L3.aI:Si X Pt);refine⟨_,h1.or (Ob hu),λ x y d e H M Q2 Q hd he hm q k=>?_⟩;rcases q with q|⟨a,t,kvs,w,rfl,hM,ok,hl,q⟩
 ·exact .inl (h2 x y d e H M Q2 Q hd he hm q k)
 ·cases(aE.mp hd);have hr:=hm a _ hM;cases t with
  |false=>obtain⟨xs,hx,rel⟩:=hr;obtain⟨kk,rfl⟩:=ok;have hv:=rel.look kk;rw[hl]at hv;obtain⟨v,e1,e2⟩:=hv.some_of;rw[mx he];exact .inr (.inl ⟨a,v,rfl,by rw[<- e1];exact pH.k hx,k _ H _ M e2 hm (ar.refl H) q⟩)
  |true=>obtain⟨xs,hx,rel⟩:=hr;obtain⟨ks,rfl,gn⟩:=ok;have hv:=rel.look (.t ks);rw[hl]at hv;obtain⟨v,e1,e2⟩:=hv.some_of;obtain⟨b,rfl⟩:=lS he;exact .inr (.inr ⟨a,b,xs,_,v,rfl,rfl,rel.keys hx,gn,kW _ he,e1,k _ H _ M e2 hm (ar.refl H) q⟩)
def R3:jX:=λ o i v M N=>∃a t kvs,o=.ref a/\M a=some (.cL t kvs)/\gX t i/\kvs.length < sizeLine/\N (ah M a (.cL t (putD kvs i v)))
def Lh:jX:=λ o i v M N=>Kb o i v M N\/R3 o i v M N
theorem sE.or {t u:BD}(h:sE X t)(g:sE X u):sE X (λ o i v H Q=>t o i v H Q\/u o i v H Q):=by
 intro pins s σ H o i v ov iv uu Q I ro ri rv q;rcases q with q|q
 ·exact h pins s σ H o i v ov iv uu Q I ro ri rv q
 ·exact g pins s σ H o i v ov iv uu Q I ro ri rv q
theorem CD(hu:X.A.units+64 < cLine):Gj X Lh:=by
 obtain⟨r,h1,h2⟩:=(ni:Gj X Kb);refine⟨_,sE.or h1 (Hn hu),λ o i v d j e H M Q2 Q hd hj he hm q k=>?_⟩;rcases q with q|⟨a,t,kvs,rfl,hM,ok,hl,q⟩
 ·exact .inl (h2 o i v d j e H M Q2 Q hd hj he hm q k)
 ·cases(aE.mp hd);have hr:=hm a _ hM;cases t with
  |false=>obtain⟨xs,hx,rel⟩:=hr;obtain⟨kk,rfl⟩:=ok;rw[mx hj];have t:=ar.mut (o:=.dK (putK xs kk v)) hx (λ _ z=>by cases z) (λ _ _ z=>by cases z);refine .inr (.inl ⟨a,_,rfl,Gp.k hx (by rw[<- C7 rel];exact hl),k _ _ (hm.put (u:=.cL false (putD kvs (iW kk) e)) t ⟨_,aP,(rel.put kk he).mono t⟩) t q⟩)
  |true=>obtain⟨xs,hx,rel⟩:=hr;obtain⟨ks,rfl,gn⟩:=ok;obtain⟨b,rfl⟩:=lS hj;have t:=ar.mut (o:=sP a (jD xs (.t ks) b v)) hx (λ _ z=>by cases z) (λ _ _ z=>by cases z);refine .inr (.inr ⟨a,b,xs,_,rfl,rfl,rel.keys hx,gn,kW _ hj,by rw[<- C7 rel];exact hl,k _ _ (hm.put (u:=.cL true (putD kvs (oK (.t ks)) e)) t ⟨_,aP,(rel.put (.t ks) gn hj he).mono t⟩) t q⟩)
def FO:List D->Mem->bK->Prop:=λ xs M Q=>Bs xs M Q\/∃a t kvs,xs=[.ref a]/\M a=some (.cL t kvs)/\Q (.int (kvs.length:Nat)) M
theorem FZ:dE X (.builtin "len") FO:=by
 obtain⟨r,h1,h2⟩:=(L3.bO:dE X (.builtin "len") Bs);refine⟨_,h1.or xp,λ xs ds H M Q2 Q hd hm q k=>?_⟩;rcases q with q|⟨a,t,kvs,rfl,hM,q⟩
 ·exact .inl (h2 xs ds H M Q2 Q hd hm q k)
 ·obtain⟨x,r,rfl,hx,hr⟩:=ag.mp hd;cases(ao.mp hr);cases(aE.mp hx);have hr:=hm a _ hM;cases t with
  |false=>obtain⟨xs,hx,rel⟩:=hr;exact .inr ⟨a,rfl,.inl ⟨xs,hx,by rw[<- C7 rel];exact k _ H _ M (au.mpr rfl) hm (ar.refl H) q⟩⟩
  |true=>obtain⟨xs,hx,rel⟩:=hr;exact .inr ⟨a,rfl,.inr ⟨xs,hx,by rw[<- C7 rel];exact k _ H _ M (au.mpr rfl) hm (ar.refl H) q⟩⟩
end
end L3
namespace L2
open PySem PySem.Spec PySem.W PyProof.Rows L5
section
variable {X:Cx}
theorem DN{k v:Expr}{tk tv:TE}{pos:Pos}(hu:X.A.units+64 < cLine)(hk:PE X k tk)(hv:PE X v tv):PE X (.Dict [some k] [v] pos) (λ σ H Q=>∀p,H p=none->tk σ (upd H p (sP p [])) λ x H1=>tv σ H1 λ y H2=>∃b ik,x=.ref b/\H2 p=some (sP p [])/\ik.dep<=5/\fG X.K H2 ik (.ref b)/\Q (.ref p) (upd H2 p (sP p (jD [] ik b y)))):=by
 intro pins s σ H Q I h;refine wpAny_Dict_any rfl rfl (by simp) (by simp) ?_;have I0:=I.laid (a:=s.heap.objs.size) (o:=sP s.heap.objs.size []) (t':=s.toks) (λ _ _ q=>j4 _ q) (G5 _) (wY (JZ s.heap I.big));refine pairTrees_cons_walk (cT (hk pins _ σ _ _ I0 (h _ (I.bh.fresh (G5 _)))) λ kv s1 ⟨x,H1,I1,r1,q1⟩=>cT (hv pins s1 σ H1 _ I1 q1) λ vv s2 ⟨y,H2,I2,r2,q2⟩=>pairTrees_nil_walk ?_);obtain⟨b,ik,rfl,hp,hd,vy,q⟩:=q2;cases(show kv=Value.ref b from r1);generalize s.heap.objs.size=p at*;obtain⟨z,nm,xs,rel,dd⟩:=oF.of I2 (kvs:=[]) ⟨hp,λ _ z=>by cases z⟩;cases rel;have vw:(jD [] ik b y).length<=sizeLine:=by have:=tT [] ik b y;exact D8 this (by decide)
 unfold storeAll;rw[forIn_cons];refine G9 (G9 (wpAny_dictSet_heap (knd:=aQ X.prog X.w) (hsz:=G7 _) (show X.A.units+8 < cLine by omega) ⟨hd,jM I2 ik vy rfl⟩ dd λ h' FJ hs=>H9 ?_));dsimp only;rw[forIn_nil];obtain⟨q',es,ep,hq,h2,h3,h4,_,h5⟩:=FJ;exact H9 ⟨.ref p,_,jT I2 (by rw[hp];exact True.intro) hs ⟨q',hq⟩ (wY ⟨vw,nm,_,BN.put .nil ik r2,q',es,ep,hq,h2,h3,h4,h5⟩),rfl,q⟩
end
end L2
namespace L3
open PySem PySem.Spec L2 L5 PyProof.Rows
section
variable {X:Cx}
def LY(tk tv:cu):cu:=λ δ M Q=>∀p,M p=none->tk δ (ah M p (.cL true [])) λ x M1=>tv δ M1 λ y M2=>M2 p=some (.cL true [])/\gX true x/\Q (.ref p) (ah M2 p (.cL true [(x,y)]))
theorem Il{k v:Expr}{tk tv:cu}{pos:Pos}(hu:X.A.units+64 < cLine)(hk:QE X k tk)(hv:QE X v tv):QE X (.Dict [some k] [v] pos) (LY tk tv):=by refine bS (DN hu hk hv) ?_;rintro σ H Q ⟨δ,M,Q2,hs,hm,q,k⟩ p hp;have t0:ar H (upd H p (sP p [])):=ar.laid hp;refine⟨δ,ah M p (.cL true []),_,hs.mono t0,hm.put (u:=.cL true []) t0 ⟨[],aP,.nil⟩,q p (hm.free hp),λ x H1 d M1 hd bQ t1 q1=>?_⟩;refine⟨δ,M1,_,(hs.mono t0).mono t1,bQ,q1,λ y H2 e M2 he oN t2 q2=>?_⟩;obtain⟨eT,⟨ks,rfl,gn⟩,q2⟩:=q2;have hd2:=Dat.mono t2 _ hd;obtain⟨b,rfl⟩:=lS hd2;obtain⟨xs,hx,rel⟩:=oN p _ eT;cases rel;have t:=ar.mut (o:=sP p (jD [] (.t ks) b y)) hx (λ _ z=>by cases z) (λ _ _ z=>by cases z);exact⟨b,.t ks,rfl,hx,gn,kW _ hd2,k _ _ _ _ (aE.mpr rfl) (oN.put (u:=.cL true [(oK (.t ks),e)]) t ⟨_,aP,((BG.put (kvs:=[]) .nil (.t ks) gn hd2 he):BG X.K H2 [(oK (.t ks),e)] (jD [] (.t ks) b y)).mono t⟩) ((t0.trans t1).trans (t2.trans t)) q2⟩
end
section
variable {Q:bK}{M:Mem}{a:Addr}{kvs:List (D×D)}{x y v d:D}{t:Bool}{N:Mem->Prop}{xs:List D}
theorem qb(h:M a=some (.cL t kvs))(hk:gX t x)(q:Q (.bl (!(dg kvs x).isSome)) M):zl x (.ref a) M Q:=.inr ⟨a,t,kvs,rfl,h,hk,q⟩
theorem du(h:Pt x y M Q):OM x y M Q:=.inl h
theorem wa(h:M a=some (.cL t kvs))(hk:gX t x)(e:dg kvs x=some d)(q:Q d M):OM (.ref a) x M Q:=.inr ⟨a,t,kvs,d,rfl,h,hk,e,q⟩
theorem xZ(h:M a=some (.cL t kvs))(hk:gX t x)(hl:kvs.length < sizeLine)(q:N (ah M a (.cL t (putD kvs x v)))):Lh (.ref a) x v M N:=.inr ⟨a,t,kvs,rfl,h,hk,hl,q⟩
theorem tQ(h:Bs xs M Q):FO xs M Q:=.inl h
end
end L3
namespace KK
open PySem L3 L4 L5
open L2 hiding aI fR
abbrev Row:=List Int
end KK
namespace KK
open PySem L3 L4 L5
open L2 hiding aI fR
theorem Ext.free {M M':Mem}(h:Ext M M'){p:Addr}(hp:M' p=none):M p=none:=by
 cases e:M p with
 |none=>rfl
 |some o=>rw[h p o e]at hp;cases hp
theorem Ext.trans {M M1 M2:Mem}(h:Ext M M1)(g:Ext M1 M2):Ext M M2:=λ b o e=>g b o (h b o e)
theorem Ext.new {M M':Mem}(h:Ext M M'){p:Addr}(hp:M' p=none)(x:MO):Ext M (ah M' p x):=UK h hp x
theorem bM{M:Mem}{p q:Addr}{x:MO}(h:M p=some x)(g:M q=none):p≠q:=λ z=>by subst z;rw[h]at g;cases g
end KK
namespace KK
open PySem L3 L4 L5
open L2 hiding aI fR
theorem Qg{α:Type}{ds:List α}{X:Prop}(h:ds.length<=16)(q:X):ds.length<=sizeLine/\X:=⟨D8 h (by decide),q⟩
theorem nE{M:Mem}{Q:bK}(q:Q (.bl true) M):Kc false .bx .bx M Q:=q
theorem yZ{P:Program}{w:World}{K:J8}{mg:Str->Option Value}{base:Heap}{k:Nat}{f:Addr}{fd:FuncData}{ps:List Str}{sp:gs}(h:∀ds M Q,¬sp ds M Q):cw P w K mg base fA k f fd ps (cV K sp):=
 ⟨λ _ _ _ _ ⟨ds,M,Q,_,_,q,_⟩=>absurd q (h ds M Q),λ _ _ _ _ _ _ _ _ _ _ _ _ _ ⟨ds,M,Q,_,_,q,_⟩=>absurd q (h ds M Q)⟩
def V3:D->Prop
 | .bx=>True| .bl _=>True| .int _=>True| .str _=>True|_=>False
def Gk(M:Mem):Nat->D->D->Prop
 |0,_,_=>False
 |k+1,x,y=>(x=y/\V3 x)\/(∃ds es,x=.tup ds/\y=.tup es/\ds.length=es.length/\ds.length<=10000/\∀(i:Nat) (d e:D),ds[i]?=some d->es[i]?=some e->Gk M k d e)\/
  ∃p q ds es,x=.ref p/\y=.ref q/\M p=some (.lst ds)/\M q=some (.lst es)/\ds.length=es.length/\ds.length<=10000/\∀(i:Nat) (d e:D),ds[i]?=some d->es[i]?=some e->Gk M k d e
theorem CB(M:Mem)(k:Nat){r:List Int}(h:r.length<=10000):Gk M (k+2) (row r) (row r):=
 .inr (.inl ⟨_,_,rfl,rfl,rfl,by rw[B4];exact h,λ i d e hd he=>by
  rw[hd]at he;cases he;obtain⟨x,_,rfl⟩:=D6.mp (k9 hd);exact .inl ⟨rfl,True.intro⟩⟩)
def Cy(k:Nat):gs:=λ ds M Q=>∃x y,ds=[x,y]/\Gk M k x y/\Q (.bl true) M
theorem Hh:∀ds M Q,¬Cy 0 ds M Q:=λ ds M Q ⟨_,_,_,h,_⟩=>h
end KK
namespace KK
open PySem L3 L4 L5
open L2 hiding aI fR
theorem GN(a:Nat):∀b:Nat,(a^^^b)+2*(a&&& b)=a+b:=by
 induction a using Nat.strongRecOn with
 |ind a ih=>
  intro b;by_cases h:a=0
  ·subst h;simp
  ·have h1:=ih (a / 2) (by omega) (b / 2);rw[<- Nat.xor_div_two,<- Nat.and_div_two]at h1;have x1:(a^^^b) % 2=1↔¬(a % 2=1↔b % 2=1):=Nat.xor_mod_two_eq_one;have x2:(a&&& b) % 2=1↔a % 2=1/\b % 2=1:=Nat.and_mod_two_eq_one;omega
theorem xq(a b:Nat):Builtin.bitXor (a:Int) (b:Int)=((a^^^b:Nat):Int):=by rw[PyProof.Rows.bitXor_and,PyProof.Rows.bitAnd_pp (by omega) (by omega)];have:=GN a b;simp only[u7];omega
end KK
namespace KK
open PySem L3 L4 L5
open L2 hiding aI fR
structure Tb(m h:Nat)(rows:List Row):Prop where
 len:rows.length=m
 pos:0 < m
 cI:m<=300
 Bn:h<=12
 row:∀r∈rows,r.length=h/\∀x∈r,0<=x/\x < (m:Int)
def eu(rows:List Row)(ls:Row):D:=.tup [.tup (rows.map row),row ls]
def a_(rows:List Row)(h x:Nat):Nat:=((rows.getD x []).getD h 0).toNat
theorem Tb.at {m h:Nat}{rows:List Row}(T:Tb m h rows){x i:Nat}(hx:x < m)(hi:i < h):(rows.getD x []).length=h/\(rows.getD x []).getD i 0=(a_ rows i x:Int)/\a_ rows i x < m:=by
 have sL:x < rows.length:=by rw[T.len];exact hx
 have e:rows.getD x []=rows[x]:=by rw[c8,i5 sL];rfl
 have hr:=T.row _ (y9 sL);unfold a_;rw[e];have Bk:i < (rows[x]).length:=by rw[hr.1];exact hi
 have e2:(rows[x]).getD i 0=(rows[x])[i]:=by rw[c8,i5 Bk];rfl
 have hb:=hr.2 _ (y9 Bk);rw[e2];exact⟨hr.1,by omega,by omega⟩
def BK(f:Nat->Nat):Nat->Nat->Nat
 |0,x=>x
 |n+1,x=>BK f n (f x)
theorem EH{f:Nat->Nat}{m:Nat}(hf:∀x,x < m->f x < m):∀n x,x < m->BK f n x < m
 |0,x,h=>h
 |n+1,x,h=>EH hf n (f x) (hf x h)
def GW(rows:List Row):Nat->Nat->Row->Nat
 |_,x,[]=>x
 |i,x,c::cs=>GW rows (i+1) (BK (a_ rows i) c.toNat x) cs
theorem Tb.Ce {m h:Nat}{rows:List Row}(T:Tb m h rows){i:Nat}(hi:i < h):∀x,x < m->a_ rows i x < m:=λ x hx=>(T.at hx hi).2.2
end KK
namespace L2
open PySem PySem.Spec PyProof.Rows
theorem pM{x:V}{xs:List V}{us:List Value}(r:Vals (x::xs) us):∃u ws,us=u::ws/\RelV x u/\Vals xs ws:=by
 cases r with
 |cons a b=>exact⟨_,_,rfl,a,b⟩
end L2
namespace L2
open PySem PySem.Spec PyProof.Rows
theorem p_:∀(cs:List Addr) {ax:List Value},Vals (cs.map V.ref) ax->ax=cs.map Value.ref
 |[],_,rv=>by cases rv;rfl
 |c::cs,_,rv=>by obtain⟨w,ws,rfl,gD,r4⟩:=pM rv;obtain rfl:w=Value.ref c:=gD;rw[p_ cs r4];rfl
end L2
namespace L2
open PySem PySem.Spec PySem.W PySem.Calls PyProof.Rows L5
theorem ET:∀(vs:List Value) (ns:List Int),vs.length=ns.length->(∀(j:Nat) (v:Value) (n:Int),vs[j]?=some v->ns[j]?=some n->∃t:Tok,v=Value.int n t)->IntsAre vs ns
 |[],[],_,_=>.nil
 |[],_::_,h,_=>by cases h
 |_::_,[],h,_=>by cases h
 |v::vs,n::ns,h,k=>by obtain⟨t,rfl⟩:=k 0 v n rfl rfl;exact .cons n t (ET vs ns (by simpa using h) λ j v n a b=>k (j+1) v n (by simpa using a) (by simpa using b))
theorem uC{vs:List Value}{ns:List Int}(h:IntsAre vs ns):Vals (ns.map V.int) vs:=by
 induction h with
 |nil=>exact .nil
 |cons n t _ ih=>exact .cons ⟨t,rfl⟩ ih
theorem nV:∀{ns:List Int} {vs:List Value},Vals (ns.map V.int) vs->IntsAre vs ns
 |[],_,h=>by cases h;exact .nil
 |n::ns,_,h=>by obtain⟨u,us,rfl,ru,r⟩:=pM h;obtain⟨t,rfl⟩:=ru;exact .cons n t (nV r)
section
variable {X:Cx}
theorem uZ(hc:X.calm=true):di X (.builtin "sorted") (λ xs H Q=>∃(a:Addr) (kvs:List (Key×V)) (ns:List Int),xs=[.ref a]/\H a=some (.dK kvs)/\kvs.map (·.1)=ns.map Sum.inl/\ns.length < 64/\∀(iU:List Int) (p:Addr),iU.Perm ns->iU.Pairwise (·<=·)->H p=none->Q (.ref p) (upd H p (.lst (iU.map V.int)))):=by
 intro pins s σ H xs us Q I r ⟨a,kvs,ns,e,hd,hk,JQ,q⟩;subst e;obtain⟨u,rfl,rx⟩:=vals1 r;cases(show u=Value.ref a from rx);obtain⟨z,nm,vs,rel,dd⟩:=FE I.bh hd;obtain⟨ep,Oy⟩:=dd.dictAt;have len:vs.length=ns.length:=by rw[<- C7 rel];have:=J4 List.length hk;simpa using this
 refine call_function_entry kind_sorted plain_sorted entry_sorted (args_sorted1 _) ?_;unfold Builtin.«sorted»;refine G9 (m:=checkCount "sorted" 1 1 _) (H9 (G9 (kdu_collect (A:=X.A.in1) (kdl_dict (knd:=cB X.prog X.w) (kvs:=vs) (ep:=ep) nm) (show X.A.in1.handled=none from I.ok.hd hc) Oy (by rw[G6];omega) λ h' tk acc Vm lI=>?_)));have hl:acc.toList.length=ns.length:=by rw[m7,lI.1,len]
 have keys:vs.map (·.1)=ns.map Sum.inl:=by
  rw[<- hk];clear hk hd Oy dd lI len q z
  induction rel with
  |nil=>rfl
  |cons p _ ih=>rw[C9,C9,ih,p.1]
 have hI:IntsAre acc.toList ns:=ET _ _ hl λ j v n a b=>by
  obtain⟨k,x,e1,e2⟩:=lI.2 j v (by rw[<- k4];exact a);have e3:k=Sum.inl n:=by have:=J4 (λ l=>l[j]?) keys;simp only[s9,e1,b,Option.map_some,Option.some.injEq]at this;exact this
  subst e3;rcases bN (show nR (Sum.inl n) v=true from e2)with⟨i,t,h1,rfl⟩|⟨x,t,h1,rfl⟩
  ·cases h1;exact⟨t,rfl⟩
  ·cases h1
 refine G9 (wpAny_newList ?_ (by rw[hl,G6];omega));have JM:(h'.push (seqObj "list" acc.toList.toArray 0)).get? h'.objs.size=some (seqObj "list" acc.toList.toArray 0):=m8 _ rfl;refine G9 (C6 (y6 slot_list_sort ⟨_,JM,rfl⟩ entry_list_sort (list_sort_tree JM hI (by omega) λ out iU a1 a2 a3=>⟨_,rfl,?_⟩) (args_list_sort _)));refine H9 ⟨_,rfl,?_⟩;obtain⟨c,La⟩:=sortedHeap_at (out:=out) JM;have I0:Inv X pins σ H {s with heap:=h',toks:=tk}:=I.kept (t':=tk) Vm;have kp:∀b o,h'.get? b=some o->(sortedHeap (h'.push (seqObj "list" acc.toList.toArray 0)) h'.objs.size acc.toList out).get? b=some o:=λ b o e=>by rw[sortedHeap_old (D4 (D5 e)) (by rw[size_push'];exact x8 (D5 e))];exact j4 _ e
 exact⟨.ref h'.objs.size,_,I0.laid (t':=tk) kp (G5 _) (show bq X.prog X.w _ _ _ (.lst (iU.map V.int))from⟨by rw[B4,a2.length_eq,G6];omega,out.toList,c,uC a1,by rw[Array.toArray_toList];exact La⟩),rfl,q iU _ a2 a3 (I0.bh.fresh (G5 _))⟩
theorem uY:di X (.builtin "sorted") (λ xs H Q=>∃(a:Addr) (ns:List Int),xs=[.ref a]/\eW X.K H a (ns.map V.int)/\ns.length < 64/\∀(iU:List Int) (p:Addr),iU.Perm ns->iU.Pairwise (·<=·)->H p=none->Q (.ref p) (upd H p (.lst (iU.map V.int)))):=by intro pins s σ H xs us Q I r ⟨a,ns,e,hq,JQ,q⟩;subst e;obtain⟨u,rfl,rx⟩:=vals1 r;cases(show u=Value.ref a from rx);obtain⟨ax,r',pl,hz⟩:=I.list hq;have hI:=nV r';have hl:=r'.length;rw[B4]at hl;refine sorted_ints pl.isList hI (by omega) λ out iU a1 a2 a3=>?_;obtain⟨c,La⟩:=sortedAll_at s.heap ax out;exact⟨.ref (s.heap.objs.size+1),_,I.laid (t':=s.toks) (λ _ _=>sortedAll_old) (Nat.le_succ _) (show bq X.prog X.w _ _ _ (.lst (iU.map V.int))from⟨by rw[B4,a2.length_eq,G6];omega,out.toList,c,uC a1,by rw[Array.toArray_toList];exact La⟩),rfl,q iU _ a2 a3 (I.bh.fresh (Nat.le_succ _))⟩
end
end L2
namespace L3
open PySem PySem.Spec L2 L5 PyProof.Rows
def FN:List D->Mem->bK->Prop:=λ xs M Q=>∃(a:Addr) (ns:List Int),xs=[.ref a]/\((∃kvs,M a=some (.cL false kvs)/\kvs.map (·.1)=ns.map D.int)\/M a=some (.lst (ns.map D.int)))/\ns.length < 64/\∀(iU:List Int) (p:Addr),iU.Perm ns->iU.Pairwise (·<=·)->M p=none->Q (.ref p) (ah M p (.lst (iU.map D.int)))
theorem qh:∀{xs:List Key} {ns:List Int},xs.map iW=ns.map D.int->xs=ns.map Sum.inl
 |[],[],_=>rfl
 |[],_::_,h=>by cases h
 |_::_,[],h=>by cases h
 |x::xs,n::ns,h=>by
  rw[C9,C9,List.cons.injEq]at h;rw[C9,qh h.2];cases x with
  |inl i=>have:=h.1;simp only[iW,D.int.injEq]at this;rw[this]
  |inr i=>have:=h.1;simp[iW]at this
theorem Kl{X:Cx}(hc:X.calm=true):dE X (.builtin "sorted") FN:=⟨_,(uZ hc).or uY,λ xs ds H M Q2 Q hd hm q k=>by
 obtain⟨a,ns,rfl,hs,JQ,q⟩:=q;obtain⟨x,r,rfl,hx,hr⟩:=ag.mp hd;cases(ao.mp hr);cases(aE.mp hx);have fin:∀(iU:List Int) (p:Addr),iU.Perm ns->iU.Pairwise (·<=·)->H p=none->Q (.ref p) (upd H p (.lst (iU.map V.int))):=λ iU p a1 a2 hp=>k _ _ (.ref p) _ (aE.mpr rfl) (dR hp (iB iU) hm) (ar.laid hp) (q iU p a1 a2 (hm.free hp));rcases hs with⟨kvs,hM,hk⟩|hM
 ·obtain⟨ys,hy,rel⟩:=hm a _ hM;refine .inl ⟨a,ys,ns,rfl,hy,?_,JQ,fin⟩;refine qh ?_;rw[<- hk];clear hk hy hM q fin
  induction rel with
  |nil=>rfl
  |cons p _ ih=>rw[C9,C9,C9,ih,p.1]
 ·obtain⟨ys,hy,RJ⟩:=hm a _ hM;rw[jb RJ]at hy;exact .inr ⟨a,ns,rfl,eW.of hy,JQ,fin⟩⟩
theorem Ay{M:Mem}{a:Addr}{Q:bK}(ns:List Int)(h:M a=some (.lst (ns.map D.int)))(JQ:ns.length < 64)(q:∀(iU:List Int) (p:Addr),iU.Perm ns->iU.Pairwise (·<=·)->M p=none->Q (.ref p) (ah M p (.lst (iU.map D.int)))):FN [.ref a] M Q:=⟨a,ns,rfl,.inr h,JQ,q⟩
end L3
namespace L2
open PySem PySem.Spec PyProof.Rows
def TJ(lo:Int)(n:Nat):It:=⟨λ i _=>i < n,λ i H x H'=>H'=H/\x=.int (lo - i),λ i _=>n<=i⟩
theorem Ad{P:Program}{w:World}{K:J8}{tg:Expr}(it:Addr)(lo:Int)(n:Nat):Turn P w K tg (TJ lo n) [it] it (λ i h=>IsRangeIter h it (lo+(i:Nat)*(-1)) ((n:Int) - (i:Nat)) (-1)) where
 mem:=by simp
 obj:=λ i h st b hb=>by
  have e:b=it:=by simpa using hb
  subst e;exact⟨_,st,λ v z=>by
   have z':Data.fields _=Data.cell v:=z;cases z'⟩
 keep:=λ i h h' st k=>k it (by simp) _ st
 item:=by intro X hP hw hK hc i pins s σ H E I hf st hg;subst hP hw hK;obtain⟨f0,f1,f2,f3,f4,f5⟩:=hf it (by simp);have W:=Walks.range (prog:=X.prog) (w:=X.w) (I.ok.hd hc) it lo (-1) n;refine W.item i s _ _ hg st λ v h' tk hv jj kk=>?_;obtain⟨t,rfl⟩:=hv;have I1:Inv X pins σ H {s with heap:=h',toks:=tk}:=I.turned (λ b o hb e=>kk b o (by simpa using hb) e) f0 f1 f3 f4 f5;refine⟨_,rfl,uF (s:={s with heap:=h',toks:=tk}) (n:="range_iterator") jj rfl rfl (by decide) ⟨.int (lo - i),H,I1,⟨t,?_⟩,⟨rfl,rfl⟩,jj,λ b hb=>(hf b hb).1⟩⟩;rw[Int.mul_neg,Int.mul_one,<- Int.sub_eq_add_neg]
 done:=by intro X hP hw hK hc i pins s σ H E I hf st hg;subst hP hw hK;obtain⟨f0,f1,f2,f3,f4,f5⟩:=hf it (by simp);exact wpAny_pyNext_range_end (I.ok.hd hc) st (by have:n<=i:=hg;omega) λ h' eb=>⟨rfl,I.turned (t':=s.toks) (λ b o hb e=>eb b o hb e) f0 f1 f3 f4 f5⟩
 self:=λ _ _ _ _ _ st h=>wpAny_pyIter_rangeiter st h
section
variable {X:Cx}{tg:Expr}
theorem pY(a b:Int):Builtin.Range.rangeSize a b (-1)=((a - b).toNat:Int):=by unfold Builtin.Range.rangeSize;rw[J7 (by decide)];simp only[Int.neg_neg,Int.ediv_one];split <;> omega
theorem small_down{a b:Int}(ha: -(2^62)<=a)(ha':a < 2^62)(hb: -(2^62)<=b)(hb':b < 2^62):Builtin.Range.small a b (-1)=true:=by
 unfold Builtin.Range.small;rw[pY];have e:(((a - b).toNat:Nat):Int)=if a - b<=0 then 0 else a - b:=by split <;> omega
 rw[e];simp only[Builtin.Range.rangeFitsLong,y7,Bool.or_eq_true,u6,beq_iff_eq,show ¬(-1:Int) > 0 by decide,J3];split <;> omega
theorem J9{pins:List (Addr×Obj)}{σ:St}{H:Hp}{s:Shared}{R:It->Hp->Prop}{E:Value->Shared->Prop}{lo hi:Int}{t u v:Tok}{tk:Nat}(I:Inv X pins σ H s)(h1: -(2^62)<=lo)(h2:lo < 2^62)(h3: -(2^62)<=hi)(h4:hi < 2^62) (q:R (TJ lo (lo - hi).toNat) H):wpAny (model X.prog X.w) X.A (pyIter (.ref s.heap.objs.size)) (V1 X pins σ tg R) E {s with heap:=s.heap.push {cls:=.type "range",data:=.fields #[.int lo t,.int hi u,.int (-1) v]},toks:=tk}:=by
 refine wpAny_pyIter_range (IsRange.new ..) (small_down h1 h2 h3 h4) ?_;have I1:Inv X pins σ H {s with heap:=s.heap.push {cls:=.type "range",data:=.fields #[.int lo t,.int hi u,.int (-1) v]},toks:=tk}:=I.kept λ b o e=>j4 _ e;refine⟨(s.heap.push {cls:=.type "range",data:=.fields #[.int lo t,.int hi u,.int (-1) v]}).objs.size,[(s.heap.push {cls:=.type "range",data:=.fields #[.int lo t,.int hi u,.int (-1) v]}).objs.size],_,_,H,rfl,
  I1.kept (t':=tk) λ b o e=>j4 _ e,Ad _ lo (lo - hi).toNat,?_,λ b hb=>?_,q⟩
 ·have e1:lo+((0:Nat):Int)*(-1)=lo:=by simp
  have e2:(((lo - hi).toNat:Nat):Int) - ((0:Nat):Int)=Builtin.Range.rangeSize lo hi (-1):=by rw[pY];omega
  show IsRangeIter _ _ (lo+((0:Nat):Int)*(-1)) ((((lo - hi).toNat:Nat):Int) - ((0:Nat):Int)) (-1);rw[e1,e2];exact m8 _ rfl
 ·have e:b=(s.heap.push {cls:=.type "range",data:=.fields #[.int lo t,.int hi u,.int (-1) v]}).objs.size:=by simpa using hb
  subst e;exact I1.kR (G5 _) (I1.bh.fresh (G5 _))
def Rt(ta:TA):TI:=λ σ H R=>ta σ H λ vs H1=>∃i j:Int,vs=[.int i,.int j,.int (-1)]/\(-1000000000<=i/\i<=1000000000/\-1000000000<=j/\j<=1000000000)/\R (TJ i (i - j).toNat) H1
theorem IH{a b c:Expr}{ta:TA}{p pos:Pos}(hg:Gl X "range")(hm:X.mg "range"=none)(ha:PA X [a,b,c] ta)(hs:starEach [a,b,c] X.env=[(false,eval a X.env),(false,eval b X.env),(false,eval c X.env)]:=by rfl)(hs2:starEach [b,c] X.env=[(false,eval b X.env),(false,eval c X.env)]:=by rfl):PI X tg (.Call (.Name "range" p) [a,b,c] [] pos) (Rt ta):=by
 intro pins s σ H R I h;refine Call_ (fj I hg hm boot_range (a8 (cT (ha pos pins s σ H _ I h) λ us s1 ⟨vs,H1,I1,r1,q1⟩=>?_) (by rw[hs,hs2]) (by rw[hs2];rfl)));obtain⟨i,j,e,⟨q1,q2,q3,q4⟩,q⟩:=q1;subst e;cases r1 with
 |cons r rr=>
  cases rr with
  |cons r' rr=>
   cases rr with
   |cons Uo rr=>cases rr;obtain⟨t,rfl⟩:=r;obtain⟨t',rfl⟩:=r';obtain⟨t'',rfl⟩:=Uo;exact call_range_3 (by decide) (J9 I1 (by omega) (by omega) (by omega) (by omega) q) (Or.inl (PyProof.noPylong_small (by omega)))
end
end L2
namespace L3
open PySem PySem.Spec L2 L5 PyProof.Rows
def lr(lo:Int)(n:Nat):List D:=(List.range n).map λ i=>D.int (lo - (i:Nat))
theorem kU(lo:Int)(n:Nat):(lr lo n).length=n:=by simp[lr]
theorem qy{lo:Int}{n i:Nat}(h:i < n):(lr lo n)[i]?=some (.int (lo - (i:Nat))):=by simp[lr,h]
theorem FD{lo:Int}{n i:Nat}{d:D}(h:(lr lo n)[i]?=some d):i < n/\d=.int (lo - (i:Nat)):=by
 have hi:i < n:=by have:=(g9.mp h).1;rw[kU]at this;exact this
 rw[qy hi]at h;exact⟨hi,(A9 h).symm⟩
theorem Bb{K:J8}{H1:Hp}{lo:Int}{n:Nat}:sF K H1 (TJ lo n) (.fix (lr lo n)):=λ H M ds t hm e=>by cases e;rw[kU];refine⟨λ i hi=>hi,λ i hi=>E5 hi.symm,λ i x H' hi y=>?_⟩;obtain⟨e,rfl⟩:=y;subst e;exact⟨ar.refl _,hm,_,qy hi,au.mpr rfl⟩
section
variable {X:Cx}{tg:Expr}{ta:eO}{a b c:Expr}{p pos:Pos}
def ED(ta:eO):qG:=λ δ M R=>ta δ M λ ds M1=>∃i j:Int,ds=[.int i,.int j,.int (-1)]/\(-1000000000<=i/\i<=1000000000/\-1000000000<=j/\j<=1000000000)/\R (.fix (lr i (i - j).toNat)) M1
theorem AB(hg:Gl X "range")(hm:X.mg "range"=none)(ha:QA X [a,b,c] ta)(hs:starEach [a,b,c] X.env=[(false,eval a X.env),(false,eval b X.env),(false,eval c X.env)]:=by rfl)(hs2:starEach [b,c] X.env=[(false,eval b X.env),(false,eval c X.env)]:=by rfl):QI X tg (.Call (.Name "range" p) [a,b,c] [] pos) (ED ta):=ym (IH hg hm ha hs hs2) λ σ H R ⟨δ,M,R2,hs,hm,q,k⟩=>by refine⟨δ,M,_,hs,hm,q,λ xs H1 ds M1 hd bQ t1 q1=>?_⟩;obtain⟨i,j,rfl,hb,q1⟩:=q1;obtain⟨x,r,rfl,hx,hr⟩:=ag.mp hd;obtain⟨y,r2,rfl,hy,BM⟩:=ag.mp hr;obtain⟨z,r3,rfl,hz,U8⟩:=ag.mp BM;cases(ao.mp U8);cases(au.mp hx);cases(au.mp hy);cases(au.mp hz);exact⟨i,j,rfl,hb,k _ H1 _ M1 Bb bQ t1 q1⟩
end
end L3
namespace L4
open PySem PySem.Spec L2 L3
theorem zY{X:Cx}{tg:Expr}{ta:eO}{a b c:Expr}{p pos:Pos}(hg:Gl X "range")(hm:X.mg "range"=none)(ha:WA X [a,b,c] ta)(hs:starEach [a,b,c] X.env=[(false,eval a X.env),(false,eval b X.env),(false,eval c X.env)]:=by rfl)(hs2:starEach [b,c] X.env=[(false,eval b X.env),(false,eval c X.env)]:=by rfl):WI X tg (.Call (.Name "range" p) [a,b,c] [] pos) (ED ta):=⟨AB (hg:=hg) (hm:=hm) ha.h (hs:=hs) (hs2:=hs2)⟩
theorem HL{ta:eO}{δ:cS}{M:Mem}{R:Src->Mem->Prop}(h:ta δ M λ ds M1=>∃i j:Int,ds=[.int i,.int j,.int (-1)]/\(-1000000000<=i/\i<=1000000000/\-1000000000<=j/\j<=1000000000)/\R (.fix (lr i (i - j).toNat)) M1):ED ta δ M R:=h
end L4
namespace L4
open PySem L2 L3
theorem Wo{A:Type}{P:List A->Prop}{n:Nat}(h:∀a t,t.length=n->P (a::t)):∀us:List A,us.length=n+1->P us
 |[],e=>nomatch e
 |a::t,e=>h a t (Nat.succ.inj e)
theorem X7{A:Type}{P:List A->Prop}(h:∀a,P [a]):∀us:List A,us.length=1->P us:=Wo λ a t e=>by rw[a7 e];exact h a
theorem ln2{A:Type}{P:List A->Prop}(h:∀a b,P [a,b]):∀us:List A,us.length=2->P us:=Wo λ a=>X7 (P:=λ t=>P (a::t)) (h a)
end L4
namespace L2
open PySem PySem.Spec PyProof.Rows
section
variable {X:Cx}
def vW(lo:Int)(n:Nat):List V:=(List.range n).map λ(i:Nat)=>V.int (lo+(i:Int))
theorem Au{lo:Int}{n:Nat}{acc:Array Value}(h:ItemsOf (λ i v=>∃t,v=Value.int (lo+(i:Int)*1) t) acc n):Vals (vW lo n) acc.toList:=by
 obtain⟨hl,hv⟩:=h;have go:∀(m:Nat) (vs:List Value) (k:Nat),vs.length=m->(∀j v,vs[j]?=some v->∃t,v=Value.int (lo+((k+j:Nat):Int)) t)->Vals ((List.range' k m).map λ(i:Nat)=>V.int (lo+(i:Int))) vs:=by
  intro m
  induction m with
  |zero=>intro vs k hl _;rw[a7 hl];exact .nil
  |succ m ih=>
   intro vs k hl hv;cases vs with
   |nil=>cases hl
   |cons v vs=>rw[range'_succ,C9];obtain⟨t,rfl⟩:=hv 0 v rfl;refine .cons ⟨t,by simp⟩ (ih vs (k+1) (by simpa using hl) λ j u hj=>?_);obtain⟨t,e⟩:=hv (j+1) u (by simpa using hj);refine⟨t,?_⟩;rw[e];congr 1;omega
 have:=go n acc.toList 0 (by simpa using hl) (λ j v hj=>by
  obtain⟨t,e⟩:=hv j v (by simpa using hj);refine⟨t,?_⟩;rw[e,E4,Int.mul_one])
 rw[<- range_eq_range']at this;exact this
theorem Bu:di X (.type "range") (λ xs H Q=>∃i j:Int,xs=[.int i,.int j]/\∀r,H r=none->Q (.ref r) (upd H r (.L_ i j))):=by intro pins s σ H xs us Q I rr ⟨i,j,e,q⟩;subst e;obtain⟨u,u2,rfl,⟨t,rfl⟩,⟨t2,rfl⟩⟩:=vals2 rr;refine call_range_2 ⟨.ref s.heap.objs.size,_,I.laid (t':=s.toks+1) (o:=.L_ i j) (λ b o e=>j4 _ e) (G5 _) ⟨_,_,_,m8 _ rfl⟩,rfl,q _ (I.bh.fresh (G5 _))⟩
end
end L2
namespace L3
open PySem PySem.Spec PyProof.Rows L2
section
variable {X:Cx}{a:Expr}{ta:eO}{p p2 pos cW:Pos}
theorem FK{K:J8}{H:Hp}(lo:Int)(n:Nat):aA K H (cR lo n) (vW lo n):=by
 unfold cR vW;generalize List.range n=l
 induction l with
 |nil=>exact ao.mpr rfl
 |cons x l ih=>exact ag.mpr ⟨_,_,rfl,au.mpr rfl,ih⟩
end
end L3
namespace L2
open PySem PySem.Spec PyProof.Rows L5
open PySem.AutoSeq1 (wpAny_loadPart')
section
variable {prog:Program}{w:World}{A:Around}{E:Value->Shared->Prop}{s:Shared}{T1 T2:String}{S1 S2:Heap->Addr->Array Value->Prop}
theorem eY{M:Model}{a:Addr}{Q:Option Obj->Shared->Prop}(h:Q (s.heap.get? a) s):wpAny M A (loadIfAlive a) Q E s:=λ Γ p hΓ=>by unfold loadIfAlive;simp only[Sem.wp_loadIfAlive];exact H9 h Γ p hΓ
abbrev gY(h:Heap)(z u v r:Addr)(f1:Bool):Prop:=h.get? z=some {cls:=.type "zip",dict:=none,data:=.fields #[rawInt r,.bool f1,.bool false,.ref u,.ref v],slots:=#[]}
end
end L2
namespace L2
open PySem PySem.Spec PyProof.Rows L5
open PySem.AutoSeq1 (wpAny_loadPart')
theorem vD:typeLookup (.type "zip") "__len__"=pure none:=by rw[typeLookup_type,builtinLookup_eq_fast];kernel_rfl
theorem sR:typeLookup (.type "zip") "__length_hint__"=pure none:=by rw[typeLookup_type,builtinLookup_eq_fast];kernel_rfl
end L2
namespace L2
open PySem PySem.Spec PyProof.Rows L5
section
variable {X:Cx}{e1 e2:Expr}{ta:TA}{p p2 pos cW:Pos}
theorem sY:∀ps:List Addr,Vals (ps.map V.ref) (ps.map Value.ref)
 |[]=>.nil
 |p::ps=>.cons rfl (sY ps)
end
end L2
namespace L3
open PySem PySem.Spec PyProof.Rows L2 L5
theorem vR{K:J8}{H:Hp}{M:Mem}{d:D}{xs:List D}{v:V}(hm:RelM K H M)(e:cE M d=some xs)(hd:Dat K H d v):∃(b:Bool) (l:Addr) (xv:List V),v=.ref l/\Sq b K H l xv/\aA K H xs xv:=by
 obtain⟨p,xv,rfl,h1,h2⟩:=gA e hd hm;cases h1 with
 |inl h1=>exact⟨false,p,xv,rfl,h1,h2⟩
 |inr h1=>exact⟨true,p,xv,rfl,h1,h2⟩
end L3
namespace L5
open PySem L2
structure Sr where
 a:Addr
 l:Addr
 k:Bool
 xs:Array Value
def Sr.on (q:Sr)(h:Heap)(i:Nat):Prop:=match q.k with
 |true=>lO "tuple_iterator" h q.a q.l i/\Heap.IsTuple h q.l q.xs
 |false=>lO "list_iterator" h q.a q.l i/\Heap.IsList h q.l q.xs
theorem Sr.keep {q:Sr}{h h':Heap}{i:Nat}(x:q.on h i)(k1:∀o,h.get? q.a=some o->h'.get? q.a=some o)(k2:∀o,h.get? q.l=some o->h'.get? q.l=some o):q.on h' i:=by
 unfold Sr.on at x ⊢;split at x
 ·exact⟨x.1.keep k1,gL.keep x.2 k2⟩
 ·exact⟨x.1.keep k1,jJ.keep x.2 k2⟩
structure Ap(qs:List Sr):Prop where
 nd:(qs.map (·.a)).Nodup
 la:∀q∈qs,∀r∈qs,q.l≠r.a
theorem Ap.tail {q:Sr}{qs:List Sr}(D:Ap (q::qs)):Ap qs:=⟨(nodup_cons.mp D.nd).2,λ a ha b hb=>D.la a (.tail _ ha) b (.tail _ hb)⟩
theorem Ap.ne {q r:Sr}{qs:List Sr}(D:Ap (q::qs))(h:r∈qs):r.a≠q.a:=λ e=>(nodup_cons.mp D.nd).1 (by show q.a∈_;rw[<- e];exact List.mem_map_of_mem (f:=λ x:Sr=>x.a) h)
abbrev rowAt(qs:List Sr)(i:Nat):List Value:=qs.map λ q=>q.xs.getD i .none
section
variable {prog:Program}{w:World}{A:Around}{E:Value->Shared->Prop}{s:Shared}{i:Nat}
set_option tactic.hygienic true in
theorem Sr.item {q:Sr}{Q:Value->Shared->Prop}(x:q.on s.heap i)(lt:i < q.xs.size)(n:q.l≠q.a) (k:∀h',q.on h' (i+1)->Heap.SameBut q.a s.heap h'->Q (q.xs.getD i .none) {s with heap:=h'}):wpAny (model prog w) A (Builtin.SmallTypes.nextOf (.ref q.a)) Q E s:=by
 have e:q.xs[i]?=some (q.xs.getD i .none):=by rw[g0 lt,Array.getD_eq_getD_getElem?,g0 lt];rfl
 unfold Sr.on at x;split at x
 ·rename_i hk;exact gL.item x.1 x.2 e λ h' a s'=>k h' (by unfold Sr.on;rw[hk];exact⟨a,gL.keep x.2 λ o e=>s'.extBut _ _ n e⟩) s'
 ·rename_i hk;exact jJ.item x.1 x.2 e λ h' a s'=>k h' (by unfold Sr.on;rw[hk];exact⟨a,jJ.keep x.2 λ o e=>s'.extBut _ _ n e⟩) s'
theorem Sr.stop {q:Sr}{Q:Value->Shared->Prop}(hA:A.handled=none)(x:q.on s.heap i)(ge:q.xs.size<=i) (k:∀h' e,Heap.ExtBut q.a s.heap h'->(∃o,h'.get? e=some o/\o.cls=.type "StopIteration")->E (.ref e) {s with heap:=h'}):wpAny (model prog w) A (Builtin.SmallTypes.nextOf (.ref q.a)) Q E s:=by
 have e:q.xs[i]?=none:=j3 ge;unfold Sr.on at x;split at x
 ·exact gL.stop hA x.1 x.2 e k
 ·exact jJ.stop hA x.1 x.2 e k
theorem uK{σ:Type}{b:Value->σ->Sem (ForInStep σ)}{mk:Array Value->σ}(hb:∀(a:Addr) (acc:Array Value) (s:Shared) (Q:ForInStep σ->Shared->Prop),wpAny (model prog w) A (Builtin.SmallTypes.nextOf (.ref a)) (λ x s'=>Q (.yield (mk (acc.push x))) s') E s->wpAny (model prog w) A (b (.ref a) (mk acc)) Q E s):∀(qs:List Sr) (acc:Array Value) (s:Shared) (Q:σ->Shared->Prop),Ap qs->(∀q∈qs,q.on s.heap i)->(∀q∈qs,i < q.xs.size)->
   (∀h',(∀q∈qs,q.on h' (i+1))->h'.objs.size=s.heap.objs.size->(∀f o,(∀q∈qs,f≠q.a)->s.heap.get? f=some o->h'.get? f=some o)->Q (mk (acc++(rowAt qs i).toArray)) {s with heap:=h'})->
   wpAny (model prog w) A (forIn (qs.map λ q=>Value.ref q.a) (mk acc) b) Q E s
 |[],acc,s,Q,D,hq,lt,k=>by have:=k s.heap (λ q h=>nomatch h) rfl λ f o _ e=>e;simp only[rowAt,map_nil,Array.append_empty]at this;exact H9 this
 |q::qs,acc,s,Q,D,hq,lt,k=>by
  have nl:=D.la q (.head _) q (.head _);rw[C9,forIn_cons];refine G9 (hb _ _ _ _ (Sr.item (hq q (.head _)) (lt q (.head _)) nl λ h1 o1 s1=>?_));refine uK hb qs _ _ _ D.tail (λ r hr=>Sr.keep (hq r (.tail _ hr)) (λ o e=>s1.extBut _ _ (D.ne hr) e) λ o e=>s1.extBut _ _ (D.la r (.tail _ hr) q (.head _)) e) (λ r hr=>lt r (.tail _ hr)) λ h2 o2 z2 k2=>?_;have:=k h2 (λ r hr=>?_) (z2.trans s1.1) λ f o nf e=>k2 f o (λ r hr=>nf r (.tail _ hr)) (s1.extBut _ _ (nf q (.head _)) e)
  ·rw[show acc.push (q.xs.getD i Value.none)++(rowAt qs i).toArray=acc++(rowAt (q::qs) i).toArray by simp[rowAt]];exact this
  ·rcases D1.mp hr with e|hr
   ·subst e;exact Sr.keep o1 (λ o e=>k2 _ o (λ t ht=>(D.ne ht).symm) e) λ o e=>k2 _ o (λ t ht=>D.la r (.head _) t (.tail _ ht)) e
   ·exact o2 r hr
theorem oh{σ:Type}{b:Value->σ->Sem (ForInStep σ)}{mk:Array Value->σ}(hb:∀(a:Addr) (acc:Array Value) (s:Shared) (Q:ForInStep σ->Shared->Prop),wpAny (model prog w) A (Builtin.SmallTypes.nextOf (.ref a)) (λ x s'=>Q (.yield (mk (acc.push x))) s') E s->wpAny (model prog w) A (b (.ref a) (mk acc)) Q E s)(hA:A.handled=none):∀(qs:List Sr) (acc:Array Value) (s:Shared) (Q:σ->Shared->Prop),Ap qs->(∀q∈qs,q.on s.heap i)->(∃q∈qs,q.xs.size<=i)->
   (∀h' e,(∀f o,(∀q∈qs,f≠q.a)->s.heap.get? f=some o->h'.get? f=some o)->(∃o,h'.get? e=some o/\o.cls=.type "StopIteration")->E (.ref e) {s with heap:=h'})->
   wpAny (model prog w) A (forIn (qs.map λ q=>Value.ref q.a) (mk acc) b) Q E s
 |[],acc,s,Q,D,hq,ge,k=>by obtain⟨q,h,_⟩:=ge;cases h
 |q::qs,acc,s,Q,D,hq,ge,k=>by
  have nl:=D.la q (.head _) q (.head _);rw[C9,forIn_cons];by_cases lt:i < q.xs.size
  ·refine G9 (hb _ _ _ _ (Sr.item (hq q (.head _)) lt nl λ h1 o1 s1=>?_));refine oh hb hA qs _ _ _ D.tail (λ r hr=>Sr.keep (hq r (.tail _ hr)) (λ o e=>s1.extBut _ _ (D.ne hr) e) λ o e=>s1.extBut _ _ (D.la r (.tail _ hr) q (.head _)) e) ?_ λ h2 e k2 oe=>?_
   ·obtain⟨r,hr,z⟩:=ge;rcases D1.mp hr with e|hr
    ·subst e;exact absurd lt (Nat.not_lt.mpr z)
    ·exact⟨r,hr,z⟩
   ·exact k h2 e (λ f o nf e=>k2 f o (λ r hr=>nf r (.tail _ hr)) (s1.extBut _ _ (nf q (.head _)) e)) oe
  ·refine G9 (hb _ _ _ _ (Sr.stop hA (hq q (.head _)) (y0 lt) λ h1 e s1 oe=>k h1 e (λ f o nf z=>s1 _ _ (nf q (.head _)) z) oe))
end
end L5
namespace L5
open PySem L2
abbrev fL(h:Heap)(T:Addr)(vs:List Value):Prop:=h.get? T=some {cls:=.type "tuple",data:=.seq vs.toArray}
structure Zn(z u v:Addr)(qs:List Sr):Prop where
 ap:Ap qs
 uz:u≠z
 vz:v≠z
 uv:u≠v
 s:∀q∈qs,q.a≠z/\q.a≠u/\q.a≠v/\q.l≠z/\q.l≠v
section
variable {prog:Program}{w:World}{A:Around}{E:Value->Shared->Prop}{s:Shared}{i:Nat}{z u v:Addr}{qs:List Sr}
theorem Zn.kz (D:Zn z u v qs){h h':Heap}(s1:Heap.SameBut z h h')(hq:∀q∈qs,q.on h i):∀q∈qs,q.on h' i:=λ q h=>Sr.keep (hq q h) (λ o e=>s1.extBut _ _ (D.s q h).1 e) λ o e=>s1.extBut _ _ (D.s q h).2.2.2.1 e
theorem xA{σ:Type}{b:Value->σ->Sem (ForInStep σ)}{mk:Array Value->σ}{c:σ->Sem PySem.Fin}{r:Addr}{Q:Value->Shared->Prop}{s0:Shared}(D:Zn z u v qs)(cI:qs.length<=100) (hb:∀(a:Addr) (acc:Array Value) (s:Shared) (Q:ForInStep σ->Shared->Prop),wpAny (model prog w) A (Builtin.SmallTypes.nextOf (.ref a)) (λ x s'=>Q (.yield (mk (acc.push x))) s') E s->wpAny (model prog w) A (b (.ref a) (mk acc)) Q E s) (hc:∀acc,c (mk acc)=newTuple acc.toList >>= ret) (hz:gY s.heap z u v r true) (e0:Heap.SameBut z s0.heap s.heap) (e1:s={s0 with heap:=s.heap}) (hq:∀q∈qs,q.on s0.heap i) (lt:∀q∈qs,i < q.xs.size) (k:∀h',gY h' z u v r true->(∀q∈qs,q.on h' (i+1))->fL h' s0.heap.objs.size (rowAt qs i)->h'.objs.size=s0.heap.objs.size+1->
   (∀f o,f≠z->(∀q∈qs,f≠q.a)->s0.heap.get? f=some o->h'.get? f=some o)->Q (.ref s0.heap.objs.size) {s0 with heap:=h'}):
  wpAny (model prog w) A (forIn (qs.map λ q=>Value.ref q.a) (mk #[]) b >>= c) (λ fin s'=>∃v,fin=.done (.ret v)/\Q v s') E s:=by
 refine G9 (uK hb qs #[] s _ D.ap (D.kz e0 hq) lt λ h' o' z' k'=>?_);rw[hc];have z2:gY h' z u v r true:=k' _ _ (λ q h=>(D.s q h).1.symm) hz;have e:(#[]++(rowAt qs i).toArray).toList=rowAt qs i:=by simp
 rw[e];refine G9 (wpAny_newTuple ?_ (by show(rowAt qs i).length<=sizeLine;rw[B4];exact D8 cI (by decide)));refine H9 ⟨_,rfl,?_⟩;have ez:h'.objs.size=s0.heap.objs.size:=z'.trans e0.1;have up:∀f o,h'.get? f=some o->(h'.push {cls:=.type "tuple",data:=.seq (rowAt qs i).toArray}).get? f=some o:=λ f o e=>j4 _ e;have t4:fL (h'.push {cls:=.type "tuple",data:=.seq (rowAt qs i).toArray}) h'.objs.size (rowAt qs i):=m8 _ rfl;rw[ez]at t4;have:=k _ (up _ _ z2) (λ q h=>Sr.keep (o' q h) (λ o e=>up _ o e) λ o e=>up _ o e) t4 (by rw[C4,ez]) λ f o n1 n2 e=>up f o (k' f o n2 (e0.extBut _ _ n1 e));show Q (.ref h'.objs.size) {s with heap:=_};rw[ez,e1];exact this
theorem GK{r:Addr}{f1:Bool}{o:Obj}{Q:Value->Shared->Prop}(D:Zn z u v qs)(eZ:qs≠[])(cI:qs.length<=100)(hz:gY s.heap z u v r f1)(hr:s.heap.get? r=some o)(hu:fL s.heap u (qs.map λ q=>.ref q.a))(hq:∀q∈qs,q.on s.heap i)(lt:∀q∈qs,i < q.xs.size) (k:∀h',gY h' z u v r true->(∀q∈qs,q.on h' (i+1))->fL h' s.heap.objs.size (rowAt qs i)->h'.objs.size=s.heap.objs.size+1->
   (∀f o,f≠z->(∀q∈qs,f≠q.a)->s.heap.get? f=some o->h'.get? f=some o)->Q (.ref s.heap.objs.size) {s with heap:=h'}):
  wpAny (model prog w) A (Builtin.«zip.__next__» ⟨[.ref z],[]⟩) (λ fin s'=>∃v,fin=.done (.ret v)/\Q v s') E s:=by
 refine G9 (m:=field (.ref z) 2) (G8 hz rfl (x:=.bool false) rfl ?_);refine G9 (m:=field (.ref z) 3) (G8 hz rfl (x:=.ref u) rfl ?_);refine G9 (C3 hu rfl ?_);have em:(qs.map λ q=>Value.ref q.a).toArray.isEmpty=false:=by cases qs with|nil=>exact absurd rfl eZ|cons q qs=>rfl
 simp only[em];refine G9 (m:=Builtin.SmallTypes.ownedTupleIsFree (.ref z)) ?_;unfold Builtin.SmallTypes.ownedTupleIsFree;refine G9 (m:=field (.ref z) 0) (G8 hz rfl (x:=rawInt r) rfl ?_);show wpAny _ _ (loadIfAlive (r:Int).toNat >>= _) _ _ _;rw[u7];refine G9 (eY ?_);rw[hr];show wpAny _ _ (field (.ref z) 1 >>= _) _ _ _;refine G9 (m:=field (.ref z) 1) (G8 hz rfl (x:=.bool f1) rfl ?_);cases f1 with
 |false=>
  refine G9 (p4 hz (by simp) λ g1 z1 s1=>?_);refine H9 ?_;rw[J7 (by decide)];rw[List.forIn_toArray];refine xA (mk:=λ acc=>((none,acc):Option PySem.Fin×Array Value)) (s0:=s) (s:={s with heap:=g1}) (r:=r) D cI ?_ ?_ z1 s1 rfl hq lt k
  rotate_left
  ·intro acc;rfl
  intro a acc s Q h;exact G9 (C6 (G9 (J1 h (λ x s' h'=>H9 (H9 h')) λ _ _ e=>e)))
 |true=>
  refine H9 ?_;rw[J7 (by decide)];rw[List.forIn_toArray];refine xA (mk:=λ acc=>((none,acc):Option PySem.Fin×Array Value)) (s0:=s) (s:=s) (r:=r) D cI ?_ ?_ hz ⟨rfl,λ _ _=>rfl⟩ rfl hq lt k
  rotate_left
  ·intro acc;rfl
  intro a acc s Q h;exact G9 (C6 (G9 (J1 h (λ x s' h'=>H9 (H9 h')) λ _ _ e=>e)))
theorem sQ{r:Addr}{f1:Bool}{o:Obj}{Q:PySem.Fin->Shared->Prop}(hA:A.handled=none)(D:Zn z u v qs)(hz:gY s.heap z u v r f1)(hr:s.heap.get? r=some o)(hu:fL s.heap u (qs.map λ q=>.ref q.a))(hq:∀q∈qs,q.on s.heap i)(ge:∃q∈qs,q.xs.size<=i)
  (k:∀h' e,(∀f o,f≠z->(∀q∈qs,f≠q.a)->s.heap.get? f=some o->h'.get? f=some o)->(∃o,h'.get? e=some o/\o.cls=.type "StopIteration")->E (.ref e) {s with heap:=h'}):
  wpAny (model prog w) A (Builtin.«zip.__next__» ⟨[.ref z],[]⟩) Q E s:=by
 refine G9 (m:=field (.ref z) 2) (G8 hz rfl (x:=.bool false) rfl ?_);refine G9 (m:=field (.ref z) 3) (G8 hz rfl (x:=.ref u) rfl ?_);refine G9 (C3 hu rfl ?_);have em:(qs.map λ q=>Value.ref q.a).toArray.isEmpty=false:=by
  cases qs with
  |nil=>obtain⟨q,h,_⟩:=ge;cases h
  |cons q qs=>rfl
 simp only[em];refine G9 (m:=Builtin.SmallTypes.ownedTupleIsFree (.ref z)) ?_;unfold Builtin.SmallTypes.ownedTupleIsFree;refine G9 (m:=field (.ref z) 0) (G8 hz rfl (x:=rawInt r) rfl ?_);show wpAny _ _ (loadIfAlive (r:Int).toNat >>= _) _ _ _;rw[u7];refine G9 (eY ?_);rw[hr];show wpAny _ _ (field (.ref z) 1 >>= _) _ _ _;refine G9 (m:=field (.ref z) 1) (G8 hz rfl (x:=.bool f1) rfl ?_);cases f1 with
 |false=>refine G9 (p4 hz (by simp) λ g1 z1 s1=>?_);refine H9 ?_;rw[J7 (by decide)];rw[List.forIn_toArray];refine G9 (oh (mk:=λ acc=>((none,acc):Option PySem.Fin×Array Value)) ?_ hA qs #[] {s with heap:=g1} _ D.ap (D.kz s1 hq) ge λ h' e kp oe=>k h' e (λ f o n1 n2 e=>kp f o n2 (s1.extBut _ _ n1 e)) oe);intro a acc s Q h;exact G9 (C6 (G9 (J1 h (λ x s' h'=>H9 (H9 h')) λ _ _ e=>e)))
 |true=>refine H9 ?_;rw[J7 (by decide)];rw[List.forIn_toArray];refine G9 (oh (mk:=λ acc=>((none,acc):Option PySem.Fin×Array Value)) ?_ hA qs #[] s _ D.ap hq ge λ h' e kp oe=>k h' e (λ f o n1 n2 e=>kp f o n2 e) oe);intro a acc s Q h;exact G9 (C6 (G9 (J1 h (λ x s' h'=>H9 (H9 h')) λ _ _ e=>e)))
theorem yo{σ:Type}{b:Value×Nat->σ->Sem (ForInStep σ)}{st:σ}(hb:∀(a:Addr) (j:Nat) (cs:List Value) (s:Shared) (Q:ForInStep σ->Shared->Prop),(∃o,s.heap.get? z=some o)->wpAny (model prog w) A (Builtin.SmallTypes.nextOf (.ref a)) (λ x s'=>∃cs:List Value,cs.length<=100/\fL s'.heap v cs/\∀h',fL h' v (cs.set j x)->Heap.SameBut v s'.heap h'->Q (.yield st) {s' with heap:=h'}) (λ _ _=>False) s->wpAny (model prog w) A (b (.ref a,j) st) Q E s):∀(rs:List Sr) (j:Nat) (cs:List Value) (s:Shared) (Q:σ->Shared->Prop),Ap rs->(∀q∈rs,q.a≠v/\q.l≠v/\q.a≠z)->fL s.heap v cs->cs.length<=100->j+rs.length<=cs.length->(∃o,s.heap.get? z=some o)->(∀q∈rs,q.on s.heap i)->(∀q∈rs,i < q.xs.size)->v≠z->
   (∀h',(∀q∈rs,q.on h' (i+1))->h'.objs.size=s.heap.objs.size->fL h' v (cs.take j++rowAt rs i++cs.drop (j+rs.length))->(∀f o,f≠v->(∀q∈rs,f≠q.a)->s.heap.get? f=some o->h'.get? f=some o)->Q st {s with heap:=h'})->
   wpAny (model prog w) A (forIn ((rs.map λ q=>Value.ref q.a).zipIdx j) st b) Q E s
 |[],j,cs,s,Q,D,ne,hv,cI,hj,hz,hq,lt,vz,k=>by have:=k s.heap (λ q h=>nomatch h) rfl (by simpa[rowAt]using hv) λ f o _ _ e=>e;exact H9 this
 |q::rs,j,cs,s,Q,D,ne,hv,cI,hj,hz,hq,lt,vz,k=>by
  have nl:=D.la q (.head _) q (.head _);obtain⟨n1,n2,n3⟩:=ne q (.head _);rw[C9,zipIdx_cons,forIn_cons];refine G9 (hb _ _ cs _ _ hz (Sr.item (hq q (.head _)) (lt q (.head _)) nl λ h1 o1 s1=>⟨cs,cI,s1.extBut _ _ n1.symm hv,λ h2 v2 s2=>?_⟩));have kp:∀f o,f≠v->f≠q.a->s.heap.get? f=some o->h2.get? f=some o:=λ f o m1 m2 e=>s2.extBut _ _ m1 (s1.extBut _ _ m2 e);obtain⟨oz,ez⟩:=hz;rw[y3]at hj;refine yo hb rs (j+1) (cs.set j (q.xs.getD i .none)) _ _ D.tail (λ r hr=>ne r (.tail _ hr)) v2 (by rw[length_set];exact cI) (by rw[length_set];omega) ⟨oz,kp _ _ vz.symm n3.symm ez⟩ (λ r hr=>Sr.keep (hq r (.tail _ hr)) (λ o e=>kp _ o (ne r (.tail _ hr)).1 (D.ne hr) e) λ o e=>kp _ o (ne r (.tail _ hr)).2.1 (D.la r (.tail _ hr) q (.head _)) e) (λ r hr=>lt r (.tail _ hr)) vz λ h3 o3 z3 v3 k3=>?_;refine k h3 (λ r hr=>?_) (z3.trans (s2.1.trans s1.1)) ?_ λ f o m1 m2 e=>k3 f o m1 (λ r hr=>m2 r (.tail _ hr)) (kp f o m1 (m2 q (.head _)) e)
  ·rcases D1.mp hr with e|hr
   ·subst e;exact Sr.keep o1 (λ o e=>k3 _ o n1 (λ t ht=>(D.ne ht).symm) (s2.extBut _ _ n1 e)) λ o e=>k3 _ o n2 (λ t ht=>D.la r (.head _) t (.tail _ ht)) (s2.extBut _ _ n2 e)
   ·exact o3 r hr
  ·have e:(cs.set j (q.xs.getD i .none)).take (j+1)++rowAt rs i++(cs.set j (q.xs.getD i .none)).drop (j+1+rs.length)=cs.take j++rowAt (q::rs) i++cs.drop (j+(rs.length+1)):=by
    have e1:(cs.set j (q.xs.getD i .none)).take (j+1)=cs.take j++[q.xs.getD i .none]:=by rw[take_add_one,take_set_of_le (G5 _),j6 (by omega)];rfl
    have e2:(cs.set j (q.xs.getD i .none)).drop (j+1+rs.length)=cs.drop (j+(rs.length+1)):=by rw[drop_set_of_lt (by omega),show j+1+rs.length=j+(rs.length+1) by omega]
    rw[e1,e2];simp[rowAt]
   rw[y3,<- e];exact v3
end
end L5
namespace L5
open PySem L2 PyProof.Rows
section
variable {prog:Program}{w:World}{A:Around}{E:Value->Shared->Prop}{s:Shared}{i:Nat}{z u v:Addr}{qs:List Sr}
theorem BO{cs:List Value}{Q:Value->Shared->Prop}(D:Zn z u v qs)(eZ:qs≠[])(cI:qs.length<=100)(hz:IsZip s.heap z u v .none)(hu:fL s.heap u (qs.map λ q=>.ref q.a))(hv:fL s.heap v cs)(hl:cs.length=qs.length)(hq:∀q∈qs,q.on s.heap i)(lt:∀q∈qs,i < q.xs.size) (k:∀h',gY h' z u v s.heap.objs.size false->(∀q∈qs,q.on h' (i+1))->fL h' s.heap.objs.size (rowAt qs i)->h'.objs.size=s.heap.objs.size+1->
   (∀f o,f≠z->f≠v->(∀q∈qs,f≠q.a)->s.heap.get? f=some o->h'.get? f=some o)->Q (.ref s.heap.objs.size) {s with heap:=h'}):
  wpAny (model prog w) A (Builtin.«zip.__next__» ⟨[.ref z],[]⟩) (λ fin s'=>∃v,fin=.done (.ret v)/\Q v s') E s:=by
 refine G9 (m:=field (.ref z) 2) (G8 hz rfl (x:=.bool false) rfl ?_);refine G9 (m:=field (.ref z) 3) (G8 hz rfl (x:=.ref u) rfl ?_);refine G9 (C3 hu rfl ?_);have em:(qs.map λ q=>Value.ref q.a).toArray.isEmpty=false:=by cases qs with|nil=>exact absurd rfl eZ|cons q qs=>rfl
 simp only[em];refine G9 (m:=Builtin.SmallTypes.ownedTupleIsFree (.ref z)) ?_;unfold Builtin.SmallTypes.ownedTupleIsFree;refine G9 (m:=field (.ref z) 0) (G8 hz rfl (x:=.none) rfl (H9 ?_));simp only[if_true];refine G9 (wpAny_rule (G9 (G8 hz rfl (x:=.ref v) rfl (G9 (p4 hz (by simp) λ g1 z1 s1=>?_)))));have z1:IsZip g1 z u v .ellipsis:=z1;refine G9 (yo (v:=v) (z:=z) (i:=i) ?_ qs 0 cs {s with heap:=g1} _ D.ap (λ q h=>⟨(D.s q h).2.2.1,(D.s q h).2.2.2.2,(D.s q h).1⟩) (s1.extBut _ _ D.vz hv) (by rw[hl];exact cI) (by rw[hl];omega) ⟨_,z1⟩ (D.kz s1 hq) lt D.vz λ g2 o2 e2 v2 k2=>?_)
 ·intro a j cs s2 Q2 UW h;refine G9 (wpAny_onRaise (G9 (m:=Builtin.SmallTypes.nextOf (.ref a)) (J1 h (λ x s' h'=>H9 ?_) λ _ _ e=>e.elim)));obtain⟨cs',h0,h1,h2⟩:=h';refine G9 (C3 h1 rfl (G9 (B8 h1 rfl (G9 (wpAny_letGo (H9 (h2 _ ?_ (l7 ..))))) (by rw[x5];exact D8 h0 (by decide)) (by rw[Array.size_setIfInBounds,x5];exact D8 h0 (by decide)))));unfold fL;rw[j7 _ h1 rfl];simp[Obj.mapSeq]
 ·rw[take_zero,A5,drop_eq_nil_of_le (by rw[hl];omega),A4]at v2;refine G9 (C3 v2 rfl (G9 (wpAny_newTuple ?_ (by show(rowAt qs i).length<=sizeLine;rw[B4];exact D8 cI (by decide)))));have ez:g2.objs.size=s.heap.objs.size:=e2.trans s1.1;have z2:IsZip g2 z u v .ellipsis:=k2 _ _ D.vz.symm (λ q h=>(D.s q h).1.symm) z1;have Wm:z < g2.objs.size:=D5 z2;refine G9 (m:=Builtin.SmallTypes.ownedTupleHandOut (.ref z) (.ref g2.objs.size)) ?_;unfold Builtin.SmallTypes.ownedTupleHandOut;have z6:IsZip (g2.push {cls:=.type "tuple",data:=.seq (rowAt qs i).toArray}) z u v .ellipsis:=j4 _ z2;refine G9 (p4 z6 (by simp) λ g7 z7 s7=>p4 (show IsZip g7 z u v (rawInt g2.objs.size)from z7) (by simp) λ g8 z8 s8=>?_);have z8:IsZip g8 z u v (rawInt g2.objs.size):=z8;have go:∀f o,f≠z->g2.get? f=some o->g8.get? f=some o:=λ f o n1 e=>s8.extBut _ _ n1 (s7.extBut _ _ n1 (j4 _ e));have t8:fL g8 g2.objs.size (rowAt qs i):=s8.extBut _ _ (G0 Wm) (s7.extBut _ _ (G0 Wm) (m8 _ rfl));have e8:g8.objs.size=g2.objs.size+1:=by rw[s8.1,s7.1,C4]
  rw[ez]at z8 t8 e8;refine H9 ⟨_,rfl,?_⟩;show Q (.ref g2.objs.size) _;rw[ez];exact k g8 z8 (λ q h=>Sr.keep (o2 q h) (λ o e=>go _ o (D.s q h).1 e) λ o e=>go _ o (D.s q h).2.2.2.1 e) t8 e8 λ f o n1 n2 n3 e=>go f o n1 (k2 f o n2 n3 (s1.extBut _ _ n1 e))
def pE(h:Heap)(z u v:Addr)(qs:List Sr)(i N0:Nat):Prop:=fL h u (qs.map λ q=>.ref q.a)/\(∀q∈qs,q.on h i)/\
 ((i=0/\IsZip h z u v .none/\∃cs,fL h v cs/\cs.length=qs.length)\/∃(r:Addr) (f1:Bool) (o:Obj),gY h z u v r f1/\h.get? r=some o/\N0<=r)
def vi(h:Heap)(qs:List Sr)(N0:Nat)(ps:List Addr):Prop:=ps.Nodup/\∀(j:Nat) (p:Addr),ps[j]?=some p->N0<=p/\fL h p (rowAt qs j)
theorem NQ{N0:Nat}{Q:Option Value->Shared->Prop}(D:Zn z u v qs)(eZ:qs≠[])(cI:qs.length<=100)(hN:N0<=s.heap.objs.size)(hz:z < N0)(hv:v < N0)(wL:∀q∈qs,q.a < N0)(Z:pE s.heap z u v qs i N0)(lt:∀q∈qs,i < q.xs.size) (k:∀h',pE h' z u v qs (i+1) N0->fL h' s.heap.objs.size (rowAt qs i)->h'.objs.size=s.heap.objs.size+1->(∀f o,f≠z->f≠v->(∀q∈qs,f≠q.a)->s.heap.get? f=some o->h'.get? f=some o)->Q (some (.ref s.heap.objs.size)) {s with heap:=h'}):wpAny (model prog w) A (pyNext (.ref z)) Q E s:=by
 obtain⟨hu,hq,zz⟩:=Z;have ku:∀h':Heap,(∀f o,f≠z->f≠v->(∀q∈qs,f≠q.a)->s.heap.get? f=some o->h'.get? f=some o)->fL h' u (qs.map λ q=>.ref q.a):=λ h' kp=>kp _ _ D.uz D.uv (λ q h=>(D.s q h).2.1.symm) hu;have ty:s.TypeIs (.ref z) "zip":=by
  rcases zz with⟨_,q,_⟩|⟨r,f1,o,q,_⟩
  ·exact⟨_,q,rfl⟩
  ·exact⟨_,q,rfl⟩
 unfold pyNext;refine G9 (wpAny_attempt (i9 (name:=Str.ofString "__next__") ty F.slot_zip_next (y6 F.slot_zip_next ty F.entry_zip_next ?_ (F.args_zip_next_1 _))));rcases zz with⟨rfl,q,cs,q2,q3⟩|⟨r,f1,o,q,q2,q3⟩
 ·exact BO D eZ cI q hu q2 q3 hq lt λ h' a1 a2 a3 a4 a5=>H9 (k h' ⟨ku h' a5,a2,.inr ⟨s.heap.objs.size,false,_,a1,a3,hN⟩⟩ a3 a4 a5)
 ·refine GK D eZ cI q q2 hu hq lt λ h' a1 a2 a3 a4 a5=>H9 (k h' ⟨ku h' λ f o n1 _ n3 e=>a5 f o n1 n3 e,a2,.inr ⟨r,true,o,a1,a5 _ _ (G0 (p6 hz q3)) (λ t ht=>G0 (p6 (wL t ht) q3)) q2,q3⟩⟩ a3 a4 λ f o n1 _ n3 e=>a5 f o n1 n3 e)
theorem NX{N0:Nat}{Q:Option Value->Shared->Prop}(hA:A.handled=none)(D:Zn z u v qs)(Z:pE s.heap z u v qs i N0)(hi:i≠0)(ge:∃q∈qs,q.xs.size<=i) (k:∀h',(∀f o,f≠z->f≠v->(∀q∈qs,f≠q.a)->s.heap.get? f=some o->h'.get? f=some o)->Q none {s with heap:=h'}):wpAny (model prog w) A (pyNext (.ref z)) Q E s:=by
 obtain⟨hu,hq,zz⟩:=Z;rcases zz with⟨z0,_⟩|⟨r,f1,o,q,q2,q3⟩
 ·exact absurd z0 hi
 ·have ty:s.TypeIs (.ref z) "zip":=⟨_,q,rfl⟩;unfold pyNext;refine G9 (wpAny_attempt (i9 (name:=Str.ofString "__next__") ty F.slot_zip_next (y6 F.slot_zip_next ty F.entry_zip_next ?_ (F.args_zip_next_1 _))));refine sQ hA D q q2 hu hq ge λ h' e kp oe=>?_;obtain⟨ob,YR,Vu⟩:=oe;exact G9 (A0 (T:="StopIteration") (b:=true) ⟨ob,YR,Vu⟩ isSubtype_stop (H9 (k _ λ f o n1 _ n3 e=>kp f o n1 n3 e)))
theorem pE.keep {h h':Heap}{S:Addr}{N0:Nat}(x:pE h z u v qs i N0)(hS:S < N0)(n1:S≠z)(n2:S≠u)(n3:S≠v)(n4:∀q∈qs,S≠q.a/\S≠q.l)(k:∀f o,f≠S->h.get? f=some o->h'.get? f=some o):pE h' z u v qs i N0:=by
 obtain⟨a1,a2,a4⟩:=x;refine⟨k _ _ n2.symm a1,λ q hq=>Sr.keep (a2 q hq) (λ o e=>k _ o (n4 q hq).1.symm e) λ o e=>k _ o (n4 q hq).2.symm e,?_⟩;rcases a4 with⟨z0,q,cs,q2,q3⟩|⟨r,f1,o,q1,q2,q3⟩
 ·exact .inl ⟨z0,k _ _ n1.symm q,cs,k _ _ n3.symm q2,q3⟩
 ·exact .inr ⟨r,f1,o,k _ _ n1.symm q1,k _ _ (G0 (p6 hS q3)) q2,q3⟩
theorem RT{R:Result->Shared->Prop}{S:Addr}{N0 n:Nat}(hA:A.in1.handled=none)(D:Zn z u v qs)(eZ:qs≠[])(cI:qs.length<=100)(hn:n<=10000)(yT:n≠0)(hsz:∀q∈qs,q.xs.size=n) (hz:z < N0) (hv:v < N0) (wL:∀q∈qs,q.a < N0) (hS:S < N0) (n1:S≠z) (n2:S≠u) (n3:S≠v) (n4:∀q∈qs,S≠q.a/\S≠q.l) (res:Value):∀(k i:Nat) (s:Shared) (ps:List Addr) (c:Nat),n - i=k->i<=n->ps.length=i->N0<=s.heap.objs.size->pE s.heap z u v qs i N0->
   s.heap.get? S=some {cls:=.type "list",dict:=none,data:=.seq (ps.map Value.ref).toArray c,slots:=#[]}->vi s.heap qs N0 ps->
   (∀(h':Heap) (Na:List Addr) (c':Nat),(∀f o,f≠z->f≠v->(∀q∈qs,f≠q.a)->f≠S->s.heap.get? f=some o->h'.get? f=some o)->h'.get? S=some {cls:=.type "list",dict:=none,data:=.seq (Na.map Value.ref).toArray c',slots:=#[]}->Na.length=n->vi h' qs N0 Na->R (.ok (.ret res)) {s with heap:=h'})->
   codeAny (model prog w) A (.builtin "list.extend.loop" ⟨[.ref S,.ref z,res],[]⟩) R s:=by
 intro k
 induction k with
 |zero=>intro i s ps c hk hi hp hN Z Vy pr hR;refine B2 F.entry_extend_loop ?_;rw[l5 m9 _];show wpAny _ A.in1 (pyNext (.ref z) >>= _) _ _ s;obtain⟨q0,h0⟩:=exists_mem_of_ne_nil _ eZ;refine G9 (NX hA D Z (by omega) ⟨q0,h0,by rw[hsz q0 h0];omega⟩ λ h' kp=>H9 ?_);refine hR h' ps c (λ f o m1 m2 m3 _ e=>kp f o m1 m2 m3 e) (kp _ _ n1 n3 (λ q h=>(n4 q h).1) Vy) (by omega) ⟨pr.1,λ j p e=>?_⟩;obtain⟨rS,e3⟩:=pr.2 j p e;exact⟨rS,kp _ _ (G0 (p6 hz rS)) (G0 (p6 hv rS)) (λ q h=>G0 (p6 (wL q h) rS)) e3⟩
 |succ k ih=>
  intro i s ps c hk hi hp hN Z Vy pr hR;refine B2 F.entry_extend_loop ?_;rw[l5 m9 _];show wpAny _ A.in1 (pyNext (.ref z) >>= _) _ _ s;refine G9 (NQ D eZ cI hN hz hv wL Z (λ q h=>by rw[hsz q h];omega) λ h' Z' t1 sz kp=>?_);have W2:=kp _ _ n1 n3 (λ q h=>(n4 q h).1) Vy;show wpAny _ A.in1 (updateSeq S (·.push (.ref s.heap.objs.size)) >>= λ _=>again (.builtin "list.extend.loop" ⟨[.ref S,.ref z,res],[]⟩)) _ _ _;refine G9 ?_;have hlen:(ps.map Value.ref).toArray.size=i:=by rw[x5,B4,hp]
  have ot:∀f o,f≠S->h'.get? f=some o->(h'.update S (Obj.mapSeq (·.push (.ref s.heap.objs.size)))).get? f=some o:=λ f o ne e=>(j5 _ _ (J5 ne)).trans e;refine B8 W2 rfl (H9 ⟨plainId_quiet m9 _,ih (i+1) _ (ps++[s.heap.objs.size]) (c+1) (by omega) (by omega) (by rw[o6,hp];rfl) ?_ (Z'.keep hS n1 n2 n3 n4 ot) ?_ ?_ ?_⟩) (by rw[hlen];exact D8 (show i<=10000 by omega) (by decide)) (by rw[Array.size_push,hlen];exact D8 (show i+1<=10001 by omega) (by decide))
  ·show N0<=(h'.update S _).objs.size;rw[Heap.size_update,sz];exact Nat.le_succ_of_le hN
  ·rw[j7 _ W2 rfl];simp[Obj.mapSeq]
  ·refine⟨nodup_append.mpr ⟨pr.1,by simp,λ q hq q' U_ ee=>?_⟩,?_⟩
   ·obtain⟨j,hj⟩:=mem_iff_getElem?.mp hq;have lt:=D5 (pr.2 j q hj).2;rw[ee,p7.mp U_]at lt;exact C8 _ lt
   intro j p e;by_cases hj:j < ps.length
   ·rw[c9 hj]at e;obtain⟨rS,e3⟩:=pr.2 j p e;exact⟨rS,ot _ _ (G0 (p6 hS rS)) (kp _ _ (G0 (p6 hz rS)) (G0 (p6 hv rS)) (λ q h=>G0 (p6 (wL q h) rS)) e3)⟩
   ·rw[c7 (by omega)]at e;have YK:j - ps.length=0:=by have:=(g9.mp e).1;simp at this;omega
    rw[YK]at e;have ep:s.heap.objs.size=p:=by simpa using e
    have ej:j=i:=by omega
    subst ej;rw[<- ep];exact⟨hN,ot _ _ (G0 (p6 hS hN)) t1⟩
  ·intro h2 Na c' X8 hs2 Om QQ;exact hR h2 Na c' (λ f o m1 m2 m3 m5 e=>X8 f o m1 m2 m3 m5 (ot f o m5 (kp f o m1 m2 m3 e))) hs2 Om QQ
end
end L5
namespace L5
open PySem L2 PyProof.Rows
theorem mS(a b c:Value):checkTypeCall "zip" ⟨[a,b,c],[]⟩=pure ():=by kernel_rfl
theorem oW(a b c:Value):checkBuiltinCall "zip.__new__" ⟨[.type "zip",a,b,c],[]⟩=pure ():=by kernel_rfl
theorem jg(a b c d:Value):argsOk "object.__init__" ⟨[a,b,c,d],[]⟩:=by unfold argsOk;rw[signature?_of (id:="object.__init__") (n:=['_','_','t','i','n','i','_','_']) (o:=['t','c','e','j','b','o']) (by kernel_rfl) F.owner_object];kernel_rfl
abbrev zh(b:Bool)(h:Heap)(l:Addr):Heap:=h.push {cls:=.type (Sz b),data:=.fields #[.ref l,.int 0 0]}
abbrev z3(b c d:Bool)(h:Heap)(l m n:Addr):Heap:=zh d (zh c (zh b h l) m) n
abbrev z4(b c d:Bool)(h:Heap)(l m n:Addr):Heap:=(z3 b c d h l m n).push {cls:=.type "tuple",data:=.seq #[.ref h.objs.size,.ref (zh b h l).objs.size,.ref (zh c (zh b h l) m).objs.size]}
abbrev z5(b c d:Bool)(h:Heap)(l m n:Addr):Heap:=(z4 b c d h l m n).push {cls:=.type "tuple",data:=.seq #[.none,.none,.none]}
abbrev z6(b c d:Bool)(h:Heap)(l m n:Addr):Heap:=(z5 b c d h l m n).push {cls:=.type "zip",data:=.fields #[.none,.bool false,.bool false,.ref (z3 b c d h l m n).objs.size,.ref (z4 b c d h l m n).objs.size]}
theorem vE(b c d:Bool)(l m n:Addr)(xs ys zs:Array Value):Meets (Builtin.«zip.__new__» ⟨[.type "zip",.ref l,.ref m,.ref n],[]⟩) (λ _ R s=>jP b s.heap l xs/\jP c s.heap m ys/\jP d s.heap n zs/\R (.ok (.ret (.ref (z5 b c d s.heap l m n).objs.size))) {s with heap:=z6 b c d s.heap l m n}):=
 .of_wp λ prog w A R s h=>by
  obtain⟨hp,g,dr,tk,os⟩:=s;obtain⟨a1,a2,a3,h⟩:=h;have sz:=sub_zip;have b1:jP b (Shared.heap ⟨hp,g,dr,tk,os⟩) l xs:=a1;have b2:jP c (Shared.heap ⟨zh b hp l,g,dr,tk,os⟩) m ys:=(gM c).keep a2 λ o e=>j4 _ e;have b3:jP d (Shared.heap ⟨zh c (zh b hp l) m,g,dr,tk,os⟩) n zs:=(gM d).keep a3 λ o e=>j4 _ (j4 _ e)
  wp_walk using(gM b).start b1,(gM c).start b2,(gM d).start b3
  exact⟨_,rfl,h⟩
section
variable {prog:Program}{w:World}{A:Around}{E:Value->Shared->Prop}{s:Shared}
theorem Sr.new {h:Heap}{a l:Addr}{b:Bool}{xs:Array Value}(h1:lO (Sz b) h a l 0)(h2:jP b h l xs):Sr.on ⟨a,l,b,xs⟩ h 0:=by
 cases b
 ·exact⟨h1,h2⟩
 ·exact⟨h1,h2⟩
theorem qV{b:Bool}{h:Heap}{l:Addr}{xs:Array Value}(x:jP b h l xs):l < h.objs.size:=by
 cases b
 ·obtain⟨o,e,_⟩:=x;exact D5 e
 ·obtain⟨o,e,_⟩:=x;exact D5 e
theorem Jn{b c d:Bool}{l m n:Addr}{xs ys zs:Array Value}{Q:Value->Shared->Prop}(a1:jP b s.heap l xs)(a2:jP c s.heap m ys)(a3:jP d s.heap n zs) (k:∀(h':Heap) (qs:List Sr),qs=[⟨s.heap.objs.size,l,b,xs⟩,⟨s.heap.objs.size+1,m,c,ys⟩,⟨s.heap.objs.size+2,n,d,zs⟩]->Zn (s.heap.objs.size+5) (s.heap.objs.size+3) (s.heap.objs.size+4) qs->IsZip h' (s.heap.objs.size+5) (s.heap.objs.size+3) (s.heap.objs.size+4) .none->(∀N,pE h' (s.heap.objs.size+5) (s.heap.objs.size+3) (s.heap.objs.size+4) qs 0 N)->
   h'.objs.size=s.heap.objs.size+6->(∀f o,s.heap.get? f=some o->h'.get? f=some o)->Q (.ref (s.heap.objs.size+5)) {s with heap:=h'}):
  wpAny (model prog w) A (call (.type "zip") [.ref l,.ref m,.ref n]) Q E s:=by
 refine callType_new F.called_zip (by decide) (mS _ _ _) (oW _ _ _) (λ ob=>jg ob _ _ _) F.entry_zip_new (vE b c d l m n xs ys zs) ⟨a1,a2,a3,?_⟩;have e1:(zh b s.heap l).objs.size=s.heap.objs.size+1:=C4 ..;have e2:(zh c (zh b s.heap l) m).objs.size=s.heap.objs.size+2:=by rw[C4,e1]
 have e3:(z3 b c d s.heap l m n).objs.size=s.heap.objs.size+3:=by rw[C4,e2]
 have e4:(z4 b c d s.heap l m n).objs.size=s.heap.objs.size+4:=by rw[C4,e3]
 have e5:(z5 b c d s.heap l m n).objs.size=s.heap.objs.size+5:=by rw[C4,e4]
 have e6:(z6 b c d s.heap l m n).objs.size=s.heap.objs.size+6:=by rw[C4,e5]
 have u5:∀f o,(z5 b c d s.heap l m n).get? f=some o->(z6 b c d s.heap l m n).get? f=some o:=λ f o e=>j4 _ e;have u4:∀f o,(z4 b c d s.heap l m n).get? f=some o->(z6 b c d s.heap l m n).get? f=some o:=λ f o e=>u5 f o (j4 _ e);have u3:∀f o,(z3 b c d s.heap l m n).get? f=some o->(z6 b c d s.heap l m n).get? f=some o:=λ f o e=>u4 f o (j4 _ e);have u2:∀f o,(zh c (zh b s.heap l) m).get? f=some o->(z6 b c d s.heap l m n).get? f=some o:=λ f o e=>u3 f o (j4 _ e);have u1:∀f o,(zh b s.heap l).get? f=some o->(z6 b c d s.heap l m n).get? f=some o:=λ f o e=>u2 f o (j4 _ e);have u0:∀f o,s.heap.get? f=some o->(z6 b c d s.heap l m n).get? f=some o:=λ f o e=>u1 f o (j4 _ e);have g6:(z6 b c d s.heap l m n).get? (z5 b c d s.heap l m n).objs.size=some _:=m8 _ rfl;have g5:=u5 _ _ (m8 (z4 b c d s.heap l m n) rfl);have g4:=u4 _ _ (m8 (z3 b c d s.heap l m n) rfl);have g3:=u3 _ _ (m8 (zh c (zh b s.heap l) m) rfl);have g2:=u2 _ _ (m8 (zh b s.heap l) rfl);have g1:=u1 _ _ (m8 s.heap rfl);rw[e3,e4,e5]at g6;rw[e4]at g5;rw[e1,e2,e3]at g4;rw[e2]at g3;rw[e1]at g2;show _/\_;rw[e5];refine⟨⟨_,g6,rfl⟩,k _ _ rfl ?_ g6 (λ N=>⟨g4,?_,.inl ⟨rfl,g6,_,g5,rfl⟩⟩) e6 u0⟩
 ·have lo:∀{x:Addr} (i:Nat),x < s.heap.objs.size->x≠s.heap.objs.size+i:=λ i h=>D4 (p6 h (z9 _ i));have ne:∀i j:Nat,i≠j->s.heap.objs.size+i≠s.heap.objs.size+j:=λ i j h e=>h (Nat.add_left_cancel e);have hl:=qV a1;have hm:=qV a2;have hn:=qV a3;refine⟨⟨?_,?_⟩,ne 3 5 (by decide),ne 4 5 (by decide),ne 3 4 (by decide),?_⟩
  ·refine nodup_cons.mpr ⟨?_,nodup_cons.mpr ⟨?_,by simp⟩⟩
   ·simp only[C9,map_nil,D1,not_mem_nil,or_false];exact λ z=>z.elim (ne 0 1 (by decide)) (ne 0 2 (by decide))
   ·simp only[C9,map_nil,D1,not_mem_nil,or_false];exact ne 1 2 (by decide)
  ·simp only[D1,not_mem_nil,or_false,forall_eq_or_imp,forall_eq];exact⟨⟨lo 0 hl,lo 1 hl,lo 2 hl⟩,⟨lo 0 hm,lo 1 hm,lo 2 hm⟩,lo 0 hn,lo 1 hn,lo 2 hn⟩
  ·simp only[D1,not_mem_nil,or_false,forall_eq_or_imp,forall_eq];exact⟨⟨ne 0 5 (by decide),ne 0 3 (by decide),ne 0 4 (by decide),lo 5 hl,lo 4 hl⟩,⟨ne 1 5 (by decide),ne 1 3 (by decide),ne 1 4 (by decide),lo 5 hm,lo 4 hm⟩,ne 2 5 (by decide),ne 2 3 (by decide),ne 2 4 (by decide),lo 5 hn,lo 4 hn⟩
 ·simp only[D1,not_mem_nil,or_false,forall_eq_or_imp,forall_eq];exact⟨Sr.new ⟨_,g1,rfl,rfl⟩ ((gM b).keep a1 λ o e=>u0 _ o e),Sr.new ⟨_,g2,rfl,rfl⟩ ((gM c).keep a2 λ o e=>u0 _ o e),Sr.new ⟨_,g3,rfl,rfl⟩ ((gM d).keep a3 λ o e=>u0 _ o e)⟩
end
end L5
namespace L5
open PySem L2 PyProof.Rows
section
variable {prog:Program}{w:World}{A:Around}{E:Value->Shared->Prop}{s:Shared}
theorem pC{z u v:Addr}{qs:List Sr}{n:Nat}{Q:Value->Shared->Prop}(hA:A.handled=none)(D:Zn z u v qs)(eZ:qs≠[])(cI:qs.length<=100)(hn:n<=10000)(yT:n≠0)(hsz:∀q∈qs,q.xs.size=n) (hz:z < s.heap.objs.size) (hu:u < s.heap.objs.size) (hv:v < s.heap.objs.size) (wL:∀q∈qs,q.a < s.heap.objs.size/\q.l < s.heap.objs.size) (hZ:IsZip s.heap z u v .none) (Z:∀N,pE s.heap z u v qs 0 N) (hQ:∀(h':Heap) (ps:List Addr) (c:Nat),(∀f o,f≠z->f≠v->(∀q∈qs,f≠q.a)->s.heap.get? f=some o->h'.get? f=some o)->h'.get? s.heap.objs.size=some {cls:=.type "list",data:=.seq (ps.map Value.ref).toArray c}->ps.length=n->vi h' qs (s.heap.objs.size+1) ps->Q (.ref s.heap.objs.size) {s with heap:=h'}):wpAny (model prog w) A (call (.type "list") [.ref z]) Q E s:=by
 have Z:=Z (s.heap.objs.size+1);refine callType_codes (Q₁:=λ obj s₁=>obj=.ref s.heap.objs.size/\s₁={s with heap:=s.heap.push {cls:=.type "list",data:=.seq #[]}}) F.called_list (F.typeCall_list_1 _) F.entry_list_init
  (code_list_new _ ⟨rfl,rfl⟩) λ obj s₁ h₁=>?_
 obtain⟨rfl,rfl⟩:=h₁;have up:∀f o,s.heap.get? f=some o->(s.heap.push {cls:=.type "list",data:=.seq #[]}).get? f=some o:=λ f o e=>j4 _ e;have hS:(s.heap.push {cls:=.type "list",data:=.seq #[]}).get? s.heap.objs.size=some {cls:=.type "list",data:=.seq #[]}:=m8 _ rfl;have sz:(s.heap.push {cls:=.type "list",data:=.seq #[]}).objs.size=s.heap.objs.size+1:=C4 ..;have Z:pE (s.heap.push {cls:=.type "list",data:=.seq #[]}) z u v qs 0 (s.heap.objs.size+1):=Z.keep (Nat.lt_succ_self _) (G0 hz) (G0 hu) (G0 hv) (λ q h=>⟨G0 (wL q h).1,G0 (wL q h).2⟩) λ f o _ e=>up f o e;have hZ:=up _ _ hZ;refine⟨⟨_,hS,rfl⟩,F.args_list_init_2 _ _,?_⟩;have hQ:∀(h':Heap) (ps:List Addr) (c:Nat),(∀f o,f≠z->f≠v->(∀q∈qs,f≠q.a)->f≠s.heap.objs.size->(s.heap.push {cls:=.type "list",data:=.seq #[]}).get? f=some o->h'.get? f=some o)->h'.get? s.heap.objs.size=some {cls:=.type "list",data:=.seq (ps.map Value.ref).toArray c}->ps.length=n->vi h' qs (s.heap.objs.size+1) ps->Q (.ref s.heap.objs.size) {s with heap:=h'}:=
  λ h' ps c kp a b d=>hQ h' ps c (λ f o n1 n2 n3 e=>kp f o n1 n2 n3 (D4 (D5 e)) (up f o e)) a b d
 generalize s.heap.push {cls:=.type "list",data:=.seq #[]}=g at*;generalize hN:s.heap.objs.size=N at*;show wpAny _ _ (do let old <- Builtin.List.listItems (.ref N);Builtin.List.listUpdate (.ref N) (λ _=>#[]);letGo old.toList.reverse;Builtin.List.listExtendWith (.ref N) (.ref z) .none) _ _ _;refine G9 ?_;unfold Builtin.List.listItems;refine G9 (C3 hS rfl (H9 ?_));show wpAny _ _ (updateSeq N (λ _=>#[]) >>= λ _=>letGo (#[]:Array Value).toList.reverse >>= λ _=>Builtin.List.listExtendWith (.ref N) (.ref z) .none) _ _ _;refine G9 (B8 hS rfl ?_);have W0:=j7 (Obj.mapSeq (λ _=>(#[]:Array Value))) hS rfl;have o2:∀b o,b≠N->g.get? b=some o->(g.update N (Obj.mapSeq (λ _=>(#[]:Array Value)))).get? b=some o:=λ b o hb e=>(j5 _ _ (J5 hb)).trans e;have s2:(g.update N (Obj.mapSeq (λ _=>(#[]:Array Value)))).objs.size=N+1:=by rw[Heap.size_update,sz]
 refine G9 (wpAny_letGo ?_);have nz:N≠z:=G0 hz;have Z2:=Z.keep (Nat.lt_succ_self _) nz (G0 hu) (G0 hv) (λ q h=>⟨G0 (wL q h).1,G0 (wL q h).2⟩) o2;have To:=o2 _ _ nz.symm hZ;have hQ:∀(h':Heap) (ps:List Addr) (c:Nat),(∀f o,f≠z->f≠v->(∀q∈qs,f≠q.a)->f≠N->(g.update N (Obj.mapSeq (λ _=>(#[]:Array Value)))).get? f=some o->h'.get? f=some o)->h'.get? N=some {cls:=.type "list",data:=.seq (ps.map Value.ref).toArray c}->ps.length=n->vi h' qs (N+1) ps->Q (.ref N) {s with heap:=h'}:=
  λ h' ps c kp a b d=>hQ h' ps c (λ f o n1 n2 n3 n4 e=>kp f o n1 n2 n3 n4 (o2 f o n4 e)) a b d
 generalize g.update N (Obj.mapSeq (λ _=>(#[]:Array Value)))=g2 at*;have hT:Shared.TypeIs {s with heap:=g2} (.ref z) "zip":=⟨_,To,rfl⟩;unfold Builtin.List.listExtendWith;refine G9 (E6 hT ?_);have h1:Builtin.List.listSameRef (.ref N) (.ref z)=false:=by simp[Builtin.List.listSameRef,nz]
 have h2:(Value.type "zip"==Value.type "list")=false:=by decide
 have h3:(Value.type "zip"==Value.type "tuple")=false:=by decide
 simp only[h1,h2,h3,Bool.or_false,o7,J3];refine G9 (wpAny_pyIter_zip To ?_);refine G9 (C6 ?_);unfold Builtin.List.listLengthHint;refine G9 (B9 hT vD ?_);show wpAny _ _ (specialOf (Value.ref z) (Str.ofString "__length_hint__") >>= _) _ _ _;refine G9 (B9 hT sR ?_);refine H9 ?_;show wpAny _ _ (rule "list.extend.makes-room" >>= λ _=>Builtin.List.listTouch (.ref N) >>= λ _=>again (.builtin "list.extend.loop" ⟨[.ref N,.ref z,.none],[]⟩)) _ _ _;refine G9 (wpAny_rule ?_);refine G9 ?_;show wpAny _ _ (updateSeq N (·.push .none) >>= λ _=>updateSeq N (·.pop)) _ _ _;refine G9 (B8 W0 rfl ?_ (by size_fits) (by simp[Obj.mapSeq]));have WZ:=j7 (Obj.mapSeq (·.push Value.none)) W0 rfl;refine B8 (hz:=by seq_fits) WZ rfl ?_;have Y3:=j7 (Obj.mapSeq (·.pop)) WZ rfl;have o4:∀b o,b≠N->g2.get? b=some o->((g2.update N (Obj.mapSeq (·.push Value.none))).update N (Obj.mapSeq (·.pop))).get? b=some o:=
  λ b o hb e=>(j5 _ _ (J5 hb)).trans ((j5 _ _ (J5 hb)).trans e)
 have Z4:=Z2.keep (Nat.lt_succ_self _) nz (G0 hu) (G0 hv) (λ q h=>⟨G0 (wL q h).1,G0 (wL q h).2⟩) o4;refine H9 ⟨plainId_quiet m9 _,?_⟩;have lt:∀{x:Nat},x < N->x < N+1:=λ h=>x8 h;refine RT (prog:=prog) (w:=w) (A:=A.in1) (R:=wants (λ r s₂=>r=Value.none/\Q (Value.ref N) s₂) E) (S:=N) (N0:=N+1) hA D eZ cI hn yT hsz (lt hz) (lt hv) (λ q h=>lt (wL q h).1) (Nat.lt_succ_self _) nz (G0 hu) (G0 hv) (λ q h=>⟨G0 (wL q h).1,G0 (wL q h).2⟩) _ _ 0 {s with heap:=(g2.update N (Obj.mapSeq (·.push Value.none))).update N (Obj.mapSeq (·.pop))} [] _ rfl (G7 _) rfl ?_ Z4 Y3 ⟨.nil,λ j p e=>by simp at e⟩ λ h' Na c' kp jN vw XW=>⟨rfl,?_⟩
 ·show N+1<=_;rw[Heap.size_update,Heap.size_update,s2];exact G5 _
 ·exact hQ h' Na c' (λ f o n1 n2 n3 n4 e=>kp f o n1 n2 n3 n4 (o4 f o n4 e)) jN vw XW
end
end L5
namespace L2
open PySem PySem.Spec PyProof.Rows L5
def mJ{α:Type}:List α->List α->List α->List (List α)
 |x::xs,y::ys,z::zs=>[x,y,z]::mJ xs ys zs
 |_,_,_=>[]
theorem xB{α:Type}:∀{xs ys zs:List α} {j:Nat} {r:List α},(mJ xs ys zs)[j]?=some r->∃x y z,xs[j]?=some x/\ys[j]?=some y/\zs[j]?=some z/\r=[x,y,z]
 |x::xs,y::ys,z::zs,0,r,e=>⟨x,y,z,rfl,rfl,rfl,(A9 e).symm⟩
 |x::xs,y::ys,z::zs,j+1,r,e=>xB (xs:=xs) (ys:=ys) (zs:=zs) (j:=j) e
 |[],_,_,j,r,e=>by simp[mJ]at e
 |_::_,[],_,j,r,e=>by simp[mJ]at e
 |_::_,_::_,[],j,r,e=>by simp[mJ]at e
theorem BP{α:Type}{n:Nat}:∀{xs ys zs:List α},xs.length=n->ys.length=n->zs.length=n->(mJ xs ys zs).length=n:=by
 induction n with
 |zero=>intro xs ys zs h1 h2 h3;rw[a7 h1];rfl
 |succ n ih=>
  intro xs ys zs h1 h2 h3;cases xs with
  |nil=>cases h1
  |cons x xs=>cases ys with
   |nil=>cases h2
   |cons y ys=>cases zs with
    |nil=>cases h3
    |cons z zs=>exact J4 (·+1) (ih (Nat.succ.inj h1) (Nat.succ.inj h2) (Nat.succ.inj h3))
inductive Lr:Hp->List (List V)->List Addr->Hp->Prop
 |nil {H}:Lr H [] [] H
 |cons {H r rs p ps H'}:H p=none->Lr (upd H p (.tup r)) rs ps H'->Lr H (r::rs) (p::ps) H'
section
variable {X:Cx}{pins:List (Addr×Obj)}{σ:St}{H:Hp}{s s':Shared}
theorem mU(I0:Inv X pins σ H s){h':Heap}:∀(ps:List Addr) (rs:List (List V)) (H1:Hp),Inv X pins σ H1 {s with heap:=h'}->ps.length=rs.length->ps.Nodup->(∀p∈ps,s.heap.objs.size<=p/\H1 p=none)-> (∀(j:Nat) (p:Addr) (r:List V),ps[j]?=some p->rs[j]?=some r->r.length<=sizeLine/\∃us,Vals r us/\fL h' p us)->∃H2,Lr H1 rs ps H2/\Inv X pins σ H2 {s with heap:=h'}/\∀b,b∉ps->H2 b=H1 b
 |[],rs,H1,I,hl,_,_,_=>by
  cases rs with
  |nil=>exact⟨H1,.nil,I,λ b _=>rfl⟩
  |cons r rs=>cases hl
 |p::ps,rs,H1,I,hl,nd,hf,pr=>by
  cases rs with
  |nil=>cases hl
  |cons r rs=>
   obtain⟨f1,us,q1,t⟩:=pr 0 p r rfl rfl;obtain⟨rS,eT⟩:=hf p n6;have fo:=I0.kR (H':=H1) rS eT;have I1:Inv X pins σ (upd H1 p (.tup r)) {s with heap:=h'}:=Inv.pP I eT ⟨f1,us,q1,⟨_,t,rfl,_,rfl⟩⟩ fo.2.1 (D8 I0.sz rS) fo.2.2.2.2.1 fo.2.2.2.2.2;have S6:=nodup_cons.mp nd;obtain⟨H2,z1,z2,z3⟩:=mU I0 ps rs (upd H1 p (.tup r)) I1 (by simpa using hl) S6.2 (λ p' RB=>by
    obtain⟨a1,a2⟩:=hf p' (k8 _ RB);exact⟨a1,by rw[aG (λ e:p'=p=>S6.1 (by rw[<- e];exact RB))];exact a2⟩) λ j p' r' e e'=>pr (j+1) p' r' (by simpa using e) (by simpa using e')
   refine⟨H2,.cons eT z1,z2,λ b hb=>?_⟩;rw[z3 b λ z=>hb (k8 _ z),aG (λ e:b=p=>hb (by rw[e];exact n6))]
end
section
variable {X:Cx}{e1 e2 e3:Expr}{ta:TA}{p p2 pos cW:Pos}
theorem vals3{x y z:V}{us:List Value}(r:Vals [x,y,z] us):∃a b c,us=[a,b,c]/\RelV x a/\RelV y b/\RelV z c:=by
 cases r with
 |cons a r=>cases r with
  |cons b r=>cases r with
   |cons c r=>cases r with
    |nil=>exact⟨_,_,_,rfl,a,b,c⟩
def XF(K:J8)(ta:TA):TE:=λ σ H Q=>ta σ H λ vs H1=>∃(b c d:Bool) (l m n:Addr) (xs ys zs:List V) (k:Nat),vs=[.ref l,.ref m,.ref n]/\Sq b K H1 l xs/\Sq c K H1 m ys/\Sq d K H1 n zs/\xs.length=k/\ys.length=k/\zs.length=k/\k≠0/\k<=10000/\
 ∀(ps:List Addr) (H2:Hp) (r:Addr),Lr H1 (mJ xs ys zs) ps H2->H2 r=none->Q (.ref r) (upd H2 r (.lst (ps.map V.ref)))
theorem IJ(hc:X.calm=true)(hg:Gl X "list")(hm:X.mg "list"=none)(Fe:Gl X "zip")(EZ:X.mg "zip"=none)(ha:PA X [e1,e2,e3] ta) (hs:starEach [e1,e2,e3] X.env=[(false,eval e1 X.env),(false,eval e2 X.env),(false,eval e3 X.env)]:=by rfl) (hs2:starEach [e2,e3] X.env=[(false,eval e2 X.env),(false,eval e3 X.env)]:=by rfl) (he:starEach [.Call (.Name "zip" p2) [e1,e2,e3] [] cW] X.env=(false,eval (.Call (.Name "zip" p2) [e1,e2,e3] [] cW) X.env)::starEach [] X.env:=by rfl):PE X (.Call (.Name "list" p) [.Call (.Name "zip" p2) [e1,e2,e3] [] cW] [] pos) (XF X.K ta):=by
 intro pins s σ H Q I h;refine p8 (fj I hg hm (show bootBuiltins "list"=some (.type "list") by decide+kernel) ?_);refine a8 ?_ he rfl;rw[he];show wpAny _ _ (spliced ((false,eval (.Call (.Name "zip" p2) [e1,e2,e3] [] cW) X.env)::backTo pos (starEach [] X.env))) _ _ s;refine Calls.spliced_cons ?_;refine Call_ (fj I Fe EZ boot_zip (a8 (cT (ha cW pins s σ H _ I h) λ us s1 ⟨vs,H1,I1,r1,q1⟩=>?_) (by rw[hs,hs2]) (by rw[hs2];rfl)));obtain⟨b,c,d,l,m,n,xs,ys,zs,k,ev,hl,fu,hn,lx,ly,lz,k0,cI,q⟩:=q1;subst ev;obtain⟨u1,u2,u3,rfl,r,r',Uo⟩:=vals3 r1;cases(show u1=Value.ref l from r);cases(show u2=Value.ref m from r');cases(show u3=Value.ref n from Uo);obtain⟨O',v1,p1⟩:=kq I1 hl;obtain⟨Ya,v2,We⟩:=kq I1 fu;obtain⟨X_,v3,p3⟩:=kq I1 hn;refine Jn p1 We p3 λ g qs eq D Ye Z g6 g7=>?_;refine Calls.spliced_nil ?_;have XO:O'.length=k:=v1.length.symm.trans lx;have XN:Ya.length=k:=v2.length.symm.trans ly;have XJ:X_.length=k:=v3.length.symm.trans lz;have lt:∀{b:Bool} {l:Addr} {xs:Array Value},jP b s1.heap l xs->l < g.objs.size:=λ x=>by rw[g6];exact p6 (qV x) (z9 _ _)
 have BJ:∀j:Nat,j < 6->s1.heap.objs.size+j < g.objs.size:=λ j h=>by rw[g6];exact Nat.add_lt_add_left h _
 have ok:=pC (prog:=X.prog) (w:=X.w) (A:=X.A) (E:=X.xe) (s:={s1 with heap:=g}) (Q:=EP X pins σ Q) (n:=k) (I1.ok.hd hc) D (by rw[eq];simp) (by rw[eq];show 3<=100;decide) cI k0;refine ok ?_ (BJ 5 (by decide)) (BJ 3 (by decide)) (BJ 4 (by decide)) ?_ Ye Z ?_
 ·rw[eq];simp only[D1,not_mem_nil,or_false,forall_eq_or_imp,forall_eq,x5];exact⟨XO,XN,XJ⟩
 ·rw[eq];simp only[D1,not_mem_nil,or_false,forall_eq_or_imp,forall_eq];exact⟨⟨BJ 0 (by decide),lt p1⟩,⟨BJ 1 (by decide),lt We⟩,BJ 2 (by decide),lt p3⟩
 ·intro h' ps c' kp hS vw pr;have Vi:∀b o,s1.heap.get? b=some o->h'.get? b=some o:=λ b o e=>by have lt:∀k,b≠s1.heap.objs.size+k:=λ k=>D4 (p6 (D5 e) (z9 _ k));refine kp b o (lt 5) (lt 4) ?_ (g7 b o e);rw[eq];simp only[D1,not_mem_nil,or_false,forall_eq_or_imp,forall_eq];exact⟨lt 0,lt 1,lt 2⟩
  have I3:Inv X pins σ H1 {s1 with heap:=h'}:=I1.kept (t':=s1.toks) Vi;have ge:∀j p,ps[j]?=some p->s1.heap.objs.size<=p:=λ j p hj=>D8 (by show s1.heap.objs.size<=g.objs.size+1;rw[g6];exact z9 _ 7) (pr.2 j p hj).1;obtain⟨H2,z1,I4,z3⟩:=mU (s:=s1) (h':=h') I1 ps (mJ xs ys zs) H1 I3 (by rw[vw,BP lx ly lz]) pr.1 (λ p hp=>by
    obtain⟨j,hj⟩:=mem_iff_getElem?.mp hp;exact⟨ge j p hj,I1.bh.fresh (ge j p hj)⟩) λ j p r hj hr=>by
     obtain⟨x,y,z,ex,ey,ez,rfl⟩:=xB hr;obtain⟨a,ea,ra⟩:=v1.get ex;obtain⟨b,eb,rb⟩:=v2.get ey;obtain⟨c,ec,rc⟩:=v3.get ez;refine⟨by show 3<=sizeLine;decide,[a,b,c],.cons ra (.cons rb (.cons rc .nil)),?_⟩;have t:=(pr.2 j p hj).2;rw[eq]at t;have gd:∀{is:List Value} {u:Value},is[j]?=some u->is.toArray.getD j .none=u:=λ e=>by simp[Array.getD_eq_getD_getElem?,e]
     simp only[rowAt,C9,map_nil,gd ea,gd eb,gd ec]at t;exact t
  have nS:∀p∈ps,p≠g.objs.size:=λ p hp e=>by obtain⟨j,hj⟩:=mem_iff_getElem?.mp hp;have:=(pr.2 j p hj).1;rw[e]at this;exact absurd this (Nat.not_succ_le_self _)
  have fr:s1.heap.objs.size<=g.objs.size:=by rw[g6];exact z9 _ 6
  have Oj:H2 g.objs.size=none:=(z3 _ λ h=>nS _ h rfl).trans (I1.bh.fresh fr);have fo:=I1.kR (H':=H2) fr Oj;have I5:Inv X pins σ (upd H2 g.objs.size (.lst (ps.map V.ref))) {s1 with heap:=h'}:=Inv.pP I4 Oj ⟨by rw[B4,vw];exact D8 cI (by decide),ps.map Value.ref,c',sY ps,hS⟩ fo.2.1 (D8 I1.sz fr) fo.2.2.2.2.1 fo.2.2.2.2.2;exact⟨.ref g.objs.size,_,I5,rfl,q ps H2 _ z1 Oj⟩
end
end L2
namespace L2
open PySem PySem.Spec PyProof.Rows
theorem Bw{X:Cx}(hc:X.calm=true):di X (.type "list") (λ xs H Q=>∃r lo hi,xs=[.ref r]/\H r=some (.L_ lo hi)/\(-100000000<=lo/\lo<=100000000)/\(-100000000<=hi/\hi<=100000000)/\(hi - lo).toNat<=10000/\∀p,H p=none->Q (.ref p) (upd H p (.lst (vW lo (hi - lo).toNat)))):=by
 intro pins s σ H xs us Q I rr ⟨r,lo,hi,e,hr,h1,h2,hn,q⟩;subst e;obtain⟨u,rfl,rx⟩:=vals1 rr;cases rx;obtain⟨t,u,v,ho⟩:=I.bh r _ hr;have es:Builtin.Range.rangeSize lo hi 1=(((hi - lo).toNat:Nat):Int):=by rw[rangeSize_one];split <;> omega
 refine call_list_range (a:=lo) (b:=hi) (c:=1) (t:=t) (u:=u) (v:=v) (n:=(hi - lo).toNat) (I.ok.hd hc) ho (small_one (by omega) (by omega) (by omega) (by omega)) es (by omega) λ h' tk acc c' kp hS lI=>?_;have hf:=I.bh.fresh (G5 s.heap.objs.size);have fo:=I.kR (H':=H) (G5 s.heap.objs.size) hf;have I2:Inv X pins σ (upd H s.heap.objs.size (.lst (vW lo (hi - lo).toNat))) {s with heap:=h',toks:=tk}:=
  Inv.pP (I.kept (t':=tk) kp) hf ⟨by unfold vW;rw[B4,x3];exact D8 hn (by decide),acc.toList,c',Au lI,by rw[show acc.toList.toArray=acc by simp];exact hS⟩ fo.2.1 I.sz fo.2.2.2.2.1 fo.2.2.2.2.2
 exact⟨.ref s.heap.objs.size,_,I2,rfl,q _ hf⟩
end L2
namespace L3
open PySem PySem.Spec PyProof.Rows L2 L5
def sS(xs ys zs:List D):List D:=(mJ xs ys zs).map D.tup
theorem tU{H H':Hp}{rs:List (List V)}{ps:List Addr}(h:Lr H rs ps H'):ar H H':=by
 induction h with
 |nil=>exact ar.refl _
 |cons hn _ ih=>exact(ar.laid hn).trans ih
theorem ID{K:J8}{M:Mem}{H H':Hp}{rs:List (List V)}{ps:List Addr}(h:Lr H rs ps H')(r:RelM K H M):RelM K H' M:=by
 induction h with
 |nil=>exact r
 |cons hn _ ih=>exact ih (r.laid hn)
theorem tV{K:J8}:∀{rd:List (List D)} {rs:List (List V)} {ps:List Addr} {H H2:Hp},Lr H rs ps H2->Paired (λ r v=>aA K H r v) rd rs->aA K H2 (rd.map D.tup) (ps.map V.ref)
 |_,_,_,_,_,.nil,.nil=>ao.mpr rfl
 |_,_,_,H,H2,.cons (r:=v) (p:=p) hn z,.cons (a:=r) a t=>by have t1:ar H (upd H p (.tup v)):=ar.laid hn;have t2:=tU z;exact ag.mpr ⟨.ref p,_,rfl,aU.mpr ⟨p,v,rfl,.inl (.inl (t2.tup _ _ aP)),aA.mono (t1.trans t2) _ a⟩,tV z (Paired.oX t λ r v h=>aA.mono t1 r h)⟩
theorem pJ{K:J8}{H:Hp}:∀{xs ys zs:List D} {xv yv zv:List V},aA K H xs xv->aA K H ys yv->aA K H zs zv->Paired (λ r v=>aA K H r v) (mJ xs ys zs) (mJ xv yv zv)
 |[],ys,zs,xv,yv,zv,h1,h2,h3=>by cases(ao.mp h1);exact .nil
 |x::xs,[],zs,xv,yv,zv,h1,h2,h3=>by obtain⟨a,r,rfl,_,_⟩:=ag.mp h1;cases(ao.mp h2);exact .nil
 |x::xs,y::ys,[],xv,yv,zv,h1,h2,h3=>by obtain⟨a,r,rfl,_,_⟩:=ag.mp h1;obtain⟨b,q,rfl,_,_⟩:=ag.mp h2;cases(ao.mp h3);exact .nil
 |x::xs,y::ys,z::zs,xv,yv,zv,h1,h2,h3=>by obtain⟨a,r,rfl,ha,hr⟩:=ag.mp h1;obtain⟨b,q,rfl,hb,hq⟩:=ag.mp h2;obtain⟨c,t,rfl,hc,ht⟩:=ag.mp h3;exact .cons (ag.mpr ⟨a,_,rfl,ha,ag.mpr ⟨b,_,rfl,hb,aA.one hc⟩⟩) (pJ hr hq ht)
section
variable {X:Cx}{e1 e2 e3:Expr}{ta:eO}{p p2 pos cW:Pos}
def CJ(ta:eO):cu:=λ δ M Q=>ta δ M λ ds M1=>∃(d1 d2 d3:D) (xs ys zs:List D) (n:Nat),ds=[d1,d2,d3]/\cE M1 d1=some xs/\cE M1 d2=some ys/\cE M1 d3=some zs/\xs.length=n/\ys.length=n/\zs.length=n/\n≠0/\n<=10000/\∀p,M1 p=none->Q (.ref p) (ah M1 p (.lst (sS xs ys zs)))
theorem MN(hc:X.calm=true)(hg:Gl X "list")(hm:X.mg "list"=none)(Fe:Gl X "zip")(EZ:X.mg "zip"=none)(ha:QA X [e1,e2,e3] ta) (hs:starEach [e1,e2,e3] X.env=[(false,eval e1 X.env),(false,eval e2 X.env),(false,eval e3 X.env)]:=by rfl) (hs2:starEach [e2,e3] X.env=[(false,eval e2 X.env),(false,eval e3 X.env)]:=by rfl) (he:starEach [.Call (.Name "zip" p2) [e1,e2,e3] [] cW] X.env=(false,eval (.Call (.Name "zip" p2) [e1,e2,e3] [] cW) X.env)::starEach [] X.env:=by rfl):QE X (.Call (.Name "list" p) [.Call (.Name "zip" p2) [e1,e2,e3] [] cW] [] pos) (CJ ta):=by refine bS (IJ hc hg hm Fe EZ ha hs hs2 he) ?_;rintro σ H Q ⟨δ,M,Q2,hs,hm,q,k⟩;refine⟨δ,M,_,hs,hm,q,λ vs H1 ds M1 hd bQ t1 ⟨d1,d2,d3,xs,ys,zs,n,e,s1,s2,s3,l1,l2,l3,n0,cI,q1⟩=>?_⟩;subst e;obtain⟨v1,r,rfl,Pb,hr⟩:=ag.mp hd;obtain⟨v2,r2,rfl,Pa,BM⟩:=ag.mp hr;obtain⟨v3,r3,rfl,Yn,U8⟩:=ag.mp BM;cases(ao.mp U8);obtain⟨b1,l,xv,rfl,q3,dx⟩:=vR bQ s1 Pb;obtain⟨b2,m,yv,rfl,q4,dy⟩:=vR bQ s2 Pa;obtain⟨b3,n',zv,rfl,q5,dz⟩:=vR bQ s3 Yn;refine⟨b1,b2,b3,l,m,n',xv,yv,zv,n,rfl,q3,q4,q5,by rw[dx.length,l1],by rw[dy.length,l2],by rw[dz.length,l3],n0,cI,λ ps H2 r z hn=>?_⟩;have t2:=tU z;have t3:ar H2 (upd H2 r (.lst (ps.map V.ref))):=ar.laid hn;have m2:=ID z bQ;exact k _ _ _ _ (aE.mpr rfl) (m2.put (u:=.lst (sS xs ys zs)) t3 ⟨_,aP,aA.mono t3 _ (tV z (pJ dx dy dz))⟩) (t1.trans (t2.trans t3)) (q1 r (m2.free hn))
def CK(ta:eO):cu:=λ δ M Q=>ta δ M λ ds M1=>∃i j:Int,ds=[.int i,.int j]/\(-10000<=i/\i<=10000)/\(-10000<=j/\j<=10000)/\(j - i).toNat<=10000/\∀p,M1 p=none->Q (.ref p) (ah M1 p (.lst (cR i (j - i).toNat)))
theorem MP(hc:X.calm=true)(hg:Gl X "list")(hm:X.mg "list"=none)(Vr:Gl X "range")(Vf:X.mg "range"=none)(ha:QA X [e1,e2] ta)(hs:starEach [e1,e2] X.env=[(false,eval e1 X.env),(false,eval e2 X.env)]:=by rfl)(hs2:starEach [e2] X.env=[(false,eval e2 X.env)]:=by rfl):QE X (.Call (.Name "list" p) [.Call (.Name "range" p2) [e1,e2] [] cW] [] pos) (CK ta):=by refine bS (ie (Bw hc) hg hm (by decide+kernel) (ma (ie Bu Vr Vf (by decide+kernel) ha (by decide) (by decide) (by rw[hs,hs2]) (by rw[hs2];rfl)) rA)) ?_;rintro σ H Q ⟨δ,M,Q2,hs,hm,q,k⟩;refine⟨δ,M,_,hs,hm,q,λ xs H1 ds M1 hd bQ t1 ⟨i,j,e,hi,hj,hn,q1⟩=>?_⟩;subst e;obtain⟨x,r,rfl,hx,hr⟩:=ag.mp hd;obtain⟨y,r2,rfl,hy,BM⟩:=ag.mp hr;cases(ao.mp BM);cases(au.mp hx);cases(au.mp hy);refine⟨i,j,rfl,λ r Rw=>?_⟩;refine⟨r,i,j,rfl,aP,⟨by omega,by omega⟩,⟨by omega,by omega⟩,hn,λ p hp=>?_⟩;have t2:ar H1 (upd H1 r (.L_ i j)):=ar.laid Rw;have t3:=ar.laid (o:=.lst (vW i (j - i).toNat)) hp;exact k _ _ _ _ (aE.mpr rfl) ((bQ.laid Rw).put (u:=.lst (cR i (j - i).toNat)) t3 ⟨_,aP,FK i _⟩) (t1.trans (t2.trans t3)) (q1 p ((bQ.laid Rw).free hp))
end
end L3
namespace L4
open PySem L2 L3
section
variable {X:Cx}{e1 e2 e3:Expr}{ta:eO}{p p2 pos cW:Pos}
theorem Lx(hc:X.calm=true)(hg:Gl X "list")(hm:X.mg "list"=none)(Fe:Gl X "zip")(EZ:X.mg "zip"=none)(ha:WA X [e1,e2,e3] ta) (hs:starEach [e1,e2,e3] X.env=[(false,eval e1 X.env),(false,eval e2 X.env),(false,eval e3 X.env)]:=by rfl) (hs2:starEach [e2,e3] X.env=[(false,eval e2 X.env),(false,eval e3 X.env)]:=by rfl) (he:starEach [.Call (.Name "zip" p2) [e1,e2,e3] [] cW] X.env=(false,eval (.Call (.Name "zip" p2) [e1,e2,e3] [] cW) X.env)::starEach [] X.env:=by rfl):WE X (.Call (.Name "list" p) [.Call (.Name "zip" p2) [e1,e2,e3] [] cW] [] pos) (CJ ta):=⟨MN hc hg hm Fe EZ ha.h hs hs2 he⟩
theorem Ly(hc:X.calm=true)(hg:Gl X "list")(hm:X.mg "list"=none)(Vr:Gl X "range")(Vf:X.mg "range"=none)(ha:WA X [e1,e2] ta)(hs:starEach [e1,e2] X.env=[(false,eval e1 X.env),(false,eval e2 X.env)]:=by rfl)(hs2:starEach [e2] X.env=[(false,eval e2 X.env)]:=by rfl):WE X (.Call (.Name "list" p) [.Call (.Name "range" p2) [e1,e2] [] cW] [] pos) (CK ta):=⟨MP hc hg hm Vr Vf ha.h hs hs2⟩
end
theorem HE{ta:eO}{δ:cS}{M:Mem}{Q:bK}(h:ta δ M λ ds M1=>∃(d1 d2 d3:D) (xs ys zs:List D) (n:Nat),ds=[d1,d2,d3]/\cE M1 d1=some xs/\cE M1 d2=some ys/\cE M1 d3=some zs/\xs.length=n/\ys.length=n/\zs.length=n/\n≠0/\n<=10000/\∀p,M1 p=none->Q (.ref p) (ah M1 p (.lst (sS xs ys zs)))):CJ ta δ M Q:=h
theorem HF{ta:eO}{δ:cS}{M:Mem}{Q:bK}(h:ta δ M λ ds M1=>∃i j:Int,ds=[.int i,.int j]/\(-10000<=i/\i<=10000)/\(-10000<=j/\j<=10000)/\(j - i).toNat<=10000/\∀p,M1 p=none->Q (.ref p) (ah M1 p (.lst (cR i (j - i).toNat)))):CK ta δ M Q:=h
end L4
namespace L2
open PySem PySem.Spec PyProof.Rows
abbrev gZ:=Addr->Option (Obj×V)
def iZ(H:Hp)(C:gZ):Hp:=λ b=>match C b with
 |some p=>some (fX p.1 b p.2)
 |none=>H b
def gm(H:Hp)(C:gZ):Hp:=λ b=>match C b with
 |some _=>none
 |none=>H b
theorem iz{H:Hp}{C:gZ}{b:Addr}{p:Obj×V}(e:C b=some p):iZ H C b=some (fX p.1 b p.2):=by unfold iZ;rw[e]
theorem bF{H:Hp}{C:gZ}{b:Addr}(e:C b=none):iZ H C b=H b:=by unfold iZ;rw[e]
theorem fN{H:Hp}{C:gZ}{b:Addr}{p:Obj×V}(e:C b=some p):gm H C b=none:=by unfold gm;rw[e]
theorem bg{H:Hp}{C:gZ}{b:Addr}(e:C b=none):gm H C b=H b:=by unfold gm;rw[e]
theorem aF(C:gZ)(b:Addr):C b=none\/∃p,C b=some p:=by
 cases e:C b with
 |none=>exact .inl rfl
 |some p=>exact .inr ⟨p,rfl⟩
def oH(C:gZ)(h:Heap):Prop:=∀b p,C b=some p->h.get? b=some p.1/\FW b p.2 h
theorem zB{h h':Heap}{b:Addr}{v:V}(x:FW b v h)(k:∀o,h.get? b=some o->h'.get? b=some o):FW b v h':=by obtain⟨u,r,o,h1,h2⟩:=x;exact⟨u,r,o,k _ h1,h2⟩
theorem oH.obj {C:gZ}{h:Heap}(c:oH C h){b:Addr}{p:Obj×V}(e:C b=some p){P:Program}{w:World}{H:Hp}:bq P w H h b (fX p.1 b p.2):=
 ⟨(c b p e).1,(c b p e).1,(c b p e).2,⟨_,(c b p e).1⟩,λ h1 h2 x k=>zB x k⟩
section
variable {P:Program}{w:World}{K:J8}{mg:Str->Option Value}{base:Heap}{A:Around}{outer:List Env}{s s':Shared}{H:Hp}{C:gZ}
theorem gj.BZ {H:Hp}{h:Heap}(x:gj P w H h)(hC:∀b p,C b=some p->∃o u,H b=some (.cQ o u)):gj P w (gm H C) h:=λ b u e=>by
 rcases aF C b with z|⟨p,z⟩
 ·rw[bg z]at e;refine(x b u e).ko (λ c v _ q=>q) (λ c q=>?_) λ c xs q=>?_
  ·rcases aF C c with y|⟨p,y⟩
   ·rw[bg y];exact q
   ·obtain⟨o,u,r⟩:=hC c p y;rw[r]at q;cases q
  ·rcases aF C c with y|⟨p,y⟩
   ·rw[bg y];exact q
   ·obtain⟨o,u,r⟩:=hC c p y;rw[r]at q;cases q
 ·rw[fN z]at e;cases e
theorem gj.cQ {H:Hp}{h:Heap}(x:gj P w H h)(hC:∀b p,C b=some p->H b=none)(c:oH C h):gj P w (iZ H C) h:=λ b u e=>by
 rcases aF C b with z|⟨p,z⟩
 ·rw[bF z]at e;refine(x b u e).ko (λ c v _ q=>q) (λ c q=>?_) λ c xs q=>?_
  ·rcases aF C c with y|⟨p,y⟩
   ·rw[bF y];exact q
   ·rw[hC c p y]at q;cases q
  ·rcases aF C c with y|⟨p,y⟩
   ·rw[bF y];exact q
   ·rw[hC c p y]at q;cases q
 ·rw[iz z]at e;cases e;exact c.obj z
theorem oD.cQ (e:oD P w K mg base A outer s H)(hC:∀b p,C b=some p->H b=none/\base.get? b=none/\b∉sN outer)(c:oH C s.heap):oD P w K mg base A outer s (iZ H C):=by
 refine⟨e.frames,e.mod,λ b o q=>?_,e.Bz,e.iY,λ b hb=>?_,e.bh.cQ (λ b p z=>(hC b p z).1) c,e.bare⟩
 ·rcases aF C b with z|⟨p,z⟩
  ·rw[bF z];exact e.bs b o q
  ·rw[(hC b p z).2.1]at q;cases q
 ·rcases aF C b with z|⟨p,z⟩
  ·rw[bF z];exact e.JS b hb
  ·exact absurd hb (hC b p z).2.2
theorem CE.BZ {Q:VK}{u:Value}(h:CE outer P w (iZ H C) s Q u s')(hC:∀b p,C b=some p->H b=none/\b∉sN outer)(c:oH C s.heap):CE outer P w H s (λ v H2=>∃H',H2=gm H' C/\(∀b p,C b=some p->H' b=some (fX p.1 b p.2))/\Q v H') u s':=by
 obtain⟨v,H',os,bare,un,bh,r,q⟩:=h;have hf:∀b p,C b=some p->H' b=some (fX p.1 b p.2):=λ b p z=>un.kQ b _ _ (iz z);have ne:∀b o,H b=some o->C b=none:=λ b o e=>by
  rcases aF C b with z|⟨p,z⟩
  ·exact z
  ·rw[(hC b p z).1]at e;cases e
 refine⟨v,gm H' C,os,bare,⟨λ b o e n hb hx=>?_,λ b o e n hb hx=>?_,λ b o e n hx=>?_,un.there,λ b xs e=>?_,λ b o x e=>?_,λ b ps e=>?_⟩,bh.BZ λ b p z=>⟨_,_,hf b p z⟩,r,H',rfl,hf,q⟩
 ·rcases aF C b with z|⟨p,z⟩
  ·exact un.keep b o e (by rw[bF z];exact n) hb hx
  ·rw[(c b p z).1]at e;cases e;exact(bh b _ (hf b p z)).1
 ·rcases aF C b with z|⟨p,z⟩
  ·exact un.slot b o e (by rw[bF z];exact n) hb hx
  ·exact absurd hb (hC b p z).2
 ·rcases aF C b with z|⟨p,z⟩
  ·rw[bg z];exact un.free b o e (by rw[bF z];exact n) hx
  ·exact fN z
 ·rw[bg (ne b _ e)];exact un.km b xs (by rw[bF (ne b _ e)];exact e)
 ·rw[bg (ne b _ e)];exact un.kQ b o x (by rw[bF (ne b _ e)];exact e)
 ·rw[bg (ne b _ e)];exact un.lG b ps (by rw[bF (ne b _ e)];exact e)
theorem oD.BZ (e:oD P w K mg base A outer s H)(hC:∀b p,C b=some p->H b=some (fX p.1 b p.2)):oD P w K mg base A outer s (gm H C):=by
 refine⟨e.frames,e.mod,λ b o q=>⟨(e.bs b o q).1,?_⟩,e.Bz,e.iY,λ b hb=>?_,e.bh.BZ λ b p z=>⟨_,_,hC b p z⟩,e.bare⟩
 ·rcases aF C b with z|⟨p,z⟩
  ·rw[bg z];exact(e.bs b o q).2
  ·exact fN z
 ·rcases aF C b with z|⟨p,z⟩
  ·rw[bg z];exact e.JS b hb
  ·exact fN z
theorem CE.cQ {Q:VK}{u:Value}(h:CE outer P w (gm H C) s (λ v H'=>(∀b p,C b=some p->H' b=none)->Q v (iZ H' C)) u s')(JL:gj P w H s.heap)(hC:∀b p,C b=some p->H b=some (fX p.1 b p.2))(vA:∀b∈sN outer,H b=none):CE outer P w H s Q u s':=by
 obtain⟨v,H',os,bare,un,bh,r,q⟩:=h;have nf:∀b p,C b=some p->b∉sN outer:=λ b p z hb=>by have:=hC b p z;rw[vA b hb]at this;cases this
 have kc:∀b p,C b=some p->s'.heap.get? b=some p.1:=λ b p z=>un.keep b _ (JL b _ (hC b p z)).1 (fN z) (nf b p z) (by simp);have fr:∀b p,C b=some p->H' b=none:=λ b p z=>un.free b _ (JL b _ (hC b p z)).1 (fN z) (by simp);have ne:∀b,H b=none->C b=none:=λ b e=>by
  rcases aF C b with z|⟨p,z⟩
  ·exact z
  ·rw[hC b p z]at e;cases e
 have co:oH C s'.heap:=λ b p z=>⟨kc b p z,zB (JL b _ (hC b p z)).2.2.1 λ o e=>by rw[(JL b _ (hC b p z)).1]at e;cases e;exact kc b p z⟩;refine⟨v,iZ H' C,os,bare,⟨λ b o e n hb hx=>un.keep b o e (by rw[bg (ne b n)];exact n) hb hx,λ b o e n hb hx=>un.slot b o e (by rw[bg (ne b n)];exact n) hb hx,λ b o e n hx=>by rw[bF (ne b n)];exact un.free b o e (by rw[bg (ne b n)];exact n) hx,un.there,λ b xs e=>?_,λ b o x e=>?_,λ b ps e=>?_⟩,bh.cQ fr co,r,q fr⟩
 ·rcases aF C b with z|⟨p,z⟩
  ·rw[bF z];exact un.km b xs (by rw[bg z];exact e)
  ·rw[hC b p z]at e;cases e
 ·rcases aF C b with z|⟨p,z⟩
  ·rw[bF z];exact un.kQ b o x (by rw[bg z];exact e)
  ·rw[hC b p z]at e;rw[iz z];exact e
 ·rcases aF C b with z|⟨p,z⟩
  ·rw[bF z];exact un.lG b ps (by rw[bg z];exact e)
  ·rw[hC b p z]at e;cases e
end
end L2
namespace L2
open PySem PySem.Spec PyProof.Rows
structure ka(ps fv:List Str)(sc:Scope):Prop where
 kind:sc.kind=.function
 co:sc.isCoroutine=false
 gen:sc.isGenerator=false
 nd:(ps++fv).Nodup
 par:∀x∈ps,sc.names.lookup x=some .local
 Ec:∀y∈sc.names,y.2≠.cell
 OE:∀x∈fv,sc.names.lookup x=some .free
 all:∀x,sc.names.lookup x=some .free->x∈fv
def uT(P:Program)(w:World)(K:J8)(mg:Str->Option Value)(base:Heap)(N:List Str)(qual:Str)(scope:Scope)(f c:Addr)(cl:List (Str×Addr))(A:Around)(outer:List Env)(s:Shared)(H:Hp):Cx where
 prog:=P
 w:=w
 K:=K
 mg:=mg
 base:=base
 A:=A.deeper (PySem.W.envX qual scope s.heap.objs.size f (.ref c) cl)
 N:=N
 s₀:=s
 H₀:=H
 env:=PySem.W.envX qual scope s.heap.objs.size f (.ref c) cl
 outer:=outer
 stack:=PySem.W.envX qual scope s.heap.objs.size f (.ref c) cl::outer
 ex:=[]
 calm:=true
 fn:=λ _=>false
 pn:=[]
 xe:=λ _ _=>False
abbrev Sb:=List V->List V->Hp->VK->Prop
structure O5(h:Heap)(H:Hp)(cl:List (Str×Addr))(fv:List Str)(gp:List V):Prop where
 len:gp.length=fv.length
 val:∀(i:Nat) (x:Str) (v:V),fv[i]?=some x->gp[i]?=some v->∃d,cl.lookup x=some d/\FW d v h
 inj:∀x y d,cl.lookup x=some d->cl.lookup y=some d->x=y
 free:∀x d,cl.lookup x=some d->x∈fv/\H d=none
structure qI(P:Program)(w:World)(K:J8)(mg:Str->Option Value)(base:Heap)(k:Nat)(L:lB)(ps fv:List Str)(sp:Sb):Prop where
 len:∀vs gp H Q,sp vs gp H Q->vs.length=ps.length
 run:∀(A:Around) (outer:List Env) (s:Shared) (H:Hp) (f c:Addr) (cl:List (Str×Addr)) (us:List Value) (vs gp:List V) (Q:VK),cM k A->oD P w K mg base A outer s H->kM f L c cl s.heap->rY c L.qual s.heap->O5 s.heap H cl fv gp->Vals vs us->sp vs gp H Q->
  codeAny (model P w) A (.call (.ref f) ⟨us,[]⟩) (CR (λ _ _ _ _ _ _=>False) outer P w H s Q λ _ _ _=>False) s
theorem Lu{x:Str}{u:Value}:∀{ps:List Str} {us:List Value} {i:Nat},ps.Nodup->ps[i]?=some x->us[i]?=some u->(ps.zip us).reverse.lookup x=some u:=by
 intro ps us i nd h1 h2;have mem:(x,u)∈ps.zip us:=by have:(ps.zip us)[i]?=some (x,u):=getElem?_zip_eq_some.mpr ⟨h1,h2⟩;exact k9 this
 have un:∀v,(x,v)∈ps.zip us->v=u:=λ v hv=>by obtain⟨j,hj⟩:=mem_iff_getElem?.mp hv;obtain⟨a,b⟩:=getElem?_zip_eq_some.mp hj;have:=gK nd h1 a;subst this;rw[h2]at b;exact(A9 b).symm
 have go:∀l:List (Str×Value),(x,u)∈l->(∀v,(x,v)∈l->v=u)->l.lookup x=some u:=by
  intro l
  induction l with
  |nil=>intro h;cases h
  |cons p l ih=>
   intro h hu;obtain⟨y,v⟩:=p;rw[x9];cases hy:x==y with
   |true=>
    have:x=y:=by simpa using hy
    subst this;rw[hu v (.head _)]
   |false=>
    rcases D1.mp h with e|h
    ·cases e;simp at hy
    ·exact ih h λ w hw=>hu w (.tail _ hw)
 exact go _ (mem_reverse.mpr mem) λ v hv=>un v (mem_reverse.mp hv)
theorem NY{P:Program}{w:World}{K:J8}{mg:Str->Option Value}{base:Heap}{k:Nat}{L:lB}{ps fv:List Str}{sp:Sb}(S:ka ps fv L.scope)(len:∀vs gp H Q,sp vs gp H Q->vs.length=ps.length) (nW:∀(cl:List (Str×Addr)) (c:Addr) (mB:Value) (us:List Value),us.length=ps.length->bindArgs (PySem.W.kla_fn "<lambda>" L.qual L.params L.body L.scope cl L.pm (.ref c) mB) ⟨us,[]⟩=pure (ps.zip us)) (dZ:∀(A:Around) (outer:List Env) (s:Shared) (H:Hp) (f c:Addr) (cl:List (Str×Addr)) (vs gp:List V) (Q:VK),cM k (A.deeper (PySem.W.envX L.qual L.scope s.heap.objs.size f (.ref c) cl))->sp vs gp H Q->
   ∃t,PE (uT P w K mg base (ps++fv) L.qual L.scope f c cl A outer s H) L.body t/\t ((vs++gp).map some) H Q):qI P w K mg base (k+1) L ps fv sp:=by
 refine⟨len,λ A outer s H f c cl us vs gp Q hr e0 hf hc hC r Bg=>?_⟩;have hl:=len _ _ _ _ Bg;have lim:s.heap.NoLimit:=e0.mod.nolimit.keeps λ b o e=>(e0.bs b o e).1;obtain⟨mB,ef⟩:=hf;refine PySem.W.kla_callFunE hr.depth ef rfl S.co S.gen rfl hc ?_;rw[nW cl c mB us (by rw[<- r.length];exact hl)];refine H9 (wpAny_newFunctionEnv S.Ec (λ y hy=>S.par _ (of_mem_zip (show(y.1,y.2)∈ps.zip us from hy)).1) (λ h1 Ve JJ=>⟨lim.fresh _ JJ,?_⟩) S.kind);show codeAny _ _ (.expr L.body (PySem.W.envX L.qual L.scope s.heap.objs.size f (.ref c) cl)) _ _;have Tf:∀b o,s.heap.get? b=some o->h1.get? b=some o:=λ b o e=>JJ.extBut b o (D4 (D5 e)) (j4 _ e);obtain⟨t,ht,hq⟩:=dZ A outer s H f c cl vs gp Q (hr.deeper _) Bg;have I:Inv (uT P w K mg base (ps++fv) L.qual L.scope f c cl A outer s H) [] ((vs++gp).map some) H {s with heap:=h1,toks:=s.toks+(ps.zip us).length}:=by
  have Ed:∀b:Addr,b∉(uT P w K mg base (ps++fv) L.qual L.scope f c cl A outer s H).ex:=λ b z=>absurd (show b∈([]:List Addr)from z) (by simp);refine⟨⟨e0.mod,S.kind,rfl,rfl,G5 _,hC.inj,λ y hy=>?_,λ y d z=>(by cases z),λ _=>hr.hd,Around.frames_deeper e0.frames,.inr ⟨rfl,rfl⟩,λ b z=>absurd z (Ed b),e0.bs,e0.Bz,λ b _ _=>Ed b,λ b z=>absurd z (Ed b),e0.iY,e0.JS⟩,
   rfl,e0.bare,Un.kept Tf,⟨_,Ve,λ i y v q1 q2 q3=>?_⟩,λ y d q=>?_,e0.bh.fresh (G5 _),λ y d q=>(hC.free y d q).2,λ p hp=>absurd (show p∈([]:List (Addr×Obj))from hp) (by simp),e0.bh.kept Tf,?_⟩
  ·have hy:L.scope.names.lookup y=some .cell\/L.scope.names.lookup y=some .free:=hy;rcases hy with hy|hy
   ·exact absurd rfl (S.Ec _ (l9 hy))
   ·obtain⟨i,hi⟩:=mem_iff_getElem?.mp (S.all y hy);have lt:i < gp.length:=by rw[hC.len];exact(g9.mp hi).1
    obtain⟨d,q,_⟩:=hC.val i y _ hi (i5 lt);exact⟨d,q⟩
  ·have q2:(vs++gp)[i]?=some v:=by
    rw[s9]at q2;cases z:(vs++gp)[i]? with
    |none=>rw[z]at q2;cases q2
    |some a=>rw[z]at q2;cases q2;rfl
   have q1:(ps++fv)[i]?=some y:=q1;by_cases hi:i < ps.length
   ·rw[c9 hi]at q1;rw[c9 (by rw[hl];exact hi)]at q2;obtain⟨u,hu,rv⟩:=r.get q2;exact⟨u,rv,.inl ⟨S.par y (k9 q1),Lu (nodup_append.mp S.nd).1 q1 hu⟩⟩
   ·rw[c7 (by omega)]at q1;rw[c7 (by omega),hl]at q2;obtain⟨d,q,u,rv,ic⟩:=hC.val _ y v q1 q2;exact⟨u,rv,.inr ⟨.inr (S.OE y (k9 q1)),d,q,let⟨o,a,b⟩:=ic;⟨o,Tf _ _ a,b⟩⟩⟩
  ·obtain⟨i,hi⟩:=mem_iff_getElem?.mp (hC.free y d q).1;have lt:i < gp.length:=by rw[hC.len];exact(g9.mp hi).1
   obtain⟨d',q',u,_,ic⟩:=hC.val i y _ hi (i5 lt);have:d'=d:=A9 (q'.symm.trans q);subst this;exact⟨some u,let⟨o,a,b⟩:=ic;⟨o,Tf _ _ a,b⟩⟩
  ·show _=(ps++fv).length;rw[B4,o6,o6,hl,hC.len]
 refine PySem.W.kla_codeExpr (J1 (ht [] _ _ H Q I hq) (λ u s' hs=>?_) λ e s' hs=>False.elim hs);obtain⟨v,H',J,rv,q⟩:=hs;exact⟨v,H',J.os,J.bare,J.base,J.bh,rv,q⟩
end L2
namespace L2
open PySem PySem.Spec PyProof.Rows
structure Ss(cells:List (Str×Addr))(cn:List (Str×Nat))(σ:St)(C:gZ):Prop where
 has:∀x j,(x,j)∈cn->∃d o v,cells.lookup x=some d/\σ[j]?=some (some v)/\C d=some (o,v)
 only:∀d p,C d=some p->∃x j,(x,j)∈cn/\cells.lookup x=some d
section
variable {X:Cx}{pins:List (Addr×Obj)}{σ:St}{H:Hp}{s:Shared}
theorem Inv.R8 (I:Inv X pins σ H s):∀(cn:List (Str×Nat)),(∀x j,(x,j)∈cn->X.env.kindOf x=some .cell/\X.N[j]?=some x/\∃v,σ[j]?=some (some v))->X.N.Nodup->∃C,Ss X.env.cells cn σ C/\oH C s.heap
 |[],_,_=>⟨λ _=>none,⟨(λ _ _ h=>nomatch h),(λ _ _ h=>nomatch h)⟩,(λ _ _ h=>nomatch h)⟩
 |(x,j)::cn,h,nd=>by
  obtain⟨C,h1,h2⟩:=I.R8 cn (λ y i hy=>h y i (.tail _ hy)) nd;obtain⟨hk,hN,v,hv⟩:=h x j (.head _);obtain⟨m,hn,hl⟩:=I.loc;obtain⟨u,r,lk⟩:=hl j x v hN hv (.inr (.inl hk));rcases lk with⟨q,_⟩|⟨_,d,hd,hc⟩
  ·rw[hk]at q;cases q
  obtain⟨o,ho,hz⟩:=Kj r hc;refine⟨λ b=>if b=d then some (o,v)else C b,⟨λ y i hy=>?_,λ b p hb=>?_⟩,λ b p hb=>?_⟩
  ·rcases D1.mp hy with e|Wq
   ·cases e;exact⟨d,o,v,hd,hv,J6 rfl⟩
   ·obtain⟨d',o',v',e1,e2,e3⟩:=h1.has y i Wq;by_cases z:d'=d
    ·subst z;have Zw:y=x:=I.ok.inj _ _ _ e1 hd;subst Zw;obtain⟨_,Y5,_⟩:=h y i (.tail _ Wq);have:i=j:=gK nd Y5 hN;subst this;exact⟨d',o,v,hd,hv,J6 rfl⟩
    ·exact⟨d',o',v',e1,e2,(J7 z).trans e3⟩
  ·by_cases z:b=d
   ·subst z;exact⟨x,j,.head _,hd⟩
   ·have hb:C b=some p:=(J7 z).symm.trans hb;obtain⟨y,i,m1,m2⟩:=h1.only b p hb;exact⟨y,i,.tail _ m1,m2⟩
  ·by_cases z:b=d
   ·subst z;have hb:some (o,v)=some p:=(J6 rfl).symm.trans hb;cases hb;exact⟨ho,u,r,hc⟩
   ·exact h2 b p ((J7 z).symm.trans hb)
end
section
variable {X:Cx}{k:Nat}{f:Addr}{fd:FuncData}{ps:List Str}{sp:Sp}{sO:List V}{ds:List Value}{x:Str}{p pos:Pos}{e:Expr}{es:List Expr}{t:TA}{cn:List (Str×Nat)}
def LI(sp:Sp)(sO:List V)(cells:List (Str×Addr))(cn:List (Str×Nat))(t:TA):TE:=λ σ H Q=>t σ H λ vs H1=>(∀x j,(x,j)∈cn->∃v,σ[j]?=some (some v))/\
 ∀C,Ss cells cn σ C->(∀x j y i b,(x,j)∈cn->(y,i)∈cn->cells.lookup x=some b->cells.lookup y=some b->j=i)->(∀b p,C b=some p->H1 b=none)->sp (vs++sO) (iZ H1 C) (λ v H'=>Q v (gm H' C)) E0
theorem DP(F:cw X.prog X.w X.K X.mg X.base fA k f fd ps sp)(hr:cM k X.A)(hg:Gl X x)(hm:X.mg x=some (.ref f))(hk:PySem.W.keepIn X.K (.ref f)=true)(hb:Binds X.K fd ps ds)(hd:Vals sO ds) (qq:∀x j,(x,j)∈cn->X.env.kindOf x=some .cell/\X.N[j]?=some x/\X.fn x=true) (hN:X.N.Nodup) (ha:PA X (e::es) t) (hdb:(x==("__debug__":Str))=false:=by decide) (he:starEach (e::es) X.env=(false,eval e X.env)::starEach es X.env:=by rfl) (hpl:(backTo pos (starEach es X.env)).any (·.1)=false:=by rfl):PE X (.Call (.Name x p) (e::es) [] pos) (LI sp sO X.env.cells cn t):=by
 intro pins s σ H Q I h;refine p8 (yD I hg hm ?_ hdb);refine PySem.W.callWith_K (h₀:=X.base) I.ok.mod.Rm hk (cT (ha pos pins s σ H _ I h) λ us s1 ⟨vs,H1,I1,r,hv,q⟩=>⟨I1.oY,?_⟩) he hpl;obtain⟨C,hC,Xn⟩:=I1.R8 cn (λ x j hx=>⟨(qq x j hx).1,(qq x j hx).2.1,hv x j hx⟩) hN;have fr:∀b p,C b=some p->H1 b=none/\X.base.get? b=none/\b∉sN X.stack:=λ b p hb=>by
  obtain⟨y,j,m1,m2⟩:=hC.only b p hb;have ge:=I1.ok.Pw y b (qq y j m1).2.2 m2;refine⟨I1.fH y b m2,Heap.get?_none_of_le (D8 I1.ok.Bz ge),λ z=>?_⟩;rcases D1.mp (I1.mY b z)with z|z
  ·exact I1.Lm y b m2 z
  ·obtain⟨_,o,ho,_⟩:=I1.ok.iY.mem z;exact absurd (D5 ho) (Nat.not_lt.mpr ge)
 have q:=q C hC (λ y j z i b m1 m2 e1 e2=>by have:=I1.ok.inj _ _ _ e1 e2;subst this;exact gK hN (qq _ _ m1).2.1 (qq _ _ m2).2.1) λ b p hb=>(fr b p hb).1;have r2:Vals (vs++sO) (us++ds):=r.append hd;have hl:(us++ds).length=ps.length:=by rw[<- r2.length];exact F.len _ _ _ _ q
 refine wpAny_call (E7 (F.run X.A X.stack s1 (iZ H1 C) ⟨us,[]⟩ (us++ds) (vs++sO) _ E0 hr (I1.OG.cQ fr Xn) (hb s1 us I1.oY hl) r2 q) λ r s' hq=>?_);cases r with
 |error e=>exact False.elim hq
 |ok fl=>
  cases fl with
  |ret u=>have hq:=CE.BZ hq (λ b p hb=>⟨(fr b p hb).1,(fr b p hb).2.2⟩) Xn;obtain⟨v,H2,I2,rv,H',e,hf,q⟩:=I1.after hq;exact⟨v,H2,I2,rv,by rw[e];exact q⟩
  |next=>exact False.elim hq
  |brk=>exact False.elim hq
  |cont=>exact False.elim hq
end
section
variable {X:Cx}{k:Nat}{x:Str}{p pos:Pos}{e:Expr}{es:List Expr}{t:TA}{i:Nat}
structure Sh(H:Hp)(f:Addr)(L:lB)(fv:List Str)(gp:List V)(C:gZ):Prop where
 ex:∃c cl,(∃o,H f=some (.cQ o (.ext (kM f L c cl))))/\(∃o,H c=some (.cQ o (.ext (rY c L.qual))))/\(∀x y d,cl.lookup x=some d->cl.lookup y=some d->x=y)/\(∀x d,cl.lookup x=some d->x∈fv/\∃p,C d=some p)/\
  ∀(i:Nat) (x:Str) (v:V),fv[i]?=some x->gp[i]?=some v->∃d o,cl.lookup x=some d/\C d=some (o,v)
 len:gp.length=fv.length
 cQ:∀b p,C b=some p->H b=some (fX p.1 b p.2)
def XG(P:Program)(w:World)(K:J8)(mg:Str->Option Value)(base:Heap)(k:Nat)(i:Nat)(t:TA):TE:=λ σ H Q=>∃f,σ[i]?=some (some (.ref f))/\(∃o L c cl,H f=some (.cQ o (.ext (kM f L c cl))))/\t σ H λ vs H1=>∃(L:lB) (ps fv:List Str) (sp:Sb) (gp:List V) (C:gZ),
 qI P w K mg base k L ps fv sp/\Sh H1 f L fv gp C/\sp vs gp (gm H1 C) λ v H'=>(∀b p,C b=some p->H' b=none)->Q v (iZ H' C)
theorem Le{H:Hp}{h:Heap}{P:Program}{w:World}{f c:Addr}{o:Obj}{L:lB}{cl:List (Str×Addr)}(bh:gj P w H h)(e:H f=some (.cQ o (.ext (kM f L c cl)))):kM f L c cl h:=(bh f _ e).2.1
theorem y_{h:Heap}{f c:Addr}{L:lB}{cl:List (Str×Addr)}(x:kM f L c cl h):PySem.W.FnAt f h:=let⟨mB,e⟩:=x;⟨_,_,_,_,e⟩
theorem DO(hr:cM k X.A)(hi:X.N[i]?=some x)(hv:Lo X.env.scope x)(ha:PA X (e::es) t)(hd:(x==("__debug__":Str))=false:=by decide)(hcd:(x==("__classdict__":Str))=false:=by decide) (he:starEach (e::es) X.env=(false,eval e X.env)::starEach es X.env:=by rfl) (hpl:(backTo pos (starEach es X.env)).any (·.1)=false:=by rfl):PE X (.Call (.Name x p) (e::es) [] pos) (XG X.prog X.w X.K X.mg X.base k i t):=by
 intro pins s σ H Q I h;obtain⟨f,ef,⟨o0,L0,c0,Xo,e0⟩,h⟩:=h;refine p8 (cT (DL hi hv hd hcd pins s σ H (λ v H'=>v=.ref f/\H'=H) I ⟨.ref f,ef,rfl,rfl⟩) λ u s0 ⟨v,H0,I0,rv,ev,eH⟩=>?_);subst ev;subst eH;cases(show u=Value.ref f from rv);have YQ:=Le I0.bh e0;refine PySem.W.callWith_F (y_ YQ) (cT (ha pos pins s0 σ H0 _ I0 h) λ us s1 ⟨vs,H1,I1,r,L,ps,fv,sp,gp,C,ok,at',q⟩=>?_) he hpl;obtain⟨c,cl,⟨o1,h1⟩,⟨o2,h2⟩,inj,OE,val⟩:=at'.ex;have WU:=Le I1.bh h1;have YS:rY c L.qual s1.heap:=(I1.bh c _ h2).2.1;refine⟨y_ WU,wpAny_call (E7 (ok.run X.A X.stack s1 (gm H1 C) f c cl us vs gp _ hr (I1.OG.BZ at'.cQ) WU YS ⟨at'.len,λ i x v a b=>?_,inj,λ x d z=>?_⟩ r q) λ r s' hq=>?_)⟩
 ·obtain⟨d,o,e1,e2⟩:=val i x v a b;exact⟨d,e1,(I1.bh d _ (at'.cQ d _ e2)).2.2.1⟩
 ·obtain⟨a,b,z2⟩:=OE x d z;exact⟨a,fN z2⟩
 ·cases r with
  |error e=>exact False.elim hq
  |ok fl=>
   cases fl with
   |ret u=>exact I1.after (CE.cQ hq I1.bh at'.cQ I1.qU)
   |next=>exact False.elim hq
   |brk=>exact False.elim hq
   |cont=>exact False.elim hq
end
end L2
namespace L3
open PySem PySem.Spec PyProof.Rows L2 L5
abbrev CM:=Addr->Option D
def iI(M:Mem)(C:CM):Mem:=λ b=>match C b with
 |some d=>some (.fm (.zC d))
 |none=>M b
def gT(M:Mem)(C:CM):Mem:=λ b=>match C b with
 |some _=>none
 |none=>M b
theorem mH{M:Mem}{C:CM}{b:Addr}{d:D}(e:C b=some d):iI M C b=some (.fm (.zC d)):=by unfold iI;rw[e]
theorem jW{M:Mem}{C:CM}{b:Addr}(e:C b=none):iI M C b=M b:=by unfold iI;rw[e]
theorem J_{M:Mem}{C:CM}{b:Addr}{d:D}(e:C b=some d):gT M C b=none:=by unfold gT;rw[e]
theorem mw{M:Mem}{C:CM}{b:Addr}(e:C b=none):gT M C b=M b:=by unfold gT;rw[e]
theorem dB(C:CM)(b:Addr):C b=none\/∃d,C b=some d:=by
 cases e:C b with
 |none=>exact .inl rfl
 |some p=>exact .inr ⟨p,rfl⟩
structure Gr(K:J8)(H:Hp)(C:gZ)(M:CM):Prop where
 l:∀b p,C b=some p->∃d,M b=some d/\Dat K H d p.2
 r:∀b d,M b=some d->∃p,C b=some p
theorem Gr.none {K:J8}{H:Hp}{C:gZ}{M:CM}(h:Gr K H C M)(b:Addr):C b=Option.none↔M b=Option.none:=by
 constructor
 ·intro e;rcases dB M b with z|⟨d,z⟩
  ·exact z
  ·obtain⟨p,q⟩:=h.r b d z;rw[q]at e;cases e
 ·intro e;rcases aF C b with z|⟨p,z⟩
  ·exact z
  ·obtain⟨d,q,_⟩:=h.l b p z;rw[q]at e;cases e
section
variable {K:J8}{H:Hp}{C:gZ}{N:CM}{M:Mem}
theorem qT(hC:∀b p,C b=some p->∃o v,H b=some (fX o b v)):BC H (gm H C):=by
 have ne:∀b u,H b=some u->(∀o v,u≠fX o b v)->C b=none:=λ b u e n=>by
  rcases aF C b with z|⟨p,z⟩
  ·exact z
  ·obtain⟨o,v,q⟩:=hC b p z;rw[q]at e;exact absurd (A9 e).symm (n o v)
 exact⟨λ b xs e=>by rw[bg (ne b _ e λ o v z=>by cases z)];exact e,λ b o xs e=>by rw[bg (ne b _ e λ o v z=>by cases z)];exact e,λ b o xs e=>by rw[bg (ne b _ e λ o v z=>by cases z)];exact e⟩
theorem mq(hC:∀b p,C b=some p->H b=none):ar H (iZ H C):=by
 have ne:∀b u,H b=some u->C b=none:=λ b u e=>by
  rcases aF C b with z|⟨p,z⟩
  ·exact z
  ·rw[hC b p z]at e;cases e
 exact⟨λ b xs e=>by rw[bF (ne b _ e)];exact e,λ b o xs e=>by rw[bF (ne b _ e)];exact e⟩
theorem pG.BZ {a:Addr}{o:MO}(h:pG K H a o)(hC:∀b p,C b=some p->∃o v,H b=some (fX o b v))(ha:C a=none):pG K (gm H C) a o:=by
 have ts:=qT hC;have kp:∀b u,H b=some u->(∀o v,u≠fX o b v)->gm H C b=some u:=λ b u e n=>by
  rcases aF C b with z|⟨p,z⟩
  ·rw[bg z];exact e
  ·obtain⟨o,v,q⟩:=hC b p z;rw[q]at e;exact absurd (A9 e).symm (n o v)
 have ea:gm H C a=H a:=bg ha;cases o with
 |lst ds=>obtain⟨xs,h,q⟩:=h;exact⟨xs,ea.trans h,aA.mon ts ds q⟩
 |cL b kvs=>
  cases b with
  |false=>obtain⟨xs,h,q⟩:=h;exact⟨xs,ea.trans h,Paired.oX q λ p q z=>⟨z.1,Dat.mon ts _ z.2⟩⟩
  |true=>obtain⟨xs,h,q⟩:=h;exact⟨xs,ea.trans h,Paired.oX q λ p q z=>⟨z.1,z.2.1,Dat.mon ts _ z.2.2.1,Dat.mon ts _ z.2.2.2⟩⟩
 |fm x=>
  cases x with
  |lam L cl=>obtain⟨c,⟨o,h⟩,o',h'⟩:=h;exact⟨c,⟨o,ea.trans h⟩,o',kp _ _ h' λ o v z=>by cases z⟩
  |zC d=>obtain⟨o,v,h,q⟩:=h;exact⟨o,v,ea.trans h,Dat.mon ts d q⟩
  |lT q=>obtain⟨cs,h1,h2⟩:=h;exact⟨cs,ea.trans h1,λ p hp=>let⟨o,z⟩:=h2 p hp;⟨o,kp _ _ z λ o v y=>by cases y⟩⟩
  |Tu kvs=>obtain⟨xs,h,q⟩:=h;exact⟨xs,ea.trans h,Paired.oX q λ p q z=>⟨z.1,Dat.mon ts _ z.2.1,Dat.mon ts _ z.2.2⟩⟩
theorem RelM.cQ (h:RelM K H M)(hC:∀b p,C b=some p->H b=none)(c:Gr K H C N):RelM K (iZ H C) (iI M N):=λ a o e=>by
 have t:=mq hC;rcases dB N a with z|⟨d,z⟩
 ·rw[jW z]at e;exact(h a o e).mono t (bF ((c.none a).mpr z))
 ·rw[mH z]at e;cases e;obtain⟨p,q⟩:=c.r a d z;obtain⟨d',q',r⟩:=c.l a p q;rw[z]at q';cases q';exact⟨_,_,iz q,Dat.mono t _ r⟩
theorem RelM.BZ (h:RelM K H M)(hC:∀b p,C b=some p->∃o v,H b=some (fX o b v))(c:∀b,C b=none↔N b=none):RelM K (gm H C) (gT M N):=λ a o e=>by
 rcases dB N a with z|⟨d,z⟩
 ·rw[mw z]at e;exact(h a o e).BZ hC ((c a).mpr z)
 ·rw[J_ z]at e;cases e
end
section
variable {X:Cx}{L:lB}{c P:Addr}{pos:Pos}
def LW(P:Addr)(L:lB)(cells:List (Str×Addr)):cu:=λ _ M Q=>M P=some (.fm (.lT L.qual))/\∀f,M f=none->(∀x d,cells.lookup x=some d->d≠f)->Q (.ref f) (ah M f (.fm (.lam L (bt cells L.scope.names []))))
theorem QC(qp:X.env.code=.ref c)(B:Ku X.mg X.base c P)(Ff:defaultsOf L.params X.env=([],[]))(Oh:L.pm=(X.mg "__name__").getD .none)(hq:X.env.qual++"<lambda>"=L.qual) (vA:∀n,(n,NameKind.free)∈L.scope.names->X.env.kindOf n=some .cell\/X.env.kindOf n=some .free):QE X (.Lambda L.params L.body L.scope pos) (LW P L X.env.cells):=by
 refine bS (Nk qp B Ff Oh hq vA) ?_;rintro σ H Q ⟨δ,M,Q2,hs,hm,⟨hP,q⟩,k⟩;have tb:Lp H P L.qual:=hm P _ hP;obtain⟨cs,eP,Fg⟩:=id tb;refine⟨tb,λ f c H' nf hf old XB hc hl=>?_⟩;have t:ar H H':=⟨λ b xs e=>old b _ (λ z=>by rw[z,eP]at e;cases e) e,λ b o u e=>old b _ (λ z=>by rw[z,eP]at e;cases e) e⟩;refine k _ H' _ _ (aE.mpr rfl) (λ a o e=>?_) t (q f (hm.free nf) hf);by_cases z:a=f
 ·subst z;rw[af]at e;cases e;exact⟨c,hl,hc⟩
 ·rw[av z]at e;by_cases y:a=P
  ·subst y;rw[hP]at e;cases e;exact XB
  ·obtain⟨u,hu⟩:=(hm a o e).there;exact(hm a o e).mono t (by rw[hu];exact old a u y hu)
end
structure Kv(cells:List (Str×Addr))(cn:List (Str×Nat))(δ:cS)(C:CM):Prop where
 has:∀x j,(x,j)∈cn->∃b d,cells.lookup x=some b/\δ[j]?=some (some d)/\C b=some d
 only:∀b d,C b=some d->∃x j,(x,j)∈cn/\cells.lookup x=some b
 inj:∀x j y i b,(x,j)∈cn->(y,i)∈cn->cells.lookup x=some b->cells.lookup y=some b->x=y
section
variable {X:Cx}{x:Str}{p pos:Pos}{e:Expr}{es:List Expr}{t:eO}{k j:Nat}{ps:List Str}{sp:gs}{cn:List (Str×Nat)}
def Ud(sp:gs)(cells:List (Str×Addr))(cn:List (Str×Nat))(t:eO):cu:=λ δ M Q=>t δ M λ ds M1=>(∀x j,(x,j)∈cn->∃d,δ[j]?=some (some d))/\∀C,Kv cells cn δ C->(∀b d,C b=some d->M1 b=none)->sp ds (iI M1 C) λ d M'=>Q d (gT M' C)
set_option tactic.hygienic true in
theorem Ip(d:cX X.prog X.w X.K X.mg X.base k x ps sp)(hr:cM k X.A)(hg:Gl X x)(qq:∀x j,(x,j)∈cn->X.env.kindOf x=some .cell/\X.N[j]?=some x/\X.fn x=true)(hN:X.N.Nodup)(ha:QA X (e::es) t) (hdb:(x==("__debug__":Str))=false:=by decide) (he:starEach (e::es) X.env=(false,eval e X.env)::starEach es X.env:=by rfl) (hpl:(backTo pos (starEach es X.env)).any (·.1)=false:=by rfl):QE X (.Call (.Name x p) (e::es) [] pos) (Ud sp X.env.cells cn t):=by
 obtain⟨f,fd,G,hm,kp,b⟩:=d.ex;refine bS (DP (cn:=cn) G hr hg hm kp b .nil qq hN ha hdb he hpl) ?_;rintro σ H Q ⟨δ,M,Q2,hs,hm,q,k⟩;refine⟨δ,M,_,hs,hm,q,λ vs H1 ds M1 hd bQ t1 ⟨hv,q1⟩=>⟨λ x j hx=>?_,λ C hC un hn=>?_⟩⟩
 ·obtain⟨d,e⟩:=hv x j hx;obtain⟨v,e',_⟩:=hs.get j d e;exact⟨v,e'⟩
 ·have ex:∀b p,C b=some p->∃d,(∃x j,(x,j)∈cn/\X.env.cells.lookup x=some b/\δ[j]?=some (some d))/\Dat X.K H1 d p.2:=λ b p hb=>by obtain⟨y,i,m1,m2⟩:=hC.only b p hb;obtain⟨b',o,v,l1,l2,l3⟩:=hC.has y i m1;rw[m2]at l1;cases l1;rw[hb]at l3;cases l3;obtain⟨d,e⟩:=hv y i m1;obtain⟨v',e',r⟩:=hs.get i d e;rw[l2]at e';cases e';exact⟨d,⟨y,i,m1,m2,e⟩,Dat.mono t1 d r⟩
  let N:CM:=λ b=>match h:C b with
   |some p=>some (ex b p h).choose
   |none=>none
  have N1:∀b p (h:C b=some p),N b=some (ex b p h).choose:=λ b p h=>by
   show(match h:C b with|some p=>some (ex b p h).choose|none=>none)=_;split
   ·rename_i p' h';have:=h.symm.trans h';cases this;rfl
   ·rename_i h';rw[h]at h';cases h'
  have N2:∀b,C b=none->N b=none:=λ b h=>by
   show(match h:C b with|some p=>some (ex b p h).choose|none=>none)=_;split
   ·rename_i p' h';rw[h]at h';cases h'
   ·rfl
  have cr:Gr X.K H1 C N:=⟨λ b p h=>⟨_,N1 b p h,(ex b p h).choose_spec.2⟩,λ b d h=>by
   rcases aF C b with z|⟨p,z⟩
   ·rw[N2 b z]at h;cases h
   ·exact⟨p,z⟩⟩
  have cm:Kv X.env.cells cn δ N:=by
   refine⟨λ y i hy=>?_,λ b d hb=>?_,λ x1 j1 y1 i1 b h1 h2 h3 h4=>by
    have e1:=(qq x1 j1 h1).2.1;rw[un x1 j1 y1 i1 b h1 h2 h3 h4,(qq y1 i1 h2).2.1]at e1;exact(A9 e1).symm⟩
   ·obtain⟨b,o,v,l1,l2,l3⟩:=hC.has y i hy;obtain⟨⟨y',i',m1,m2,m3⟩,_⟩:=(ex b (o,v) l3).choose_spec;refine⟨b,(ex b (o,v) l3).choose,l1,?_,N1 b _ l3⟩;have:i'=i:=un y' i' y i b m1 hy m2 l1;rw[<- this];exact m3
   ·obtain⟨p,z⟩:=cr.r b d hb;obtain⟨y,i,m1,m2⟩:=hC.only b p z;exact⟨y,i,m1,m2⟩
  have Oj:∀b d,N b=some d->M1 b=none:=λ b d hb=>let⟨p,z⟩:=cr.r b d hb;bQ.free (hn b p z)
  have cN:∀b,C b=none↔N b=none:=cr.none;refine⟨ds,iI M1 N,_,?_,bQ.cQ hn cr,q1 N cm Oj,λ v H' d M' oO fu t' q'=>?_⟩
  ·rw[A4];exact aA.mono (mq hn) ds hd
  ·have hf:∀b p,C b=some p->∃o v,H' b=some (fX o b v):=λ b p z=>⟨_,_,t'.cQ _ _ _ (iz z)⟩;have ts:=qT hf;refine k v (gm H' C) d (gT M' N) (Dat.mon ts d oO) (fu.BZ hf cN) (t1.trans ?_) q';have tt:=(mq hn).trans t';have ne:∀b u,H1 b=some u->C b=none:=λ b u e=>by
    rcases aF C b with z|⟨p,z⟩
    ·exact z
    ·rw[hn b p z]at e;cases e
   exact⟨λ b xs e=>by rw[bg (ne b _ e)];exact tt.tup b xs e,λ b o u e=>by rw[bg (ne b _ e)];exact tt.cQ b o u e⟩
end
end L3
namespace L3
open PySem PySem.Spec PyProof.Rows L2 L5
abbrev vh:=List D->List D->Mem->bK->Prop
def PJ(K:J8)(sp:vh):Sb:=λ vs gp H Q=>∃ds cs M Q2,aA K H ds vs/\aA K H cs gp/\RelM K H M/\sp ds cs M Q2/\iL K H Q2 Q
abbrev BF(P:Program)(w:World)(K:J8)(mg:Str->Option Value)(base:Heap)(k:Nat)(L:lB)(ps fv:List Str)(sp:vh):Prop:=qI P w K mg base k L ps fv (PJ K sp)
structure BE(M:Mem)(f:Addr)(L:lB)(fv:List Str)(cs:List D)(C:CM):Prop where
 ex:∃cl,M f=some (.fm (.lam L cl))/\(∀x y b,cl.lookup x=some b->cl.lookup y=some b->x=y)/\(∀x b,cl.lookup x=some b->x∈fv/\∃d,C b=some d)/\∀(i:Nat) (x:Str) (d:D),fv[i]?=some x->cs[i]?=some d->∃b,cl.lookup x=some b/\C b=some d
 len:cs.length=fv.length
 zC:∀b d,C b=some d->M b=some (.fm (.zC d))
theorem zj{K:J8}{H:Hp}:∀{ds:List D} {vs:List V},ds.length=vs.length->(∀(i:Nat) (d:D) (v:V),ds[i]?=some d->vs[i]?=some v->Dat K H d v)->aA K H ds vs
 |[],[],_,_=>ao.mpr rfl
 |d::ds,v::vs,hl,h=>ag.mpr ⟨v,vs,rfl,h 0 d v rfl rfl,zj (by simpa using hl) λ i d' v' a b=>h (i+1) d' v' (by simpa using a) (by simpa using b)⟩
section
variable {X:Cx}{k:Nat}{x:Str}{p pos:Pos}{e:Expr}{es:List Expr}{t:eO}{i:Nat}
def Uc(P:Program)(w:World)(K:J8)(mg:Str->Option Value)(base:Heap)(k:Nat)(i:Nat)(t:eO):cu:=λ δ M Q=>∃f,δ[i]?=some (some (.ref f))/\(∃L cl,M f=some (.fm (.lam L cl)))/\t δ M λ ds M1=>∃(L:lB) (ps fv:List Str) (sp:vh) (cs:List D) (C:CM),
 BF P w K mg base k L ps fv sp/\BE M1 f L fv cs C/\sp ds cs (gT M1 C) λ d M'=>Q d (iI M' C)
set_option tactic.hygienic true in
theorem Io(hr:cM k X.A)(hi:X.N[i]?=some x)(hv:Lo X.env.scope x)(ha:QA X (e::es) t)(hd:(x==("__debug__":Str))=false:=by decide)(hcd:(x==("__classdict__":Str))=false:=by decide) (he:starEach (e::es) X.env=(false,eval e X.env)::starEach es X.env:=by rfl) (hpl:(backTo pos (starEach es X.env)).any (·.1)=false:=by rfl):QE X (.Call (.Name x p) (e::es) [] pos) (Uc X.prog X.w X.K X.mg X.base k i t):=by
 refine bS (DO hr hi hv ha hd hcd he hpl) ?_;rintro σ H Q ⟨δ,M,Q2,hs,hm,⟨f,ef,⟨L0,Xo,el⟩,q⟩,kk⟩;obtain⟨v,ev,rv⟩:=hs.get i _ ef;cases(aE.mp rv);obtain⟨c0,⟨o0,h0⟩,_⟩:=hm f _ el;refine⟨f,ev,⟨o0,L0,c0,Xo,h0⟩,δ,M,_,hs,hm,q,λ vs H1 ds M1 hd bQ t1 ⟨L,ps,fv,sp,cs,C,ok,at',q1⟩=>?_⟩;obtain⟨cl,hl,inj,OE,val⟩:=at'.ex;obtain⟨c,hf,hc⟩:=bQ f _ hl;have ex:∀b d,C b=some d->∃p:Obj×V,H1 b=some (fX p.1 b p.2)/\Dat X.K H1 d p.2:=λ b d z=>let⟨o,v,a,r⟩:=bQ b _ (at'.zC b d z);⟨(o,v),a,r⟩
 let N:gZ:=λ b=>match h:C b with
  |some d=>some (ex b d h).choose
  |none=>none
 have N1:∀b d (h:C b=some d),N b=some (ex b d h).choose:=λ b d h=>by
  show(match h:C b with|some d=>some (ex b d h).choose|none=>none)=_;split
  ·rename_i p' h';have:=h.symm.trans h';cases this;rfl
  ·rename_i h';rw[h]at h';cases h'
 have N2:∀b,C b=none->N b=none:=λ b h=>by
  show(match h:C b with|some d=>some (ex b d h).choose|none=>none)=_;split
  ·rename_i p' h';rw[h]at h';cases h'
  ·rfl
 have Nb:∀b p,N b=some p->∃d,C b=some d/\H1 b=some (fX p.1 b p.2)/\Dat X.K H1 d p.2:=λ b p h=>by
  rcases dB C b with z|⟨d,z⟩
  ·rw[N2 b z]at h;cases h
  ·rw[N1 b d z]at h;cases h;exact⟨d,z,(ex b d z).choose_spec⟩
 have hN:∀b,N b=none↔C b=none:=λ b=>by
  constructor
  ·intro h;rcases dB C b with z|⟨d,z⟩
   ·exact z
   ·rw[N1 b d z]at h;cases h
  ·exact N2 b
 have RM:∀b p,N b=some p->∃o v,H1 b=some (fX o b v):=λ b p h=>let⟨_,_,a,_⟩:=Nb b p h;⟨_,_,a⟩
 have ts:=qT RM;let gp:List V:=fv.map λ y=>((cl.lookup y).bind N).elim V.bx (·.2)
 have cv:∀(j:Nat) (y:Str) (d:D),fv[j]?=some y->cs[j]?=some d->∃b p,cl.lookup y=some b/\C b=some d/\N b=some p/\gp[j]?=some p.2:=λ j y d h1 h2=>by obtain⟨b,a1,a2⟩:=val j y d h1 h2;refine⟨b,_,a1,a2,N1 b d a2,?_⟩;show(fv.map _)[j]?=_;rw[s9,h1];show some (((cl.lookup y).bind N).elim V.bx (·.2))=_;rw[a1];show some ((N b).elim V.bx (·.2))=_;rw[N1 b d a2];rfl
 have lc:gp.length=fv.length:=B4 ..;refine⟨L,ps,fv,_,gp,N,ok,⟨⟨c,cl,hf,hc,inj,λ y b h=>?_,λ j y v h1 h2=>?_⟩,lc,λ b p h=>(Nb b p h).choose_spec.2.1⟩,ds,cs,gT M1 C,_,aA.mon ts ds hd,?_,bQ.BZ RM hN,q1,λ v H' d M' oO fu t' q' vA=>?_⟩
 ·obtain⟨a,d,b'⟩:=OE y b h;exact⟨a,_,N1 b d b'⟩
 ·have lt:j < cs.length:=by rw[at'.len];exact(g9.mp h1).1
  obtain⟨b,p,a1,a2,a3,a4⟩:=cv j y _ h1 (i5 lt);rw[h2]at a4;cases a4;exact⟨b,p.1,a1,a3⟩
 ·refine zj (by rw[lc,at'.len]) λ j d v h1 h2=>?_;have lt:j < fv.length:=by rw[<- at'.len];exact(g9.mp h1).1
  obtain⟨b,p,a1,a2,a3,a4⟩:=cv j _ d (i5 lt) h1;rw[h2]at a4;cases a4;obtain⟨d',z1,_,z2⟩:=Nb b p a3;rw[a2]at z1;cases z1;exact Dat.mon ts d z2
 ·have cr:Gr X.K H' N C:=⟨λ b p h=>let⟨d,z,_,r⟩:=Nb b p h;⟨d,z,Dat.mono t' d (Dat.mon ts d r)⟩,λ b d z=>⟨_,N1 b d z⟩⟩;have t2:=mq vA;refine kk v (iZ H' N) d (iI M' C) (Dat.mono t2 d oO) (fu.cQ vA cr) (t1.trans ⟨λ b xs e=>?_,λ b o u e=>?_⟩) q'
  ·rcases aF N b with z|⟨p,z⟩
   ·rw[bF z];exact t'.tup b xs (by rw[bg z];exact e)
   ·obtain⟨_,_,a,_⟩:=Nb b p z;rw[a]at e;cases e
  ·rcases aF N b with z|⟨p,z⟩
   ·rw[bF z];exact t'.cQ b o u (by rw[bg z];exact e)
   ·obtain⟨_,_,a,_⟩:=Nb b p z;rw[a]at e;rw[iz z];exact e
end
theorem Jw{P:Program}{w:World}{K:J8}{mg:Str->Option Value}{base:Heap}{k:Nat}{L:lB}{ps fv:List Str}{sp:vh}(S:ka ps fv L.scope)(len:∀ds cs M Q,sp ds cs M Q->ds.length=ps.length) (nW:∀(cl:List (Str×Addr)) (c:Addr) (mB:Value) (us:List Value),us.length=ps.length->bindArgs (PySem.W.kla_fn "<lambda>" L.qual L.params L.body L.scope cl L.pm (.ref c) mB) ⟨us,[]⟩=pure (ps.zip us)) (dZ:∀(A:Around) (outer:List Env) (s:Shared) (H:Hp) (f c:Addr) (cl:List (Str×Addr)) (ds cs:List D) (M:Mem) (Q:bK),cM k (A.deeper (PySem.W.envX L.qual L.scope s.heap.objs.size f (.ref c) cl))->sp ds cs M Q->
   ∃t,QE (uT P w K mg base (ps++fv) L.qual L.scope f c cl A outer s H) L.body t/\t ((ds++cs).map some) M Q):BF P w K mg base (k+1) L ps fv sp:=by
 refine NY S (λ vs gp H Q h=>?_) nW λ A outer s H f c cl vs gp Q hr h=>?_
 ·obtain⟨ds,cs,M,Q2,hd,_,_,hs,_⟩:=h;rw[hd.length];exact len ds cs M Q2 hs
 ·obtain⟨ds,cs,M,Q2,hd,hc,hm,hs,kk⟩:=h;obtain⟨t,ht,q⟩:=dZ A outer s H f c cl ds cs M Q2 hr hs;refine⟨_,ht,(ds++cs).map some,M,Q2,⟨?_,λ i d e=>?_⟩,hm,q,kk⟩
  ·rw[B4,B4,(hd.append hc).length]
  ·rw[s9]at e;cases z:(ds++cs)[i]? with
   |none=>rw[z]at e;cases e
   |some d'=>rw[z]at e;cases e;obtain⟨v,a,r⟩:=(hd.append hc).get z;exact⟨v,by rw[s9,a];rfl,r⟩
end L3
namespace L2
open PySem PySem.Spec PyProof.Rows
structure kb(K:J8)(x qual:Str)(st:Stmt)(dV:Value)(c f:Addr)(fd:FuncData):Prop where
 ex:∃(oc:Value) (od:Option Addr) (kV doc pm:Value) (an:Option Addr) (ct:Value) (wo:Array (Option Value)),
  fd=PySem.W.fnOf x qual (bX st) (bA st) (aq st) dV kV doc pm an (.ref c) ct/\K.lookup f=some ⟨oc,od,.func fd,wo⟩/\PySem.W.codeIn K (.ref c) qual=true
 kp:PySem.W.keepIn K (.ref f)=true
section
variable {P:Program}{w:World}{K:J8}{mg:Str->Option Value}{base:Heap}
theorem kb.ok {x qual:Str}{st:Stmt}{dV:Value}{c f:Addr}{fd:FuncData}{N ps:List Str}{k:Nat}{sp:Sp}(F:kb K x qual st dV c f fd)(S:aM N ps (aq st))(len:∀vs H Q E,sp vs H Q E->vs.length=ps.length) (dZ:∀(A:Around) (outer:List Env) (s:Shared) (H:Hp) (vs:List V) (Q:VK) (E:XK),cM k (A.deeper (envOfC qual (aq st) s.heap.objs.size f (.ref c)))->sp vs H Q E->
   ∃t,vj (pA fA P w K mg base N qual (aq st) f (.ref c) A outer s H E).Jl (bA st) t/\t {nx:=λ _ H'=>Q .bx H',rt:=Q} (start N vs) H):cw P w K mg base fA (k+1) f fd ps sp:=by
 obtain⟨oc,od,kV,doc,pm,an,ct,wo,rfl,lk,hcd⟩:=F.ex;refine Ld lk hcd S len λ A outer s H vs Q E hr Bg=>?_;obtain⟨t,h,q⟩:=dZ A outer s H vs Q E hr Bg;exact⟨t,h.Jl,q⟩
theorem JR{x qual:Str}{st:Stmt}{c f:Addr}{oc:Value}{od an:Option Addr}{wo:Array (Option Value)}{dV kV doc pm ct:Value}(l:K.lookup f=some ⟨oc,od,.func (PySem.W.fnOf x qual (bX st) (bA st) (aq st) dV kV doc pm an (.ref c) ct),wo⟩) (e:PySem.W.codeIn K (.ref c) qual=true) (k:PySem.W.keepIn K (.ref f)=true):kb K x qual st dV c f (PySem.W.fnOf x qual (bX st) (bA st) (aq st) dV kV doc pm an (.ref c) ct):=⟨⟨oc,od,kV,doc,pm,an,ct,wo,rfl,l,e⟩,k⟩
theorem kb.binds {x qual:Str}{st:Stmt}{dV:Value}{c f:Addr}{fd:FuncData}{ps:List Str}{ds:List Value}(F:kb K x qual st dV c f fd) (h:∀(kV doc pm:Value) (an:Option Addr) (ct:Value) (s:Shared),K.In s.heap->∀(us:List Value),(us++ds).length=ps.length->BindsTo s (PySem.W.fnOf x qual (bX st) (bA st) (aq st) dV kV doc pm an (.ref c) ct) ⟨us,[]⟩ (ps.zip (us++ds))):Binds K fd ps ds:=by obtain⟨oc,od,kV,doc,pm,an,ct,wo,rfl,lk,hcd⟩:=F.ex;exact λ s us hk hl=>h kV doc pm an ct s hk us hl
theorem bT.Wg {k:Nat}{x qual:Str}{ps:List Str}{sp:Sp}{st:Stmt}{dV:Value}{c f:Addr}{fd:FuncData}(F:kb K x qual st dV c f fd)(G:cw P w K mg base fA k f fd ps sp)(hm:mg x=some (.ref f))(b:Binds K fd ps []):bT P w K mg base k x ps sp:=⟨f,fd,G,hm,F.kp,b⟩
end
def Et(s:Stmt)(j:Nat)(q:Str)(mg:Str->Option Value):lB:=match bA s with
 |ss=>match ss.getLast? with
  |some (.Return (some (.Call _ es _ _)) _)=>match es[j]? with
   |some (.Lambda a b c _)=>⟨q,a,b,c,(mg "__name__").getD .none⟩
   |_=>⟨q,bX s,.Constant .none 0 ⟨0,0,0,0⟩,aq s,.none⟩
  |_=>⟨q,bX s,.Constant .none 0 ⟨0,0,0,0⟩,aq s,.none⟩
end L2
namespace L4
open PySem PySem.Spec L2 L3
section
variable {P:Program}{w:World}{K:J8}{mg:Str->Option Value}{base:Heap}
theorem Wf{x qual:Str}{st:Stmt}{dV:Value}{c f:Addr}{fd:FuncData}{N ps:List Str}{k:Nat}{sp:gs}(F:kb K x qual st dV c f fd)(S:aM N ps (aq st))(len:∀ds M Q,sp ds M Q->ds.length=ps.length) (dZ:∀(A:Around) (outer:List Env) (s:Shared) (H:Hp) (E:XK) (ds:List D) (M:Mem) (Q:bK),cM k (A.deeper (PyProof.Rows.envOfC qual (aq st) s.heap.objs.size f (.ref c)))->sp ds M Q->
   ∃t,GD (pA fA P w K mg base N qual (aq st) f (.ref c) A outer s H E).Jl (bA st) t/\t {nx:=λ _ M'=>fin2 Q .bx M',rt:=fin2 Q} (gz N ds) M):cw P w K mg base fA (k+1) f fd ps (cV K sp):=by
 refine F.ok S (λ vs H Q E h=>?_) (λ A outer s H vs Q E hr h=>?_)
 ·obtain⟨ds,M,Q2,hd,_,hs,_⟩:=h;rw[hd.length];exact len ds M Q2 hs
 ·obtain⟨ds,M,Q2,hd,hm,hs,kk⟩:=h;obtain⟨t,ht,q⟩:=dZ A outer s H E ds M Q2 hr hs;refine⟨_,ht.h,gz N ds,M,_,pW hd,hm,q,⟨?_,?_,?_,?_⟩⟩
  ·exact λ σ' H' δ' M' _ fu t' ⟨kh,s,q⟩=>kk _ H' .bx kh (dA.mpr rfl) (fu.sub s) t' q
  ·exact λ v H' d M' oO fu t' ⟨kh,s,q⟩=>kk v H' d kh oO (fu.sub s) t' q
  ·exact λ σ' H' δ' M' _ fu t' q=>q
  ·exact λ σ' H' δ' M' _ fu t' q=>q
theorem UO{k:Nat}{L:lB}{ps fv:List Str}{sp:vh}(S:ka ps fv L.scope)(len:∀ds cs M Q,sp ds cs M Q->ds.length=ps.length) (nW:∀(cl:List (Str×Addr)) (c:Addr) (mB:Value) (us:List Value),us.length=ps.length->bindArgs (PySem.W.kla_fn "<lambda>" L.qual L.params L.body L.scope cl L.pm (.ref c) mB) ⟨us,[]⟩=pure (ps.zip us)) (dZ:∀(A:Around) (outer:List Env) (s:Shared) (H:Hp) (f c:Addr) (cl:List (Str×Addr)) (ds cs:List D) (M:Mem) (Q:bK),cM k (A.deeper (PySem.W.envX L.qual L.scope s.heap.objs.size f (.ref c) cl))->sp ds cs M Q->
   ∃t,WE (uT P w K mg base (ps++fv) L.qual L.scope f c cl A outer s H) L.body t/\t ((ds++cs).map some) M Q):BF P w K mg base (k+1) L ps fv sp:=
 Jw S len nW λ A outer s H f c cl ds cs M Q hr h=>let⟨t,a,b⟩:=dZ A outer s H f c cl ds cs M Q hr h;⟨t,a.h,b⟩
end
section
variable {X:Cx}{L:lB}{c P:Addr}{pos p:Pos}{x:Str}{e:Expr}{es:List Expr}{t:eO}{k i:Nat}{ps:List Str}{sp:gs}{cn:List (Str×Nat)}
theorem PF(qp:X.env.code=.ref c)(B:Ku X.mg X.base c P)(Ff:defaultsOf L.params X.env=([],[]))(Oh:L.pm=(X.mg "__name__").getD .none)(hq:X.env.qual++"<lambda>"=L.qual) (vA:∀n,(n,NameKind.free)∈L.scope.names->X.env.kindOf n=some .cell\/X.env.kindOf n=some .free):WE X (.Lambda L.params L.body L.scope pos) (LW P L X.env.cells):=⟨QC qp B Ff Oh hq vA⟩
theorem GQ(d:cX X.prog X.w X.K X.mg X.base k x ps sp)(hr:cM k X.A)(hg:Gl X x)(qq:∀x j,(x,j)∈cn->X.env.kindOf x=some .cell/\X.N[j]?=some x/\X.fn x=true)(hN:X.N.Nodup)(ha:WA X (e::es) t) (hdb:(x==("__debug__":Str))=false:=by decide) (he:starEach (e::es) X.env=(false,eval e X.env)::starEach es X.env:=by rfl) (hpl:(backTo pos (starEach es X.env)).any (·.1)=false:=by rfl):WE X (.Call (.Name x p) (e::es) [] pos) (Ud sp X.env.cells cn t):=⟨Ip d hr hg qq hN ha.h hdb he hpl⟩
theorem GP(hr:cM k X.A)(hi:X.N[i]?=some x)(hv:Lo X.env.scope x)(ha:WA X (e::es) t)(hd:(x==("__debug__":Str))=false:=by decide)(hcd:(x==("__classdict__":Str))=false:=by decide) (he:starEach (e::es) X.env=(false,eval e X.env)::starEach es X.env:=by rfl) (hpl:(backTo pos (starEach es X.env)).any (·.1)=false:=by rfl):WE X (.Call (.Name x p) (e::es) [] pos) (Uc X.prog X.w X.K X.mg X.base k i t):=⟨Io hr hi hv ha.h hd hcd he hpl⟩
end
theorem Ml{P:Addr}{L:lB}{cells:List (Str×Addr)}{δ:cS}{M:Mem}{Q:bK}(h:M P=some (.fm (.lT L.qual)))(q:∀f,M f=none->(∀x d,cells.lookup x=some d->d≠f)->Q (.ref f) (ah M f (.fm (.lam L (bt cells L.scope.names []))))):LW P L cells δ M Q:=⟨h,q⟩
theorem Qi{sp:gs}{cells:List (Str×Addr)}{cn:List (Str×Nat)}{t:eO}{δ:cS}{M:Mem}{Q:bK}(h:t δ M λ ds M1=>(∀x j,(x,j)∈cn->∃d,δ[j]?=some (some d))/\∀C,Kv cells cn δ C->(∀b d,C b=some d->M1 b=none)->sp ds (iI M1 C) λ d M'=>Q d (gT M' C)):Ud sp cells cn t δ M Q:=h
theorem Qh{P:Program}{w:World}{K:J8}{mg:Str->Option Value}{base:Heap}{k i:Nat}{t:eO}{δ:cS}{M:Mem}{Q:bK}{f:Addr}(e:δ[i]?=some (some (.ref f)))(hl:∃L cl,M f=some (.fm (.lam L cl))) (h:t δ M λ ds M1=>∃(L:lB) (ps fv:List Str) (sp:vh) (cs:List D) (C:CM),BF P w K mg base k L ps fv sp/\BE M1 f L fv cs C/\sp ds cs (gT M1 C) λ d M'=>Q d (iI M' C)):Uc P w K mg base k i t δ M Q:=⟨f,e,hl,h⟩
end L4
namespace L2
open PySem PySem.Spec PyProof.Rows
def zK(H:Hp)(ts:List Addr):Prop:=(∀b,H b=none\/(∃o xs,H b=some (.cQ o (.lst xs)))\/H b=some (.lT #[]))/\∀t∈ts,H t=some (.lT #[])
theorem AX{P:Program}{w:World}{K:J8}{mg mb:Str->Option Value}{CX:GJ}{k:Nat}{fa a:Addr}{fd:FuncData}{x:Str}{sp:Sp}{s₁:Shared}{vs:List Value}{ns:List Int}{tabs:List (Addr×Addr)} (KX:K.In s₁.heap) (Ve:s₁.heap.Ns mainGlobals mg) (hb:s₁.heap.Ns builtinsNs mb) (YU:∀x:Str,x≠"__name__"->mb x=bootBuiltins x) (Vj:s₁.heap.NoLimit) (hg:s₁.gens=#[]) (YT:∃bm ob,mg "__builtins__"=some (.ref bm)/\bm≠builtinsNs/\s₁.heap.get? bm=some ob/\ob.cls=.type "module"/\ob.dict=some builtinsNs/\ob.data=.plain) (hT:∀q∈tabs,s₁.heap.get? q.2=some (PySem.W.tabObj #[])/\K.lookup q.2=none/\PySem.W.CodeHd s₁.heap q.1 q.2) (ha:s₁.heap.get? a=some {cls:=.type "list",data:=.seq vs.toArray}) (hi:IntsAre vs ns) (hl:ns.length<=sizeLine) (hr:cM k callerA) (F:∀base:Heap,K.In base->(∀q∈tabs,Ku mg base q.1 q.2)->cw P w K mg base CX k fa fd [x] sp) (nW:∀(s:Shared) (u:Value),BindsTo s fd ⟨[u],[]⟩ [(x,u)]) (Bg:∀H:Hp,zK H (tabs.map (·.2))->eW K H a (ns.map V.int)->sp [.ref a] H (λ v _=>v=.bl true) λ _ _ _=>False) (VF:∀H e s',CX [] H s₁ (λ _ _ _=>False) e s'->False):codeAny (model P w) callerA (.call (.ref fa) ⟨[.ref a],[]⟩) (λ r s'=>r=.ok (.ret (.bool true))/\OldK s₁.heap s'.heap/\s'.os=s₁.os/\AllBare s'.gens) s₁:=by
 have rv:=pL hi;have UM:=hi.length;have tg:∀t∈tabs.map (·.2),s₁.heap.get? t=some (PySem.W.tabObj #[])/\K.lookup t=none:=λ t ht=>by obtain⟨q,hq,rfl⟩:=D6.mp ht;exact⟨(hT q hq).1,(hT q hq).2.1⟩
 have at':a∉tabs.map (·.2):=λ h=>by have:=(tg a h).1;rw[ha]at this;cases this
 have core:∀H:Hp,zK H (tabs.map (·.2))->eW K H a (ns.map V.int)->gj P w H s₁.heap->(∀b,H b≠none->b=a\/b∈tabs.map (·.2))->(H a≠none->K.lookup a=none)->
   codeAny (model P w) callerA (.call (.ref fa) ⟨[.ref a],[]⟩) (λ r s'=>r=.ok (.ret (.bool true))/\OldK s₁.heap s'.heap/\s'.os=s₁.os/\AllBare s'.gens) s₁:=by
  intro H hO hS bh hA hK;have mF:∀{b:Addr} {o:Obj},s₁.heap.get? b=some o->H b=none->(pb s₁.heap H).get? b=some o:=λ e n=>Fd e n;have Ed:∀{b:Addr} {o:Obj},s₁.heap.get? b=some o->o≠PySem.W.tabObj #[]->(∀us n,o.data≠.seq us n)->H b=none:=λ{b o} e d1 d2=>by
   cases q:H b with
   |none=>rfl
   |some u=>
    rcases hA b (by rw[q];simp)with e'|e'
    ·subst e';rw[ha]at e;cases e;exact absurd rfl (d2 _ _)
    ·rw[(tg b e').1]at e;cases e;exact absurd rfl d1
  have XZ:∀{b:Addr} {o:Obj} {es:Array DictEntry} {ep:Nat},s₁.heap.get? b=some o->o.data=.dict es ep->H b=none:=λ{b o es ep} e d=>Ed e (λ z=>by rw[z]at d;cases d) λ us n z=>by rw[d]at z;cases z
  have UH:∀{b:Addr} {m:Str->Option Value},s₁.heap.Ns b m->(pb s₁.heap H).Ns b m:=λ{b m} ⟨o,es,ep,e,d,r⟩=>⟨o,es,ep,mF e (XZ e d),d,r⟩;have W4:K.In (pb s₁.heap H):=λ b o e=>mF (KX b o e) (by
   cases q:H b with
   |none=>rfl
   |some u=>
    rcases hA b (by rw[q];simp)with e'|e'
    ·subst e';rw[hK (by rw[q];simp)]at e;cases e
    ·rw[(tg b e').2]at e;cases e)
  have hM:Mod K mg (pb s₁.heap H):=⟨W4,UH Ve,⟨mb,UH hb,YU⟩,let⟨mc,h1,h2⟩:=Vj;⟨mc,UH h1,h2⟩⟩;have Vz:∀q∈tabs,Ku mg (pb s₁.heap H) q.1 q.2:=λ q hq=>by
   refine⟨?_,?_⟩
   ·obtain⟨bm,ob,b1,b2,b3,b4,b5,b6⟩:=YT;exact⟨bm,ob,b1,b2,mF b3 (Ed b3 (λ z=>by rw[z]at b4;cases b4) λ us n z=>by rw[b6]at z;cases z),b4,b5,b6⟩
   ·obtain⟨o,vs,file,tf,flags,tg,S',text,tt,e,e1,e2,r⟩:=(hT q hq).2.2;exact⟨o,vs,file,tf,flags,tg,S',text,tt,mF e (Ed e (λ z=>by rw[z]at e1;cases e1) λ us n z=>by rw[e2]at z;cases z),e1,e2,r⟩
  have e0:oD P w K mg (pb s₁.heap H) callerA [] s₁ H:=⟨rfl,hM,λ b o e=>Jk e,E5 (Bj _ _),trivial,λ b hb=>absurd (show b∈([]:List Addr)from hb) (by simp),bh,.of_eq hg⟩;refine E7 ((F _ W4 Vz).run callerA [] s₁ H ⟨[.ref a],[]⟩ [.ref a] [.ref a] _ _ hr e0 (nW s₁ (.ref a)) (.cons rfl .nil) (Bg H hO hS)) λ r s' h=>?_;cases r with
  |error e=>exact(VF H e s' h).elim
  |ok fl=>
   cases fl with
   |next=>exact False.elim h
   |brk=>exact False.elim h
   |cont=>exact False.elim h
   |ret u=>
    obtain⟨v,H',os,bare,un,RC,r',q⟩:=h;have q':v=.bl true:=q;subst q';obtain rfl:u=Value.bool true:=r';refine⟨rfl,⟨λ b o e=>?_,λ b o e=>un.there b o e (by simp)⟩,os,bare⟩;cases q:H b with
    |none=>exact .inl (un.keep b o e q (by intro z;exact absurd (show b∈([]:List Addr)from z) (by simp)) (by simp))
    |some u=>
     rcases hO.1 b with z|⟨ob,xs,z⟩|z
     ·rw[q]at z;cases z
     ·have z2:=un.kQ b ob _ z;obtain⟨e1,_⟩:=bh b _ z;obtain⟨e2,_⟩:=RC b _ z2;rw[e]at e1;cases e1;exact .inl e2
     ·obtain⟨more,z2⟩:=un.lG b _ z;have e1:s₁.heap.get? b=some (PySem.W.tabObj #[]):=bh b _ z;have e2:s'.heap.get? b=some (PySem.W.tabObj (#[]++more)):=RC b _ z2;rcases hA b (by rw[q];simp)with e'|e'
      ·subst e';rw[ha]at e1;cases e1
      ·obtain⟨t,ht,rfl⟩:=D6.mp e';rw[e]at e1;cases e1;exact .inr (.inl ⟨((hT t ht).2.2.tab (hT t ht).1).isCodeTable,rfl,#[],more,rfl,e2⟩)
 cases hk:K.lookup a with
 |some o=>
  have e:=KX a o hk;rw[ha]at e;cases e;refine core (λ b=>if b∈tabs.map (·.2)then some (.lT #[])else none) ⟨λ b=>?_,λ t ht=>J6 ht⟩ (.inr ⟨_,vs.toArray,_,hk,rfl,rfl,rfl,by rw[x5,UM];exact hl,by simpa using rv⟩) (λ b u z=>?_) (λ b z=>?_) λ z=>absurd (J7 at') z
  ·by_cases hb:b∈tabs.map (·.2)
   ·exact .inr (.inr (J6 hb))
   ·exact .inl (J7 hb)
  ·by_cases hb:b∈tabs.map (·.2)
   ·have z':=(J6 hb).symm.trans z;cases z';exact(tg b hb).1
   ·have z':=(J7 hb).symm.trans z;cases z'
  ·by_cases hb:b∈tabs.map (·.2)
   ·exact .inr hb
   ·exact absurd (J7 hb) z
 |none=>
  refine core (λ b=>if b=a then some (.cQ {cls:=.type "list",data:=.seq vs.toArray} (.lst (ns.map V.int)))else if b∈tabs.map (·.2)then some (.lT #[])else none) ⟨λ b=>?_,λ t ht=>?_⟩ (.inl (.inr ⟨{cls:=.type "list",data:=.seq vs.toArray},J6 rfl⟩)) (λ b u z=>?_) (λ b z=>?_) λ _=>hk
  ·by_cases hb:b=a
   ·exact .inr (.inl ⟨_,_,J6 hb⟩)
   ·by_cases ht:b∈tabs.map (·.2)
    ·exact .inr (.inr ((J7 hb).trans (J6 ht)))
    ·exact .inl ((J7 hb).trans (J7 ht))
  ·exact(J7 (λ z=>at' (by rw[<- z];exact ht))).trans (J6 ht)
  ·by_cases hb:b=a
   ·have z':=(J6 hb).symm.trans z;cases z';subst hb;exact⟨ha,by rw[B4];exact hl,vs,_,rv,ha⟩
   ·have z:=(J7 hb).symm.trans z;by_cases ht:b∈tabs.map (·.2)
    ·have z':=(J6 ht).symm.trans z;cases z';exact(tg b ht).1
    ·have z':=(J7 ht).symm.trans z;cases z'
  ·by_cases hb:b=a
   ·exact .inl hb
   ·by_cases ht:b∈tabs.map (·.2)
    ·exact .inr ht
    ·exact absurd ((J7 hb).trans (J7 ht)) z
theorem BY{l:PySem.W.OpenLaw}{n k:Nat}{q:Program}{loose:List Str}{XP:(Str->Option Value)->Heap->Prop}{YP:World->Heap->Prop}{d:DefRec}{K:Params->J8}{CX:World->GJ}{sp:World->Sp}{x:Str}{tabs:List (Addr×Addr)}
  (hn:l.most=some n) (Oj:n<=sizeLine) (RK:d.params.defaults=[]) (hr:cM k callerA)
  (hY:∀(w:World) (h:Heap),YP w h->(K w.params).In h/\∀q∈tabs,h.get? q.2=some (PySem.W.tabObj #[])/\(K w.params).lookup q.2=none/\PySem.W.CodeHd h q.1 q.2)
  (F:∀(w:World) (mg:Str->Option Value) (fa:Addr) (h:Heap),(K w.params).In h->h.Ns mainGlobals mg->mg d.name=some (.ref fa)->
   ∃fd:FuncData,(∀(s:Shared) (u:Value),BindsTo s fd ⟨[u],[]⟩ [(x,u)])/\
    ∀base:Heap,(K w.params).In base->(∀q∈tabs,Ku mg base q.1 q.2)->cw l.prog w (K w.params) mg base (CX w) k fa fd [x] (sp w))
  (Bg:∀(w:World) (H:Hp) (a:Addr) (ns:List Int),ns.length<=n->zK H (tabs.map (·.2))->eW (K w.params) H a (ns.map V.int)->sp w [.ref a] H (λ v _=>v=.bl true) λ _ _ _=>False)
  (VF:∀(w:World) (H:Hp) (s:Shared) (e:Value) (s':Shared),CX w [] H s (λ _ _ _=>False) e s'->False):
  PySem.W.WalkO q loose XP YP l.row.toRowW d [] (λ f vs=>PySem.call f vs):=by
 refine Xu.ve hn RK λ w s₀ s₁ mg mb fa o pm cd doc a vs ns G Y ho hd hcd RF EX hints hlen hg=>?_;obtain⟨KX,hT⟩:=hY w _ Y;obtain⟨fd,hb,hF⟩:=F w mg fa _ KX G.T.g RF;exact AX KX G.T.g G.T.b G.T.builtins G.T.nolimit hg G.T.bmain hT EX hints (D8 hlen Oj) hr hF hb (λ H hO hS=>Bg w H a ns hlen hO hS) λ H e s'=>VF w H s₁ e s'
end L2
namespace L2
open PySem PySem.Spec PyProof.Rows
section
variable {X:Cx}
def Ki(X:Cx)(cn:List (Str×Nat)):Bool:=cn.all λ p=>X.env.kindOf p.1==some .cell&&X.N[p.2]?==some p.1&&X.fn p.1
theorem R6{cn:List (Str×Nat)}(h:Ki X cn=true):∀x j,(x,j)∈cn->X.env.kindOf x=some .cell/\X.N[j]?=some x/\X.fn x=true:=λ x j hx=>by have:=A2.mp h _ hx;rw[y7,y7]at this;exact⟨by simpa using this.1.1,by simpa using this.1.2,this.2⟩
def JT(X:Cx)(ns:List (Str×NameKind)):Bool:=ns.all λ y=>y.2 != .free||X.env.kindOf y.1==some .cell||X.env.kindOf y.1==some .free
theorem RR{ns:List (Str×NameKind)}(h:JT X ns=true):∀n,(n,NameKind.free)∈ns->X.env.kindOf n=some .cell\/X.env.kindOf n=some .free:=λ n hn=>by
 have:=A2.mp h _ hn;rw[Bool.or_eq_true,Bool.or_eq_true]at this;rcases this with(h|h)|h
 ·cases h
 ·exact .inl (by simpa using h)
 ·exact .inr (by simpa using h)
theorem qI.mono {P:Program}{w:World}{K:J8}{mg:Str->Option Value}{base:Heap}{j k:Nat}{L:lB}{ps fv:List Str}{sp:Sb}(h:qI P w K mg base j L ps fv sp)(hk:j<=k):qI P w K mg base k L ps fv sp:=
 ⟨h.len,λ A outer s H f c cl us vs gp Q hr=>h.run A outer s H f c cl us vs gp Q (hr.mono hk)⟩
end
end L2
namespace L2
open PySem PySem.Spec PySem.W PyProof.Rows L5
section
variable {X:Cx}
theorem Nq{e:Expr}{t u:TE}(h:PE X e t)(g:PE X e u):PE X e (λ σ H Q=>t σ H Q\/u σ H Q):=λ pins s σ H Q I q=>q.elim (h pins s σ H Q I) (g pins s σ H Q I)
theorem AH{k v:Expr}{tk tv:TE}{pos:Pos}(hk:PE X k tk)(hv:PE X v tv):PE X (.Dict [some k] [v] pos) (λ σ H Q=>∀p,H p=none->tk σ (upd H p (.dK [])) λ x H1=>tv σ H1 λ y H2=>∃ky,x=kV ky/\H2 p=some (.dK [])/\Q (.ref p) (upd H2 p (.dK (putK [] ky y)))):=by
 intro pins s σ H Q I h;refine wpAny_Dict_any rfl rfl (by simp) (by simp) ?_;have I0:Inv X pins σ (upd H s.heap.objs.size (.dK [])) {s with heap:=s.heap.push {cls:=.type "dict",data:=.dict #[]}}:=I.laid (a:=s.heap.objs.size) (o:=.dK []) (t':=s.toks) (λ _ _ q=>j4 _ q) (G5 _) (FG s.heap I.big);refine pairTrees_cons_walk (cT (hk pins _ σ _ _ I0 (h _ (I.bh.fresh (G5 _)))) λ kv s1 ⟨x,H1,I1,r1,q1⟩=>cT (hv pins s1 σ H1 _ I1 q1) λ vv s2 ⟨y,H2,I2,r2,q2⟩=>pairTrees_nil_walk ?_);obtain⟨ky,rfl,hp,q⟩:=q2;generalize s.heap.objs.size=p at*;obtain⟨z,nm,xs,rel,dd⟩:=FE I2.bh hp;cases rel;have vw:(putK [] ky y).length<=sizeLine:=by have:=gN [] ky y;exact D8 this (by decide)
 unfold storeAll;rw[forIn_cons];refine G9 (G9 (wpAny_dictSet_pairs (hsz:=G7 _) (qi r1) dd λ h' FJ hs=>H9 ?_));dsimp only;rw[forIn_nil];have he:∃q,h'.get? p=some q:=let⟨q,_,_,hq,_⟩:=FJ;⟨q,hq⟩
 exact H9 ⟨.ref p,_,jT I2 (by rw[hp];exact True.intro) hs he (FF vw nm (KV.put .nil ky r2) FJ),rfl,q⟩
end
end L2
namespace L3
open PySem PySem.Spec L2 L5 PyProof.Rows
section
variable {X:Cx}
def vV(tk tv:cu):cu:=λ δ M Q=>∃t:Bool,∀p,M p=none->tk δ (ah M p (.cL t [])) λ x M1=>tv δ M1 λ y M2=>M2 p=some (.cL t [])/\gX t x/\Q (.ref p) (ah M2 p (.cL t [(x,y)]))
theorem Ik{k v:Expr}{tk tv:cu}{pos:Pos}(hu:X.A.units+64 < cLine)(hk:QE X k tk)(hv:QE X v tv):QE X (.Dict [some k] [v] pos) (vV tk tv):=by
 refine bS (Nq (Il (pos:=pos) hu hk hv) (AH (pos:=pos) hk hv)) ?_;rintro σ H Q ⟨δ,M,Q2,hs,hm,⟨t,q⟩,k⟩;cases t with
 |true=>exact .inl ⟨δ,M,Q2,hs,hm,q,k⟩
 |false=>refine .inr λ p hp=>?_;have t0:ar H (upd H p (.dK [])):=ar.laid hp;refine⟨δ,ah M p (.cL false []),_,hs.mono t0,hm.put (u:=.cL false []) t0 ⟨[],aP,.nil⟩,q p (hm.free hp),λ x H1 d M1 hd bQ t1 q1=>?_⟩;refine⟨δ,M1,_,(hs.mono t0).mono t1,bQ,q1,λ y H2 e M2 he oN t2 q2=>?_⟩;obtain⟨eT,⟨ky,rfl⟩,q2⟩:=q2;obtain⟨xs,hx,rel⟩:=oN p _ eT;cases rel;have t:=ar.mut (o:=.dK (putK [] ky y)) hx (λ _ z=>by cases z) (λ _ _ z=>by cases z);exact⟨ky,mx hd,hx,k _ _ _ _ (aE.mpr rfl) (oN.put (u:=.cL false [(iW ky,e)]) t ⟨_,aP,((Gq.put (kvs:=[]) .nil ky he):Gq X.K H2 [(iW ky,e)] (putK [] ky y)).mono t⟩) ((t0.trans t1).trans (t2.trans t)) q2⟩
end
end L3
namespace L4
open PySem PySem.Spec L2 L3 L5
theorem xF{X:Cx}{k v:Expr}{tk tv:cu}{pos:Pos}(hu:X.A.units+64 < cLine)(hk:WE X k tk)(hv:WE X v tv):WE X (.Dict [some k] [v] pos) (vV tk tv):=⟨Ik hu hk.h hv.h⟩
theorem tR{tk tv:cu}{δ:cS}{M:Mem}{Q:bK}(t:Bool)(h:∀p,M p=none->tk δ (ah M p (.cL t [])) λ x M1=>tv δ M1 λ y M2=>M2 p=some (.cL t [])/\gX t x/\Q (.ref p) (ah M2 p (.cL t [(x,y)]))):vV tk tv δ M Q:=⟨t,h⟩
end L4
namespace L2
open PySem PySem.Spec PyProof.Rows
def jK(ps fv:List Str)(sc:Scope):Bool:=sc.kind==.function&&!sc.isCoroutine&&!sc.isGenerator&&(ps.all λ x=>sc.names.lookup x==some .local)&&(fv.all λ x=>sc.names.lookup x==some .free)&&sc.names.all λ y=>y.2 != .cell&&(y.2 != .free||fv.contains y.1)
theorem Rh{ps fv:List Str}{sc:Scope}(h:jK ps fv sc=true)(nd:(ps++fv).Nodup):ka ps fv sc:=by unfold jK at h;simp only[y7,A2]at h;obtain⟨⟨⟨⟨⟨h1,h2⟩,h3⟩,h4⟩,h5⟩,h6⟩:=h;refine⟨by simpa using h1,by simpa using h2,by simpa using h3,nd,λ x hx=>by simpa using h4 x hx,λ y hy=>by simpa using(h6 y hy).1,λ x hx=>by simpa using h5 x hx,λ x hx=>?_⟩;have:=(h6 _ (l9 hx)).2;simpa using this
theorem Gb{s:Shared}{fd:FuncData}{args:Args}{binds:List (Str×Value)}{K:J8}{T:Addr}{o:Obj}{items:Array Value}{n:Nat}{k:Option (Array Value)->Sem (List (Str×Value))}(hk:K.In s.heap)(hd:fd.defaults=.ref T)(l:K.lookup T=some o)(hs:o.data=.seq items n) (h1:bindArgs fd args=seqItems? fd.defaults >>= k) (h2:k (some items)=pure binds):BindsTo s fd args binds:=.of_defaults hd (hk _ _ l) hs h1 h2
end L2
namespace L3
open PySem L2
theorem FH{M M':Mem}{C:CM}(h:∀b o,iI M C b=some o->M' b=some o)(n:∀b d,C b=some d->M b=none):∀b o,M b=some o->gT M' C b=some o:=λ b o e=>by
 rcases dB C b with z|⟨d,z⟩
 ·rw[mw z];exact h b o (by rw[jW z];exact e)
 ·rw[n b d z]at e;cases e
end L3
namespace L2
open PySem
theorem kb.Gd {K:J8}{x qual:Str}{st:Stmt}{dV:Value}{c f:Addr}{fd:FuncData}{ps:List Str}(F:kb K x qual st dV c f fd) (h:∀(kV doc pm:Value) (an:Option Addr) (ct:Value) (s:Shared),K.In s.heap->∀(us:List Value),us.length=ps.length->BindsTo s (PySem.W.fnOf x qual (bX st) (bA st) (aq st) dV kV doc pm an (.ref c) ct) ⟨us,[]⟩ (ps.zip us)):Binds K fd ps []:=
 F.binds λ kV doc pm an ct s hk us hl=>by rw[A4]at hl ⊢;exact h kV doc pm an ct s hk us hl
end L2
namespace KK
abbrev Cs:=List Nat
def inc:Cs->Nat->Cs
 |[],_=>[]
 |a::as,0=>(a+1)::as
 |a::as,l+1=>a::inc as l
theorem iu:∀(p:Cs) (l:Nat),(inc p l).length=p.length
 |[],_=>rfl
 |a::as,0=>rfl
 |a::as,l+1=>by show(inc as l).length+1=_;rw[iu as l];rfl
theorem eG:∀{p:Cs} {l:Nat},l < p.length->(inc p l).sum=p.sum+1
 |a::as,0,_=>by show a+1+as.sum=a+as.sum+1;omega
 |a::as,l+1,h=>by have:=eG (p:=as) (l:=l) (by simpa using h);show a+(inc as l).sum=a+as.sum+1;omega
def vo:Cs->Cs->Prop
 |a::as,b::bs=>b < a\/(a=b/\vo as bs)
 |_,_=>False
theorem ij:∀p:Cs,¬vo p p
 |[],h=>h
 |a::as,h=>h.elim (λ h=>C8 _ h) λ h=>ij as h.2
theorem kL:∀{p q r:Cs},vo p q->vo q r->vo p r
 |a::as,b::bs,c::cs,h,g=>by
  rcases h with h|⟨rfl,h⟩
  ·rcases g with g|⟨rfl,g⟩
   ·exact .inl (by omega)
   ·exact .inl h
  ·rcases g with g|⟨rfl,g⟩
   ·exact .inl g
   ·exact .inr ⟨rfl,kL h g⟩
 |[],_,_,h,_=>h.elim
 |_::_,[],_,h,_=>h.elim
 |_::_,_::_,[],_,g=>g.elim
theorem yA:∀{p q:Cs},p.length=q.length->p=q\/vo p q\/vo q p
 |[],[],_=>.inl rfl
 |a::as,b::bs,h=>by
  rcases Nat.lt_trichotomy a b with z|z|z
  ·exact .inr (.inr (.inl z))
  ·subst z;rcases yA (p:=as) (q:=bs) (by simpa using h)with e|e|e
   ·exact .inl (by rw[e])
   ·exact .inr (.inl (.inr ⟨rfl,e⟩))
   ·exact .inr (.inr (.inr ⟨rfl,e⟩))
  ·exact .inr (.inl (.inl z))
theorem yC:∀{p q:Cs} {l:Nat},vo p q->vo (inc p l) (inc q l)
 |a::as,b::bs,0,h=>by
  rcases h with h|⟨rfl,h⟩
  ·exact .inl (by omega)
  ·exact .inr ⟨rfl,h⟩
 |a::as,b::bs,l+1,h=>by
  rcases h with h|⟨rfl,h⟩
  ·exact .inl h
  ·exact .inr ⟨rfl,yC h⟩
 |[],_,_,h=>h.elim
 |_::_,[],_,h=>h.elim
theorem ug:∀{p:Cs} {i j:Nat},i < j->i < p.length->vo (inc p i) (inc p j)
 |a::as,0,j+1,_,_=>.inl (by omega)
 |a::as,i+1,j+1,h,g=>.inr ⟨rfl,ug (by omega) (by simpa using g)⟩
def zb(p:Cs)(l:Nat):Prop:=∀j,l < j->p.getD j 0=0
theorem PB{a:Nat}{as:Cs}{l:Nat}(h:zb (a::as) (l+1)):zb as l:=λ j g=>by
 have:=h (j+1) (by omega)
 rwa [getD_cons_succ]at this
theorem PC:∀{as:Cs},(∀j,as.getD j 0=0)->as.sum=0
 |[],_=>rfl
 |a::as,h=>by
  have h0:=h 0;rw[getD_cons_zero]at h0;have:=PC (as:=as) λ j=>by have:=h (j+1);rwa [getD_cons_succ]at this
  show a+as.sum=0;omega
theorem K0:∀{p q:Cs},p.sum=0->¬vo p q
 |a::as,b::bs,h,g=>by
  have h:a+as.sum=0:=h;rcases g with g|⟨rfl,g⟩
  ·omega
  ·exact K0 (by omega) g
 |[],_,_,h=>h.elim
 |_::_,[],_,h=>h.elim
theorem yB:∀{a p:Cs} {h l:Nat},vo a p->a.sum=p.sum->zb p l->vo (inc a h) (inc p l)
 |a::as,b::bs,h,0,g,e,z=>by
  have e:a+as.sum=b+bs.sum:=e;have:bs.sum=0:=PC λ j=>by have:=z (j+1) (by omega);rwa [getD_cons_succ]at this
  rcases g with g|⟨rfl,g⟩
  ·omega
  ·exact absurd g (K0 (by omega))
 |a::as,b::bs,h,l+1,g,e,z=>by
  have e:a+as.sum=b+bs.sum:=e;cases h with
  |zero=>exact .inl (by rcases g with g|g <;> omega)
  |succ h=>
   rcases g with g|⟨rfl,g⟩
   ·exact .inl g
   ·exact .inr ⟨rfl,yB g (by omega) (PB z)⟩
 |[],_,_,_,h,_,_=>h.elim
 |_::_,[],_,_,h,_,_=>h.elim
def Ah(p q:Cs):Prop:=p.sum < q.sum\/(p.sum=q.sum/\vo p q)
theorem Ah.Rn {p:Cs}(h:Ah p p):False:=h.elim (λ h=>C8 _ h) λ h=>ij _ h.2
theorem Ah.trans {p q r:Cs}(h:Ah p q)(g:Ah q r):Ah p r:=by
 rcases h with h|⟨e,h⟩
 ·rcases g with g|⟨f,g⟩
  ·exact .inl (by omega)
  ·exact .inl (by omega)
 ·rcases g with g|⟨f,g⟩
  ·exact .inl (by omega)
  ·exact .inr ⟨by omega,kL h g⟩
theorem Ah.not {p q:Cs}(h:Ah p q)(g:Ah q p):False:=(h.trans g).Rn
theorem Ah.SD {p q:Cs}(h:p.length=q.length):p=q\/Ah p q\/Ah q p:=by
 rcases Nat.lt_trichotomy p.sum q.sum with z|z|z
 ·exact .inr (.inl (.inl z))
 ·rcases yA h with e|e|e
  ·exact .inl e
  ·exact .inr (.inl (.inr ⟨z,e⟩))
  ·exact .inr (.inr (.inr ⟨z.symm,e⟩))
 ·exact .inr (.inr (.inl z))
theorem Ah.inc {p q:Cs}{l:Nat}(h:Ah p q)(hp:l < p.length)(hq:l < q.length):Ah (inc p l) (inc q l):=by
 have a:=eG hp;have b:=eG hq;rcases h with h|⟨e,h⟩
 ·exact .inl (by omega)
 ·exact .inr ⟨by omega,yC h⟩
theorem Ah.par {a p:Cs}{h l:Nat}(g:Ah a p)(z:zb p l)(hh:h < a.length)(hl:l < p.length):Ah (KK.inc a h) (KK.inc p l):=by
 have x:=eG hh;have y:=eG hl;rcases g with g|⟨e,g⟩
 ·exact .inl (by omega)
 ·exact .inr ⟨by omega,yB g e z⟩
theorem Ah.UT {p:Cs}{i j:Nat}(h:i < j)(hj:j < p.length):Ah (KK.inc p i) (KK.inc p j):=
 .inr ⟨by rw[eG hj,eG (by omega)],ug h (by omega)⟩
theorem lastOf:∀{q:Cs},0 < q.sum->∃p l,l < q.length/\p.length=q.length/\q=inc p l/\zb p l
 |[],h=>absurd h (by decide)
 |c::cs,h=>by
  have h:0 < c+cs.sum:=h;by_cases z:cs.sum=0
  ·refine⟨(c - 1)::cs,0,by simp,by simp,?_,λ j hj=>?_⟩
   ·show c::cs=(c - 1+1)::cs;rw[show c - 1+1=c by omega]
   ·obtain⟨j,rfl⟩:∃k,j=k+1:=⟨j - 1,by omega⟩;rw[getD_cons_succ,c8];cases e:cs[j]? with
    |none=>rfl
    |some v=>
     have hv:=k9 e;have:∀{xs:Cs},xs.sum=0->∀v∈xs,v=0:=λ{xs}=>by
      induction xs with
      |nil=>intro _ v hv;cases hv
      |cons x xs ih=>
       intro h v hv;have h:x+xs.sum=0:=h;rcases D1.mp hv with rfl|hv
       ·omega
       ·exact ih (by omega) v hv
     exact this z v hv
  ·obtain⟨p,l,hl,hp,e,zz⟩:=lastOf (q:=cs) (by omega);refine⟨c::p,l+1,by simp;omega,by simp[hp],by rw[e];rfl,λ j hj=>?_⟩;obtain⟨j,rfl⟩:∃k,j=k+1:=⟨j - 1,by omega⟩;rw[getD_cons_succ];exact zz j (by omega)
def vC(T:Nat):List Nat:=(List.range (T+1)).map (T - ·)
def bE:Nat->Nat->List Cs
 |0,T=>if T=0 then[[]]else[]
 |k+1,T=>(vC T).flatMap λ n=>(bE k (T - n)).map (n::·)
theorem yx{T n:Nat}:n∈vC T↔n<=T:=by
 unfold vC;rw[D6];constructor
 ·rintro⟨a,_,rfl⟩;omega
 ·intro h;exact⟨T - n,mem_range.mpr (by omega),by omega⟩
set_option tactic.hygienic true in
theorem bU:∀{k T:Nat} {p:Cs},p∈bE k T↔p.length=k/\p.sum=T
 |0,T,p=>by
  unfold bE;split
  ·rename_i h;subst h;rw[p7];exact⟨λ h=>by subst h;exact⟨rfl,rfl⟩,λ h=>j0.mp h.1⟩
  ·rename_i h;refine⟨λ h=>(by cases h),λ g=>?_⟩;have:=j0.mp g.1;subst this;exact absurd g.2.symm h
 |k+1,T,p=>by
  unfold bE;rw[mem_flatMap];constructor
  ·rintro⟨n,hn,h⟩;rw[D6]at h;obtain⟨r,hr,rfl⟩:=h;rw[bU]at hr;rw[yx]at hn;refine⟨by simp[hr.1],?_⟩;show n+r.sum=T;omega
  ·rintro⟨hl,hs⟩;cases p with
   |nil=>cases hl
   |cons n r=>have hs:n+r.sum=T:=hs;refine⟨n,yx.mpr (by omega),D6.mpr ⟨r,bU.mpr ⟨by simpa using hl,by omega⟩,rfl⟩⟩
theorem MS(T:Nat):(vC T).Pairwise (· > ·):=by unfold vC;rw[pairwise_map];have h:(List.range (T+1)).Pairwise (· < ·):=pairwise_lt_range;refine List.Pairwise.imp_of_mem (λ{a b} ha hb Lc=>?_) h;rw[mem_range]at hb;show T - b < T - a;omega
theorem jC:∀(k T:Nat),(bE k T).Pairwise vo
 |0,T=>by unfold bE;split <;> simp
 |k+1,T=>by
  unfold bE;rw[pairwise_flatMap];refine⟨λ n _=>?_,?_⟩
  ·rw[pairwise_map];exact(jC k (T - n)).imp λ h=>.inr ⟨rfl,h⟩
  ·refine(MS T).imp λ{a b} h x hx y hy=>?_;rw[D6]at hx hy;obtain⟨r,_,rfl⟩:=hx;obtain⟨s,_,rfl⟩:=hy;exact .inl h
theorem xJ(T:Nat):bE 1 T=[[T]]:=by
 have h1:∀p∈bE 1 T,p=[T]:=λ p hp=>by
  rw[bU]at hp
  match p,hp with
  |[a],hp=>rw[show a=T from by simpa using hp.2]
 have h2:[T]∈bE 1 T:=bU.mpr ⟨rfl,by simp⟩;have h3:=jC 1 T;generalize bE 1 T=l at*
 match l,h1,h2,h3 with
 |[a],h1,_,_=>rw[h1 a (by simp)]
 |a::b::c,h1,_,h3=>have ha:=h1 a (by simp);have hb:=h1 b (by simp);subst ha;subst hb;exact absurd ((pairwise_cons.mp h3).1 _ (by simp)) (ij _)
theorem gS{α β:Type}{f:α->List β}{m:Nat}:∀{l:List α},(∀x∈l,(f x).length<=m)->(l.flatMap f).length<=l.length*m
 |[],_=>by simp
 |a::l,h=>by rw[flatMap_cons,o6,y3,Nat.succ_mul];have:=h a (by simp);have:=gS (f:=f) (m:=m) (l:=l) λ x hx=>h x (k8 _ hx);omega
theorem pU{B:Nat}:∀{k T:Nat},T < B->(bE (k+1) T).length<=B^k
 |0,T,h=>by rw[xJ];simp
 |k+1,T,h=>by
  unfold bE;have:=gS (f:=λ n=>(bE (k+1) (T - n)).map (n::·)) (m:=B^k) (l:=vC T) λ n hn=>by rw[B4];exact pU (by omega)
  refine D8 this ?_;unfold vC;rw[B4,x3,Nat.pow_succ,Nat.mul_comm];exact Nat.mul_le_mul_left _ (by omega)
def sx(h T:Nat):List Cs:=(List.range T).flatMap (bE h)
theorem dw{h T:Nat}{p:Cs}:p∈sx h T↔p.length=h/\p.sum < T:=by
 unfold sx;rw[mem_flatMap];constructor
 ·rintro⟨n,hn,hp⟩;rw[bU]at hp;rw[mem_range]at hn;exact⟨hp.1,by omega⟩
 ·rintro⟨a,b⟩;exact⟨p.sum,mem_range.mpr b,bU.mpr ⟨a,rfl⟩⟩
theorem yg(h T:Nat):(sx h T).Pairwise Ah:=by
 unfold sx;rw[pairwise_flatMap];refine⟨λ n _=>?_,?_⟩
 ·refine List.Pairwise.imp_of_mem (λ{a b} ha hb Lc=>?_) (jC h n);rw[bU]at ha hb;exact .inr ⟨by omega,Lc⟩
 ·refine(pairwise_lt_range (n:=T)).imp λ{a b} h x hx y hy=>?_;rw[bU]at hx hy;exact .inl (by omega)
theorem BB(h T:Nat):sx h (T+1)=sx h T++bE h T:=by unfold sx;rw[range_succ,flatMap_append,flatMap_singleton]
theorem nG{α:Type}{R:α->α->Prop}{Q:α->Prop}:∀{l:List α},l.Pairwise R->(∃x∈l,Q x)->∃x∈l,Q x/\∀y∈l,Q y->y=x\/R x y
 |[],_,h=>by obtain⟨x,hx,_⟩:=h;cases hx
 |a::l,hp,h=>by
  rw[pairwise_cons]at hp;by_cases ha:Q a
  ·refine⟨a,by simp,ha,λ y hy _=>?_⟩;rcases D1.mp hy with z|z
   ·exact .inl z
   ·exact .inr (hp.1 y z)
  ·obtain⟨x,hx,hq,hm⟩:=nG hp.2 (by
    obtain⟨x,hx,hq⟩:=h;rcases D1.mp hx with rfl|z
    ·exact absurd hq ha
    ·exact⟨x,z,hq⟩)
   refine⟨x,k8 _ hx,hq,λ y hy Bf=>?_⟩;rcases D1.mp hy with rfl|z
   ·exact absurd Bf ha
   ·exact hm y z Bf
end KK
namespace KK
def iq{α:Type}(f:α->α):Nat->α->α
 |0,x=>x
 |n+1,x=>iq f n (f x)
theorem nT{α:Type}(f:α->α):∀(n:Nat) (x:α),iq f (n+1) x=f (iq f n x)
 |0,x=>rfl
 |n+1,x=>by show iq f (n+1) (f x)=_;rw[nT f n];rfl
def dj{α:Type}(F:Nat->α->α):Nat->α->Cs->α
 |_,s,[]=>s
 |i,s,c::cs=>dj F (i+1) (iq (F i) c s) cs
structure lE{α:Type}(S:α->Prop)(h:Nat)(F:Nat->α->α):Prop where
 cl:∀s i,i < h->S s->S (F i s)
 cm:∀s i j,i < h->j < h->S s->F i (F j s)=F j (F i s)
section
variable {α:Type}{S:α->Prop}{h:Nat}{F:Nat->α->α}
theorem lE.iq (C:lE S h F){i:Nat}(hi:i < h):∀(n:Nat) (s:α),S s->S (iq (F i) n s)
 |0,s,hs=>hs
 |n+1,s,hs=>C.iq hi n _ (C.cl s i hi hs)
theorem lE.wG (C:lE S h F){i j:Nat}(hi:i < h)(hj:j < h):∀(n:Nat) (s:α),S s->KK.iq (F i) n (F j s)=F j (KK.iq (F i) n s)
 |0,s,hs=>rfl
 |n+1,s,hs=>by show KK.iq (F i) n (F i (F j s))=F j (KK.iq (F i) n (F i s));rw[C.cm s i j hi hj hs,C.wG hi hj n _ (C.cl s i hi hs)]
theorem lE.dj (C:lE S h F):∀(cs:Cs) (i:Nat) (s:α),i+cs.length<=h->S s->S (dj F i s cs)
 |[],i,s,_,hs=>hs
 |c::cs,i,s,hl,hs=>by rw[y3]at hl;exact C.dj cs (i+1) _ (by omega) (C.iq (by omega) _ _ hs)
theorem lE.Tr (C:lE S h F){j:Nat}(hj:j < h):∀(cs:Cs) (i:Nat) (s:α),i+cs.length<=h->S s->KK.dj F i (F j s) cs=F j (KK.dj F i s cs)
 |[],i,s,_,hs=>rfl
 |c::cs,i,s,hl,hs=>by rw[y3]at hl;show KK.dj F (i+1) (KK.iq (F i) c (F j s)) cs=F j (KK.dj F (i+1) (KK.iq (F i) c s) cs);rw[C.wG (by omega) hj c s hs,C.Tr hj cs (i+1) _ (by omega) (C.iq (by omega) _ _ hs)]
theorem lE.inc (C:lE S h F):∀(cs:Cs) (i l:Nat) (s:α),i+cs.length<=h->l < cs.length->S s->KK.dj F i s (KK.inc cs l)=F (i+l) (KK.dj F i s cs)
 |c::cs,i,0,s,hl,_,hs=>by rw[y3]at hl;show KK.dj F (i+1) (KK.iq (F i) (c+1) s) cs=F i (KK.dj F (i+1) (KK.iq (F i) c s) cs);rw[nT,C.Tr (by omega) cs (i+1) _ (by omega) (C.iq (by omega) _ _ hs)]
 |c::cs,i,l+1,s,hl,hc,hs=>by rw[y3]at hl hc;show KK.dj F (i+1) (KK.iq (F i) c s) (KK.inc cs l)=F (i+(l+1)) (KK.dj F (i+1) (KK.iq (F i) c s) cs);rw[C.inc cs (i+1) l _ (by omega) (by omega) (C.iq (by omega) _ _ hs),show i+1+l=i+(l+1) by omega]
def iK(F:Nat->α->α)(s0:α)(h:Nat)(p:Cs):Prop:=p.length=h/\∀q:Cs,q.length=h->Ah q p->dj F 0 s0 q≠dj F 0 s0 p
theorem iK.uniq {s0:α}{p q:Cs}(a:iK F s0 h p)(b:iK F s0 h q)(e:dj F 0 s0 p=dj F 0 s0 q):p=q:=by
 rcases Ah.SD (p:=p) (q:=q) (by rw[a.1,b.1])with z|z|z
 ·exact z
 ·exact absurd e (b.2 p a.1 z)
 ·exact absurd e.symm (a.2 q b.1 z)
theorem iK.ex (F:Nat->α->α)(s0:α)(h:Nat){p:Cs}(hp:p.length=h):∃q,iK F s0 h q/\dj F 0 s0 q=dj F 0 s0 p/\(p=q\/Ah q p):=by
 obtain⟨q,hq,e,hm⟩:=nG (Q:=λ q=>dj F 0 s0 q=dj F 0 s0 p) (yg h (p.sum+1)) ⟨p,dw.mpr ⟨hp,by omega⟩,rfl⟩;have U_:=dw.mp hq;refine⟨q,⟨U_.1,λ r hr ha er=>?_⟩,e,hm p (dw.mpr ⟨hp,by omega⟩) rfl⟩;have hs:r.sum<=q.sum:=by rcases ha with z|z <;> omega
 rcases hm r (dw.mpr ⟨hr,by omega⟩) (er.trans e)with z|z
 ·subst z;exact ha.Rn
 ·exact ha.not z
theorem iK.dn (C:lE S h F){s0:α}(h0:S s0){p:Cs}{l:Nat}(hl:l < p.length)(a:iK F s0 h (KK.inc p l)):iK F s0 h p:=by
 have hp:p.length=h:=by rw[<- iu p l];exact a.1
 refine⟨hp,λ q hq ha e=>?_⟩;refine a.2 (KK.inc q l) (by rw[iu];exact hq) (ha.inc (by omega) hl) ?_;rw[C.inc q 0 l s0 (by omega) (by omega) h0,C.inc p 0 l s0 (by omega) hl h0,e]
def f_(h:Nat):Cs:=List.replicate h 0
theorem qK:∀{p:Cs},p.sum=0->p=f_ p.length
 |[],_=>rfl
 |a::as,e=>by have e:a+as.sum=0:=e;have:=qK (p:=as) (by omega);show a::as=List.replicate (as.length+1) 0;rw[m6,show a=0 by omega];exact J4 _ this
theorem jl(h:Nat):(f_ h).sum=0:=by unfold f_;simp
theorem jQ(F:Nat->α->α)(s:α):∀(h i:Nat),dj F i s (f_ h)=s
 |0,i=>rfl
 |h+1,i=>by show dj F (i+1) s (f_ h)=s;exact jQ F s h (i+1)
theorem iK.f_ (F:Nat->α->α)(s0:α)(h:Nat):iK F s0 h (f_ h):=by
 refine⟨by simp[KK.f_],λ q hq ha=>?_⟩;rcases ha with z|z
 ·rw[jl]at z;omega
 ·rw[jl]at z;have:=qK z.1;rw[hq]at this;rw[this]at z;exact absurd z.2 (ij _)
theorem iK.par (C:lE S h F){s0:α}(h0:S s0){q:Cs}(a:iK F s0 h q)(hz:q≠KK.f_ h):∃p l,l < h/\p.length=h/\q=KK.inc p l/\zb p l/\iK F s0 h p/\p.sum < q.sum:=by
 have hs:0 < q.sum:=Nat.pos_of_ne_zero λ z=>hz (by have:=qK z;rwa [a.1]at this);obtain⟨p,l,hl,hp,e,z⟩:=lastOf hs;have vw:l < p.length:=by omega
 subst e;refine⟨p,l,by rw[<- a.1];exact hl,by rw[hp];exact a.1,rfl,z,a.dn C h0 vw,by rw[eG vw];omega⟩
structure O4(F:Nat->α->α)(s0:α)(h:Nat)(told:List (Cs×α)):Prop where
 ent:∀e∈told,iK F s0 h e.1/\dj F 0 s0 e.1=e.2
 T':(told.map (·.1)).Pairwise Ah
 low:∀q,iK F s0 h q->q∉told.map (·.1)->∀k∈told.map (·.1),Ah k q
 sJ:told[0]?=some (KK.f_ h,s0)
structure sI(F:Nat->α->α)(s0:α)(h:Nat)(told:List (Cs×α))(d i:Nat):Prop where
 iF:O4 F s0 h told
 up:∀q p l,iK F s0 h q->q∉told.map (·.1)->q=KK.inc p l->p.length=h->l < h->zb p l->∀j e,told[j]?=some e->e.1=p->d < j\/(j=d/\i<=l)
theorem sI.start (F:Nat->α->α)(s0:α)(h:Nat):sI F s0 h [(KK.f_ h,s0)] 0 0:=by
 refine⟨⟨λ e he=>?_,by simp,λ q hq hn k hk=>?_,rfl⟩,λ q p l _ _ _ _ _ _ j e hj _=>?_⟩
 ·rw[p7.mp he];exact⟨iK.f_ F s0 h,jQ F s0 h 0⟩
 ·rw[map_singleton,p7]at hk hn;subst hk;rcases Ah.SD (p:=q) (q:=KK.f_ h) (by rw[hq.1];simp[KK.f_])with z|z|z
  ·exact absurd z hn
  ·rcases z with z|z
   ·rw[jl]at z;omega
   ·rw[jl]at z;have:=qK z.1;rw[hq.1]at this;exact absurd this hn
  ·exact z
 ·cases j with
  |zero=>exact .inr ⟨rfl,by omega⟩
  |succ j=>exact .inl (by omega)
theorem sI.turn {s0:α}{told:List (Cs×α)}{d:Nat}(b:sI F s0 h told d h):sI F s0 h told (d+1) 0:=
 ⟨b.iF,λ q p l hq hn e hp hl hz j x hj hx=>by
  rcases b.up q p l hq hn e hp hl hz j x hj hx with z|z
  ·by_cases g:j=d+1
   ·exact .inr ⟨g,by omega⟩
   ·exact .inl (by omega)
  ·omega⟩
theorem O4.at {s0:α}{told:List (Cs×α)}(b:O4 F s0 h told){i j:Nat}{x y:Cs×α}(hi:told[i]?=some x)(hj:told[j]?=some y)(l:i < j):Ah x.1 y.1:=by
 have Bk:(told.map (·.1))[i]?=some x.1:=by rw[s9,hi];rfl
 have Tg:(told.map (·.1))[j]?=some y.1:=by rw[s9,hj];rfl
 obtain⟨a,ha⟩:=g9.mp Bk;obtain⟨c,hc⟩:=g9.mp Tg;have:=pairwise_iff_getElem.mp b.T' i j a c l;rw[ha,hc]at this;exact this
theorem sI.next (C:lE S h F){s0:α}(h0:S s0){told:List (Cs×α)}{d i:Nat}(b:sI F s0 h told d i)(hi:i < h){a:Cs}{s:α}(hd:told[d]?=some (a,s)){q:Cs}(hq:iK F s0 h q)(hn:q∉told.map (·.1)):q=KK.inc a i\/Ah (KK.inc a i) q:=by
 have hz:q≠KK.f_ h:=λ z=>hn (by
  rw[D6];exact⟨_,k9 b.iF.sJ,z.symm⟩)
 have ha:=(b.iF.ent _ (k9 hd)).1;have Tn:a.length=h:=ha.1;obtain⟨p,l,hl,hp,e,z,fp,_⟩:=hq.par C h0 hz;subst e;have key:Ah a p->Ah (KK.inc a i) (KK.inc p l):=λ g=>g.par z (by omega) (by omega);by_cases hm:p∈told.map (·.1)
 ·obtain⟨x,hx,rfl⟩:=D6.mp hm;obtain⟨j,hj⟩:=getElem?_of_mem hx;rcases b.up _ x.1 l hq hn rfl hp hl z j x hj rfl with g|⟨rfl,g⟩
  ·exact .inr (key (b.iF.at hd hj g))
  ·rw[hd]at hj;cases hj;by_cases e:i=l
   ·exact .inl (by rw[e])
   ·exact .inr (Ah.UT (by omega) (by omega))
 ·exact .inr (key (b.iF.low p fp hm a (D6.mpr ⟨_,k9 hd,rfl⟩)))
theorem sI.old (C:lE S h F){s0:α}(h0:S s0){told:List (Cs×α)}{d i:Nat}(b:sI F s0 h told d i)(hi:i < h){a:Cs}{s:α}(hd:told[d]?=some (a,s))(hk:F i s∈told.map (·.2)):sI F s0 h told d (i+1):=by
 refine⟨b.iF,λ q p l hq hn e hp hl hz j x hj hx=>?_⟩;have ha:=b.iF.ent _ (k9 hd);have Tn:a.length=h:=ha.1.1;rcases b.up q p l hq hn e hp hl hz j x hj hx with z|⟨rfl,z⟩
 ·exact .inl z
 ·refine .inr ⟨rfl,?_⟩;by_cases g:i=l
  ·exfalso;subst g;rw[hd]at hj;cases hj;subst hx;obtain⟨y,hy,ey⟩:=D6.mp hk;have Bf:=b.iF.ent y hy;refine hn (D6.mpr ⟨y,hy,Bf.1.uniq hq ?_⟩);rw[Bf.2,ey,e,C.inc a 0 i s0 (by omega) (by omega) h0,ha.2,E4]
  ·omega
theorem sI.new (C:lE S h F){s0:α}(h0:S s0){told:List (Cs×α)}{d i:Nat}(b:sI F s0 h told d i)(hi:i < h){a:Cs}{s:α}(hd:told[d]?=some (a,s))(hk:F i s∉told.map (·.2)):sI F s0 h (told++[(KK.inc a i,F i s)]) d (i+1):=by
 have ha:=b.iF.ent _ (k9 hd);have Tn:a.length=h:=ha.1.1;have hc:dj F 0 s0 (KK.inc a i)=F i s:=by rw[C.inc a 0 i s0 (by omega) (by omega) h0,ha.2,E4]
 have vB:(KK.inc a i).length=h:=by rw[iu];exact Tn
 have fc:iK F s0 h (KK.inc a i):=by
  obtain⟨q,fq,e,hq⟩:=iK.ex F s0 h vB;have hn:q∉told.map (·.1):=λ hm=>by obtain⟨y,hy,rfl⟩:=D6.mp hm;refine hk (D6.mpr ⟨y,hy,?_⟩);rw[<- (b.iF.ent y hy).2,e,hc]
  rcases b.next C h0 hi hd fq hn with z|z
  ·rw[<- z];exact fq
  ·rcases hq with g|g
   ·rw[g];exact fq
   ·exact(z.not g).elim
 have qq:KK.inc a i∉told.map (·.1):=λ hm=>by obtain⟨y,hy,e⟩:=D6.mp hm;exact hk (D6.mpr ⟨y,hy,by rw[<- (b.iF.ent y hy).2,e,hc]⟩)
 have Pn:d < told.length:=(g9.mp hd).1;refine⟨⟨λ e he=>?_,?_,λ q fq hn k JN=>?_,?_⟩,λ q p l hq hn e hp hl hz j x hj hx=>?_⟩
 ·rcases B5.mp he with z|z
  ·exact b.iF.ent e z
  ·rw[p7.mp z];exact⟨fc,hc⟩
 ·rw[B6,pairwise_append];refine⟨b.iF.T',by simp,λ x hx y hy=>?_⟩;rw[map_singleton,p7]at hy;subst hy;exact b.iF.low _ fc qq x hx
 ·rw[B6,B5]at hn JN;rw[not_or]at hn;rcases JN with z|z
  ·exact b.iF.low q fq hn.1 k z
  ·rw[map_singleton,p7]at z;subst z;rcases b.next C h0 hi hd fq hn.1 with g|g
   ·exact absurd (by rw[g];simp) hn.2
   ·exact g
 ·rw[c9 (by omega)];exact b.iF.sJ
 ·rw[B6,B5,not_or]at hn;by_cases g:j < told.length
  ·rw[c9 g]at hj;rcases b.up q p l hq hn.1 e hp hl hz j x hj hx with z|⟨rfl,z⟩
   ·exact .inl z
   ·refine .inr ⟨rfl,?_⟩;by_cases g:i=l
    ·exfalso;subst g;rw[hd]at hj;cases hj;subst hx;exact hn.2 (by rw[e];simp)
    ·omega
  ·exact .inl (by omega)
theorem sI.all (C:lE S h F){s0:α}(h0:S s0){told:List (Cs×α)}{d:Nat}(b:sI F s0 h told d 0)(hd:told.length<=d):∀(n:Nat) (q:Cs),q.sum < n->iK F s0 h q->q∈told.map (·.1)
 |0,q,hs,_=>by omega
 |n+1,q,hs,fq=>by
  refine Decidable.byContradiction λ hn=>?_;have hz:q≠KK.f_ h:=λ z=>hn (by
   rw[D6];exact⟨_,k9 b.iF.sJ,z.symm⟩)
  obtain⟨p,l,hl,hp,e,z,fp,jN⟩:=fq.par C h0 hz;have:=b.all C h0 hd n p (by omega) fp;obtain⟨x,hx,ex⟩:=D6.mp this;obtain⟨j,hj⟩:=getElem?_of_mem hx;have WM:j < told.length:=(g9.mp hj).1;rcases b.up q p l fq hn e hp hl z j x hj ex with g|g <;> omega
theorem O4.nd {s0:α}{told:List (Cs×α)}(b:O4 F s0 h told):(told.map (·.2)).Nodup:=by
 have h2:(told.map (·.1)).Pairwise λ x y=>x≠y:=b.T'.imp λ a e=>by subst e;exact a.Rn
 have h1:told.Pairwise λ x y=>x.1≠y.1:=pairwise_map.mp h2;unfold List.Nodup;rw[pairwise_map];refine List.Pairwise.imp_of_mem (λ{x y} hx hy UY=>?_) h1;intro e;have a:=b.ent x hx;have c:=b.ent y hy;exact UY (a.1.uniq c.1 (by rw[a.2,c.2,e]))
theorem iK.cI (C:lE S h F){s0:α}(h0:S s0){U:List α}(hU:∀s,S s->s∈U){p:Cs}(a:iK F s0 h p):p.sum < U.length:=by
 have key:∀(n:Nat) (p:Cs),p.sum=n->iK F s0 h p->∃L:List Cs,L.length=p.sum+1/\L.Nodup/\∀q∈L,iK F s0 h q/\q.sum<=p.sum:=λ n=>by
  induction n with
  |zero=>exact λ p e fp=>⟨[p],by simp[e],by simp,λ q hq=>by rw[p7.mp hq];exact⟨fp,G5 _⟩⟩
  |succ n ih=>
   intro p e fp;obtain⟨p',l,hl,hp,e',z,Zi,hs⟩:=fp.par C h0 (λ z=>by rw[z,jl]at e;omega);have es:p.sum=p'.sum+1:=by rw[e',eG (by omega)]
   obtain⟨L,hL,nd,hm⟩:=ih p' (by omega) Zi;refine⟨p::L,by rw[y3,hL];omega,nodup_cons.mpr ⟨λ hp=>?_,nd⟩,λ q hq=>?_⟩
   ·have:=(hm p hp).2;omega
   ·rcases D1.mp hq with rfl|g
    ·exact⟨fp,G5 _⟩
    ·have:=hm q g;exact⟨this.1,by omega⟩
 obtain⟨L,hL,nd,hm⟩:=key p.sum p rfl a;have X2:(L.map (dj F 0 s0)).Nodup:=by unfold List.Nodup;rw[pairwise_map];refine List.Pairwise.imp_of_mem (λ{x y} hx hy UY e=>?_) nd;exact UY ((hm x hx).1.uniq (hm y hy).1 e)
 have:=List.Nodup.length_le_of_subset X2 (l₂:=U) λ s hs=>by obtain⟨q,hq,rfl⟩:=D6.mp hs;exact hU _ (C.dj q 0 s0 (by rw[(hm q hq).1.1];omega) h0)
 rw[B4]at this;omega
end
end KK
namespace KK
open PySem L3 L4 L5
inductive sy{α:Type}(F:Nat->α->α)(h:Nat)(s0:α):α->Prop
 |zero:sy F h s0 s0
 |step {s:α} {i:Nat}:sy F h s0 s->i < h->sy F h s0 (F i s)
set_option tactic.hygienic true in
theorem sy.sum {α:Type}{S:α->Prop}{h:Nat}{F:Nat->α->α}{s0:α}(C:lE S h F)(h0:S s0){s:α}(r:sy F h s0 s):∃p:Cs,p.length=h/\dj F 0 s0 p=s:=by
 induction r with
 |zero=>exact⟨f_ h,by simp[f_],jQ F s0 h 0⟩
 |step r hi ih=>obtain⟨p,hp,e⟩:=ih;rename_i i;exact⟨inc p i,by rw[iu];exact hp,by rw[C.inc p 0 i s0 (by omega) (by omega) h0,e,E4]⟩
theorem sy.ok {α:Type}{S:α->Prop}{h:Nat}{F:Nat->α->α}{s0:α}(C:lE S h F)(h0:S s0){s:α}(r:sy F h s0 s):S s:=by
 induction r with
 |zero=>exact h0
 |step r hi ih=>exact C.cl _ _ hi ih
structure dC(m h:Nat)(rows:List Row):Prop where
 tb:Tb m h rows
 gq:lE (· < m) h (a_ rows)
 BI:∀x,x < m->sy (a_ rows) h 0 x
structure cD{α:Type}(F:Nat->α->α)(aO:List α)(s:α)(i:Nat)(r:Row):Prop where
 len:r.length=i
 at':∀j,j < i->∃k:Nat,r[j]?=some (k:Int)/\aO[k]?=some (F j s)
theorem cD.app {α:Type}{F:Nat->α->α}{aO ts:List α}{s:α}{i:Nat}{r:Row}(a:cD F aO s i r):cD F (aO++ts) s i r:=
 ⟨a.len,λ j hj=>by
  obtain⟨k,e,h⟩:=a.at' j hj;exact⟨k,e,by rw[c9 (g9.mp h).1];exact h⟩⟩
theorem cD.next {α:Type}{F:Nat->α->α}{aO:List α}{s:α}{i k:Nat}{r:Row}(a:cD F aO s i r)(hk:aO[k]?=some (F i s)):cD F aO s (i+1) (r++[(k:Int)]):=by
 refine⟨by simp[a.len],λ j hj=>?_⟩;by_cases g:j < i
 ·obtain⟨k,e,h⟩:=a.at' j g;exact⟨k,by rw[c9 (by rw[a.len];exact g)];exact e,h⟩
 ·have:j=i:=by omega
  subst this;refine⟨k,?_,hk⟩;rw[c7 (by rw[a.len];exact G5 _),a.len,Nat.sub_self];rfl
theorem cD.nil {α:Type}(F:Nat->α->α)(aO:List α)(s:α):cD F aO s 0 []:=⟨rfl,λ j hj=>absurd hj (by omega)⟩
structure qJ{α:Type}(F:Nat->α->α)(s0:α)(h:Nat)(U aO:List α)(rows:List Row):Prop where
 nd:aO.Nodup
 sJ:aO[0]?=some s0
 BI:∀s∈aO,sy F h s0 s
 sub:∀s∈aO,s∈U
 row:∀(d:Nat) (r:Row),rows[d]?=some r->∃s,aO[d]?=some s/\cD F aO s h r
section
variable {α:Type}{F:Nat->α->α}{s0:α}{h:Nat}{U aO:List α}{rows:List Row}
theorem qJ.start (hU:s0∈U):qJ F s0 h U [s0] []:=
 ⟨by simp,rfl,λ s hs=>by rw[p7.mp hs];exact .zero,λ s hs=>by rw[p7.mp hs];exact hU,λ d r e=>by cases e⟩
theorem qJ.add (e:qJ F s0 h U aO rows){d i:Nat}{s:α}(hd:aO[d]?=some s)(hi:i < h)(hU:F i s∈U)(hn:F i s∉aO):qJ F s0 h U (aO++[F i s]) rows:=by
 refine⟨nodup_append.mpr ⟨e.nd,by simp,λ a ha b hb z=>hn (by rw[<- p7.mp hb,<- z];exact ha)⟩,?_,λ t ht=>?_,λ t ht=>?_,λ j r hj=>?_⟩
 ·rw[c9 (g9.mp e.sJ).1];exact e.sJ
 ·rcases B5.mp ht with z|z
  ·exact e.BI t z
  ·rw[p7.mp z];exact .step (e.BI s (k9 hd)) hi
 ·rcases B5.mp ht with z|z
  ·exact e.sub t z
  ·rw[p7.mp z];exact hU
 ·obtain⟨t,ht,hr⟩:=e.row j r hj;exact⟨t,by rw[c9 (g9.mp ht).1];exact ht,hr.app⟩
theorem qJ.next (e:qJ F s0 h U aO rows){s:α}{r:Row}(hd:aO[rows.length]?=some s)(hr:cD F aO s h r):qJ F s0 h U aO (rows++[r]):=by
 refine⟨e.nd,e.sJ,e.BI,e.sub,λ j q hj=>?_⟩;by_cases g:j < rows.length
 ·rw[c9 g]at hj;exact e.row j q hj
 ·have hl:=(g9.mp hj).1;rw[o6,j9]at hl;have:j=rows.length:=by omega
  subst this;rw[c7 (G5 _),Nat.sub_self]at hj;cases hj;exact⟨s,hd,hr⟩
theorem qJ.cI (e:qJ F s0 h U aO rows):aO.length<=U.length:=List.Nodup.length_le_of_subset e.nd e.sub
theorem Ef{l:List α}(h:l.Nodup){i j:Nat}{x:α}(a:l[i]?=some x)(b:l[j]?=some x):i=j:=by obtain⟨hi,_⟩:=g9.mp a;exact(getElem?_inj hi h).mp (a.trans b.symm)
theorem qJ.at (e:qJ F s0 h U aO rows)(hl:rows.length=aO.length){d i:Nat}{s:α}(hd:aO[d]?=some s)(hi:i < h):aO[a_ rows i d]?=some (F i s):=by have Pn:=(g9.mp hd).1;obtain⟨t,ht,hr⟩:=e.row d rows[d] (i5 (by omega));rw[hd]at ht;cases ht;obtain⟨k,e1,e2⟩:=hr.at' i hi;unfold a_;rw[c8 (l:=rows),i5 (l:=rows) (i:=d) (by omega)];show aO[((rows[d]).getD i 0).toNat]?=_;rw[c8,e1];exact e2
theorem qJ.tb {S:α->Prop}(C:lE S h F)(h0:S s0)(e:qJ F s0 h U aO rows)(hl:rows.length=aO.length)(hU:U.length<=300)(hh:h<=12):dC rows.length h rows:=by
 have h1:0 < aO.length:=(g9.mp e.sJ).1;have lt:∀{d i:Nat},d < rows.length->i < h->a_ rows i d < rows.length:=λ{d i} hd hi=>by rw[hl];exact(g9.mp (e.at hl (i5 (show d < aO.length by omega)) hi)).1
 refine⟨⟨rfl,by omega,by have:=e.cI;omega,hh,λ r hr=>?_⟩,⟨λ x i hi hx=>lt hx hi,λ x i j hi hj hx=>?_⟩,λ x hx=>?_⟩
 ·obtain⟨d,hd⟩:=getElem?_of_mem hr;obtain⟨s,hs,EV⟩:=e.row d r hd;refine⟨EV.len,λ x hx=>?_⟩;obtain⟨j,hj⟩:=getElem?_of_mem hx;have WM:=(g9.mp hj).1;obtain⟨k,e1,e2⟩:=EV.at' j (by rw[<- EV.len];exact WM);rw[hj]at e1;cases e1;have:=(g9.mp e2).1;omega
 ·have hs:=i5 (show x < aO.length by omega);have ss:=(e.BI _ (k9 hs)).ok C h0;refine Ef e.nd (x:=F i (F j aO[x])) (e.at hl (e.at hl hs hj) hi) ?_;rw[C.cm _ i j hi hj ss];exact e.at hl (e.at hl hs hi) hj
 ·have hs:=i5 (show x < aO.length by omega);have key:∀s,sy F h s0 s->∃k,aO[k]?=some s/\sy (a_ rows) h 0 k:=λ s r=>by
   induction r with
   |zero=>exact⟨0,e.sJ,.zero⟩
   |step r hi ih=>obtain⟨k,hk,hr⟩:=ih;exact⟨_,e.at hl hk hi,.step hr hi⟩
  obtain⟨k,hk,hr⟩:=key _ (e.BI _ (k9 hs));rw[Ef e.nd hs hk];exact hr
end
def Z8(m h:Nat)(rows:List Row)(f:Nat->Cs):Prop:=∀x,x < m->iK (a_ rows) 0 h (f x)/\dj (a_ rows) 0 0 (f x)=x
theorem dC.fst {m h:Nat}{rows:List Row}(T:dC m h rows):∃f,Z8 m h rows f:=by
 have:∀x:Nat,∃p:Cs,x < m->iK (a_ rows) 0 h p/\dj (a_ rows) 0 0 p=x:=λ x=>by
  by_cases hx:x < m
  ·obtain⟨p,hp,e⟩:=(T.BI x hx).sum T.gq T.tb.pos;obtain⟨q,fq,eq,_⟩:=iK.ex (a_ rows) 0 h hp;exact⟨q,λ _=>⟨fq,by rw[eq,e]⟩⟩
  ·exact⟨[],λ g=>absurd g hx⟩
 exact⟨λ x=>Classical.choose (this x),λ x hx=>Classical.choose_spec (this x) hx⟩
abbrev nD(v:Nat):D:=.int (v:Int)
def fV(p:Cs):D:=.tup (p.map nD)
theorem Kg(p:Cs):fV p=row (p.map λ v:Nat=>(v:Int)):=by unfold fV row;rw[D7];rfl
theorem qQ(rows:List Row):∀(p:Cs) (i x:Nat),GW rows i x (p.map λ v:Nat=>(v:Int))=dj (a_ rows) i x p
 |[],i,x=>rfl
 |c::cs,i,x=>by
  have e:∀n y,BK (a_ rows i) n y=iq (a_ rows i) n y:=λ n=>by
   induction n with
   |zero=>exact λ y=>rfl
   |succ n ih=>exact λ y=>by show BK (a_ rows i) n (a_ rows i y)=_;rw[ih];rfl
  show GW rows (i+1) (BK (a_ rows i) c x) (cs.map _)=dj (a_ rows) (i+1) (iq (a_ rows i) c x) cs;rw[qQ rows cs,e]
end KK
namespace KK
open PySem L3 L4 L5
open L2 hiding aI fR
theorem i_{M M':Mem}{f c:Addr}(h:Ext M M')(F:Flow M f c):Fl f c M M':=by obtain⟨ns,p,b,sd,ct,h1,h2,h3⟩:=F;exact⟨⟨ns,p,b,sd,ct,h _ _ h1,h _ _ h2,h3⟩,λ b o _ e=>h b o e⟩
theorem Ext.rfl {M:Mem}:Ext M M:=λ _ _ e=>e
structure Enc{α:Type}(k:Nat)(enc:α->D):Prop where
 inj:∀a b,enc a=enc b->a=b
 pl:∀a,Pl k (enc a)
structure Sx{α:Type}(enc:α->D)(F:Nat->α->α)(s0:α)(h:Nat)(U:List α)(p q:Addr)(aO:List α)(rows:List Row)(M0 M:Mem):Prop where
 ext:Ext M0 M
 np:M0 p=none
 nq:M0 q=none
 pq:p≠q
 st:M p=some (.lst (aO.map enc))
 gD:M q=some (.lst (rows.map row))
 ex:qJ F s0 h U aO rows
 le:rows.length<=aO.length
section
variable {α:Type}{enc:α->D}{F:Nat->α->α}{s0:α}{h:Nat}{U:List α}{p q r:Addr}{aO:List α}{rows:List Row}{M0 M:Mem}
theorem Sx.new (x:Sx enc F s0 h U p q aO rows M0 M)(hr:M r=none)(o:MO):Sx enc F s0 h U p q aO rows M0 (ah M r o):=
 ⟨x.ext.new hr o,x.np,x.nq,x.pq,by rw[av (bM x.st hr)];exact x.st,by rw[av (bM x.gD hr)];exact x.gD,x.ex,x.le⟩
theorem Sx.free (x:Sx enc F s0 h U p q aO rows M0 M)(hr:M r=none):M0 r=none/\p≠r/\q≠r:=⟨x.ext.free hr,bM x.st hr,bM x.gD hr⟩
theorem Sx.own (x:Sx enc F s0 h U p q aO rows M0 M)(hr:M0 r=none/\p≠r/\q≠r)(o:MO):Sx enc F s0 h U p q aO rows M0 (ah M r o):=
 ⟨x.ext.own hr.1,x.np,x.nq,x.pq,by rw[av hr.2.1];exact x.st,by rw[av hr.2.2];exact x.gD,x.ex,x.le⟩
theorem Sx.add (x:Sx enc F s0 h U p q aO rows M0 M){d i:Nat}{s:α}(hd:aO[d]?=some s)(hi:i < h)(hU:F i s∈U)(hn:F i s∉aO):Sx enc F s0 h U p q (aO++[F i s]) rows M0 (ah M p (.lst (aO.map enc++[enc (F i s)]))):=
 ⟨x.ext.own x.np,x.np,x.nq,x.pq,by rw[af,B6];rfl,by rw[av (J5 x.pq)];exact x.gD,x.ex.add hd hi hU hn,by rw[o6];have:=x.le;omega⟩
theorem Sx.next (x:Sx enc F s0 h U p q aO rows M0 M){s:α}{r:Row}(hd:aO[rows.length]?=some s)(hr:cD F aO s h r):Sx enc F s0 h U p q aO (rows++[r]) M0 (ah M q (.lst (rows.map row++[row r]))):=
 ⟨x.ext.own x.nq,x.np,x.nq,x.pq,by rw[av x.pq];exact x.st,by rw[af,B6];rfl,x.ex.next hd hr,by
  have:=(g9.mp hd).1;rw[o6,j9];omega⟩
theorem Sx.cI (x:Sx enc F s0 h U p q aO rows M0 M):aO.length<=U.length/\rows.length<=U.length:=by have:=x.ex.cI;have:=x.le;omega
end
theorem rQ{α:Type}[DecidableEq α]{xs:List α}{a:α}(h:a∈xs):xs[xs.idxOf a]?=some a:=by rw[i5 (idxOf_lt_length_of_mem h),getElem_idxOf]
def cnt(v lo w:Nat):Nat:=if v < lo+w then v else lo+(v - lo) % w
theorem FT{v lo w:Nat}(h:0 < w):cnt v lo w < lo+w:=by
 unfold cnt;split
 ·omega
 ·have:=Nat.mod_lt (v - lo) h;omega
theorem zw{v a lo w:Nat}(h:0 < w):cnt (cnt v lo w+a) lo w=cnt (v+a) lo w:=by
 unfold cnt;by_cases g:v < lo+w
 ·rw[J6 g]
 ·rw[J7 g];have hm:=Nat.mod_lt (v - lo) h;have e2:((v - lo) % w+a) % w=(v+a - lo) % w:=by rw[Nat.mod_add_mod];congr 1;omega
  by_cases g2:lo+(v - lo) % w+a < lo+w
  ·rw[J6 g2,J7 (by omega),<- e2,Nat.mod_eq_of_lt (show(v - lo) % w+a < w by omega)];omega
  ·rw[J7 g2,J7 (by omega),<- e2,show lo+(v - lo) % w+a - lo=(v - lo) % w+a by omega]
theorem zu{v a b lo w:Nat}(h:0 < w):cnt (cnt (v+a) lo w+b) lo w=cnt (cnt (v+b) lo w+a) lo w:=by rw[zw h,zw h,show v+a+b=v+b+a by omega]
def iJ(m:Nat)(ls:Row):Prop:=ls.Pairwise (· < ·)/\∀x∈ls,0<=x/\x < (m:Int)
theorem iJ.nil (m:Nat):iJ m []:=⟨.nil,λ x h=>by cases h⟩
theorem iJ.up {m:Nat}{ls:Row}(h:iJ m ls):iJ (m+1) ls:=⟨h.1,λ x hx=>by have:=h.2 x hx;omega⟩
theorem iJ.add {m:Nat}{ls:Row}(h:iJ m ls):iJ (m+1) (ls++[(m:Int)]):=by
 refine⟨pairwise_append.mpr ⟨h.1,by simp,λ x hx y hy=>?_⟩,λ x hx=>?_⟩
 ·rw[p7.mp hy];exact(h.2 x hx).2
 ·rcases B5.mp hx with z|z
  ·have:=h.2 x z;omega
  ·rw[p7.mp z];omega
theorem iJ.cI {m:Nat}:∀{ls:Row},iJ m ls->ls.length<=m:=λ{ls} h=>by
 have nd:(ls.map Int.toNat).Nodup:=by unfold List.Nodup;rw[pairwise_map];refine List.Pairwise.imp_of_mem (λ{a b} ha hb Lc=>?_) h.1;have:=h.2 a ha;have:=h.2 b hb;omega
 have:=List.Nodup.length_le_of_subset nd (l₂:=List.range m) λ x hx=>by obtain⟨y,hy,rfl⟩:=D6.mp hx;have:=h.2 y hy;exact mem_range.mpr (by omega)
 rwa [B4,x3]at this
end KK
namespace KK
open PySem L3 L4 L5
open L2 hiding aI fR
theorem lU{α:Type}[DecidableEq α]{k:Nat}{enc:α->D}{F:Nat->α->α}{s0:α}{h:Nat}{U:List α}{p q pw:Addr}{aO:List α}{rows:List Row}{M0 M:Mem}{r:Row}{s:α}{i jt js jr:Nat}{δ:cS}{E:iP} (en:Enc k enc) (hk:k<=60) (X:Sx enc F s0 h U p q aO rows M0 M) (hb:U.length<=300) (hh:h<=12) (fw:M0 pw=none/\p≠pw/\q≠pw) (hw:M pw=some (.lst (r.map D.int))) (hr:cD F aO s i r) (hd:aO[rows.length]?=some s) (hi:i < h) (hU:F i s∈U) (et:δ[jt]?=some (some (enc (F i s)))) (es:δ[js]?=some (some (.ref p))) (er:δ[jr]?=some (some (.ref pw))) (kk:∀(fO:List α) (r':Row) (M':Mem),Sx enc F s0 h U p q fO rows M0 M'->M' pw=some (.lst (r'.map D.int))->cD F fO s (i+1) r'->fO[rows.length]?=some s->E.nx δ M'):CG (Hq (lh (Ar my (fF jt) (fF js))) (tL (O9 "list" mz (fF js) (nk (fF jt) vT))) xV) (tL (O9 "list" mz (fF jr) (nk (O9 "list" xf (fF js) (nk (fF jt) vT)) vT))) E δ M:=by
 have vt:∀{M:Mem} {Q:bK},Q (enc (F i s)) M->fF jt δ M Q:=λ q=>fi et q;have vs:∀{M:Mem} {Q:bK},Q (.ref p) M->fF js δ M Q:=λ q=>fi es q;have vr:∀{M:Mem} {Q:bK},Q (.ref pw) M->fF jr δ M Q:=λ q=>fi er q;refine gG (λ δ' M'=>δ'=δ/\∃fO,Sx enc F s0 h U p q fO rows M0 M'/\M' pw=some (.lst (r.map D.int))/\cD F fO s i r/\fO[rows.length]?=some s/\F i s∈fO) (λ N hN=>?_) ?_
 ·refine Dk (lW (x_ (vt (vs ?_))));refine v_ (k:=k) (b:=decide (F i s∈aO)) (ds:=aO.map enc) (dU X.st) (en.pl _) (gH λ x _=>en.pl x) hk (by rw[decide_eq_true_iff];exact(yw en.inj _).symm) ?_;refine h_ (λ hn=>?_) (λ hn=>?_)
  ·have hn:F i s∉aO:=by simpa using hn
   refine rk (yc (vs ⟨⟨rfl,_,X.st⟩,jA (vt (iS ?_))⟩));refine fS X.st (by rw[B4];have:=X.cI;exact p5 (show aO.length<=300 by omega) (by decide)) ?_;exact hN _ _ ⟨rfl,aO++[F i s],X.add hd hi hU hn,by rw[av (J5 fw.2.1)];exact hw,hr.app,by rw[c9 (g9.mp hd).1];exact hd,by simp⟩
  ·have hn:F i s∈aO:=by simpa using hn
   exact hN _ _ ⟨rfl,aO,X,hw,hr,hd,hn⟩
 ·rintro δ' M' ⟨rfl,fO,X,hw,hr,hd,hm⟩;refine rk (yc (vr ⟨⟨rfl,_,hw⟩,jA (yc (vs ⟨⟨rfl,_,X.st⟩,jA (vt (iS ?_))⟩))⟩));refine jz enc en.inj X.st hm en.pl hk ?_;refine iS (fS hw (by rw[B4,hr.len];exact p5 (show i<=300 by omega) (by decide)) ?_);exact kk fO (r++[((fO.idxOf (F i s):Nat):Int)]) _ (X.own fw _) (by rw[af,B6];rfl) (hr.next (rQ hm)) hd
end KK
namespace KK
open PySem L3 L4 L5
open L2 hiding aI fR
theorem eC:Enc 0 nD:=⟨λ a b z=>Int.ofNat.inj (D.int.inj z),λ a=>dN 0 _⟩
theorem JX:Enc 1 fV:=by refine⟨λ a b z=>?_,λ a=>wj λ e he=>by obtain⟨x,_,rfl⟩:=D6.mp he;exact dN 0 _⟩;have:=D.tup.inj z;exact List.map_inj_right (f:=nD) (λ a b z=>eC.inj a b z) |>.mp this
def pD(p:Nat×Nat):D:=.tup [.int (p.1:Int),.int (p.2:Int)]
theorem FC:Enc 1 pD:=by
 refine⟨λ a b z=>?_,λ a=>wj λ e he=>?_⟩
 ·have:=D.tup.inj z;injection this with h1 h2
  injection h2 with h2 _
  exact Prod.ext (eC.inj _ _ h1) (eC.inj _ _ h2)
 ·rcases D1.mp he with rfl|he
  ·exact dN 0 _
  ·rw[p7.mp he];exact dN 0 _
def stC:List (Nat×Nat)->Cs->Cs->Cs
 |(lo,w)::cs,a::ws,v::s=>cnt (v+a) lo w::stC cs ws s
 |_,_,_=>[]
def sj:List (Nat×Nat)->List Cs
 |[]=>[[]]
 |(lo,w)::cs=>(List.range (lo+w)).flatMap λ x=>(sj cs).map (x::·)
theorem xK:∀{cs:List (Nat×Nat)} {ws s:Cs},ws.length=cs.length->s.length=cs.length->(stC cs ws s).length=cs.length
 |[],[],[],_,_=>rfl
 |(lo,w)::cs,a::ws,v::s,h,g=>by show(stC cs ws s).length+1=_;rw[xK (cs:=cs) (by simpa using h) (by simpa using g)];rfl
theorem xM:∀{cs:List (Nat×Nat)} {ws us s:Cs},(∀c∈cs,0 < c.2)->ws.length=cs.length->us.length=cs.length->s.length=cs.length->stC cs ws (stC cs us s)=stC cs us (stC cs ws s)
 |[],_,_,_,_,_,_,_=>rfl
 |(lo,w)::cs,a::ws,b::us,v::s,hc,h1,h2,h3=>by show cnt (cnt (v+b) lo w+a) lo w::stC cs ws (stC cs us s)=cnt (cnt (v+a) lo w+b) lo w::stC cs us (stC cs ws s);rw[zu (hc (lo,w) (by simp)),xM (λ c hh=>hc c (by simp[hh])) (by simpa using h1) (by simpa using h2) (by simpa using h3)]
theorem xN:∀{cs:List (Nat×Nat)} {ws s:Cs},(∀c∈cs,0 < c.2)->ws.length=cs.length->s.length=cs.length->stC cs ws s∈sj cs
 |[],[],[],_,_,_=>by simp[stC,sj]
 |(lo,w)::cs,a::ws,v::s,hc,h1,h2=>by show cnt (v+a) lo w::stC cs ws s∈(List.range (lo+w)).flatMap λ x=>(sj cs).map (x::·);rw[mem_flatMap];exact⟨_,mem_range.mpr (FT (hc (lo,w) (by simp))),D6.mpr ⟨_,xN (λ c hh=>hc c (by simp[hh])) (by simpa using h1) (by simpa using h2),rfl⟩⟩
theorem xy:∀{cs:List (Nat×Nat)},(∀c∈cs,0 < c.2)->f_ cs.length∈sj cs
 |[],_=>by simp[f_,sj]
 |(lo,w)::cs,hc=>by show 0::f_ cs.length∈(List.range (lo+w)).flatMap λ x=>(sj cs).map (x::·);rw[mem_flatMap];have:=hc (lo,w) (by simp);exact⟨0,mem_range.mpr (by show 0 < lo+w;have:0 < w:=this;omega),D6.mpr ⟨_,xy λ c hh=>hc c (by simp[hh]),rfl⟩⟩
theorem sh(cs:List (Nat×Nat))(lo w:Nat):(sj ((lo,w)::cs)).length=(lo+w)*(sj cs).length:=by show((List.range (lo+w)).flatMap λ x=>(sj cs).map (x::·)).length=_;rw[length_flatMap];simp only[B4];rw[map_const',x3,sum_replicate_nat]
abbrev VX:=Nat×Nat×Nat×Nat
def vM:List (Nat×Nat)->Cs->Cs->List VX
 |c::cs,a::ws,v::s=>(v,a,c)::vM cs ws s
 |_,_,_=>[]
def Cb(t:VX):D:=.tup [.int (t.1:Int),.int (t.2.1:Int),pD t.2.2]
theorem xG:∀{cs:List (Nat×Nat)} {ws s:Cs},ws.length=cs.length->s.length=cs.length->sS (s.map nD) (ws.map nD) (cs.map pD)=(vM cs ws s).map Cb/\stC cs ws s=(vM cs ws s).map λ t=>cnt (t.1+t.2.1) t.2.2.1 t.2.2.2
 |[],[],[],_,_=>⟨rfl,rfl⟩
 |c::cs,a::ws,v::s,h,g=>by
  have ih:=xG (cs:=cs) (ws:=ws) (s:=s) (by simpa using h) (by simpa using g);refine⟨?_,?_⟩
  ·show Cb (v,a,c)::sS (s.map nD) (ws.map nD) (cs.map pD)=Cb (v,a,c)::(vM cs ws s).map Cb;rw[ih.1]
  ·show cnt (v+a) c.1 c.2::stC cs ws s=cnt (v+a) c.1 c.2::(vM cs ws s).map _;rw[ih.2]
theorem xH:∀{cs:List (Nat×Nat)} {ws s:Cs} {t:VX},t∈vM cs ws s->t.2.2∈cs
 |c::cs,a::ws,v::s,t,h=>by
  rcases D1.mp (show t∈(v,a,c)::vM cs ws s from h)with e|e
  ·rw[e];simp
  ·exact k8 _ (xH e)
 |[],_,_,_,h=>by cases h
 |_::_,[],_,_,h=>by cases h
 |_::_,_::_,[],_,h=>by cases h
theorem xI:∀{cs:List (Nat×Nat)} {ws s:Cs},(vM cs ws s).length<=cs.length
 |c::cs,a::ws,v::s=>by show(vM cs ws s).length+1<=cs.length+1;exact Nat.succ_le_succ xI
 |[],_,_=>G5 _
 |_::_,[],_=>G7 _
 |_::_,_::_,[]=>G7 _
def lC(cs:List (Nat×Nat)):Prop:=(∃lo w,cs=[(lo,w)]/\lo<=3/\1<=w/\w<=4)\/∃lo w O_ w',cs=[(lo,w),(O_,w')]/\lo<=2/\1<=w/\w<=2/\O_<=2/\1<=w'/\w'<=2
theorem lC.pos {cs:List (Nat×Nat)}(h:lC cs):∀c∈cs,0 < c.2:=by
 rcases h with⟨lo,w,rfl,_,h,_⟩|⟨lo,w,O_,w',rfl,_,h,_,_,h',_⟩
 ·intro c hc;rw[p7.mp hc];exact h
 ·intro c hc;rcases D1.mp hc with rfl|hc
  ·exact h
  ·rw[p7.mp hc];exact h'
theorem lC.box {cs:List (Nat×Nat)}(h:lC cs):(sj cs).length<=16/\1<=cs.length/\cs.length<=2:=by
 rcases h with⟨lo,w,rfl,h1,h2,h3⟩|⟨lo,w,O_,w',rfl,h1,h2,h3,h4,h5,h6⟩
 ·rw[sh];show(lo+w)*1<=16/\1<=1/\1<=2;omega
 ·rw[sh,sh];show(lo+w)*((O_+w')*1)<=16/\1<=2/\2<=2;refine⟨D8 (Nat.mul_le_mul (show lo+w<=4 by omega) (show(O_+w')*1<=4 by omega)) (by decide),by omega,by omega⟩
theorem lC.gq {cs:List (Nat×Nat)}(h:lC cs){ws:List Cs}(hw:∀w∈ws,w.length=cs.length):lE (λ s:Cs=>s.length=cs.length) ws.length (λ i s=>stC cs (ws.getD i []) s):=by
 have hl:∀{i},i < ws.length->(ws.getD i []).length=cs.length:=λ{i} hi=>by rw[c8,i5 hi];exact hw _ (y9 hi)
 exact⟨λ s i hi hs=>xK (hl hi) hs,λ s i j hi hj hs=>xM h.pos (hl hi) (hl hj) hs⟩
def stN(L:Nat)(sz:Cs)(i:Nat)(s:Nat×Nat):Nat×Nat:=(s.1^^^sz.getD i 0,max s.2 (if 1 < sz.getD i 0 then 1 else 0)*L)
def Ga:List (Nat×Nat):=(List.range 8).flatMap λ a=>(List.range 2).map λ b=>(a,b)
theorem yy{s:Nat×Nat}:s∈Ga↔s.1 < 8/\s.2 < 2:=by
 unfold Ga;rw[mem_flatMap];constructor
 ·rintro⟨a,ha,h⟩;obtain⟨b,hb,rfl⟩:=D6.mp h;exact⟨mem_range.mp ha,mem_range.mp hb⟩
 ·rintro⟨h1,h2⟩;exact⟨s.1,mem_range.mpr h1,D6.mpr ⟨s.2,mem_range.mpr h2,rfl⟩⟩
theorem Hb{L h:Nat}{sz:Cs}(hL:L<=1)(hs:∀x∈sz,x < 5):lE (λ s=>s∈Ga) h (stN L sz):=by
 have hz:∀i,sz.getD i 0 < 5:=λ i=>by
  rw[c8];cases e:sz[i]? with
  |none=>decide
  |some v=>exact hs v (k9 e)
 refine⟨λ s i _ hs=>?_,λ s i j _ _ _=>?_⟩
 ·rw[yy]at hs ⊢;refine⟨Nat.xor_lt_two_pow (n:=3) hs.1 (by have:=hz i;show sz.getD i 0 < 8;omega),?_⟩;show max s.2 (if 1 < sz.getD i 0 then 1 else 0)*L < 2;have:max s.2 (if 1 < sz.getD i 0 then 1 else 0)<=1:=by refine Nat.max_le.mpr ⟨by omega,?_⟩;split <;> omega
  exact p5 (Nat.mul_le_mul this hL) (by decide)
 ·unfold stN;dsimp only;refine Prod.ext ?_ ?_
  ·show s.1^^^_^^^_=s.1^^^_^^^_;rw[Nat.xor_assoc,Nat.xor_assoc,Nat.xor_comm (sz.getD j 0)]
  ·show max (max s.2 _*L) _*L=max (max s.2 _*L) _*L;rcases Nat.le_one_iff_eq_zero_or_eq_one.mp hL with e|e
   ·subst e;simp
   ·subst e;simp only[Nat.mul_one];rw[Nat.max_assoc,Nat.max_assoc,Nat.max_comm (if 1 < sz.getD j 0 then 1 else 0)]
def O8(rows:List Row)(w:Nat)(ws:Cs)(i:Nat)(s:Nat×Nat):Nat×Nat:=(a_ rows i s.1,(s.2+ws.getD i 0) % w)
def By(m w:Nat):List (Nat×Nat):=(List.range m).flatMap λ a=>(List.range w).map λ b=>(a,b)
theorem mf{m w:Nat}{s:Nat×Nat}:s∈By m w↔s.1 < m/\s.2 < w:=by
 unfold By;rw[mem_flatMap];constructor
 ·rintro⟨a,ha,h⟩;obtain⟨b,hb,rfl⟩:=D6.mp h;exact⟨mem_range.mp ha,mem_range.mp hb⟩
 ·rintro⟨h1,h2⟩;exact⟨s.1,mem_range.mpr h1,D6.mpr ⟨s.2,mem_range.mpr h2,rfl⟩⟩
theorem Km(m w:Nat):(By m w).length=m*w:=by unfold By;rw[length_flatMap];simp only[B4,x3];rw[map_const',x3,sum_replicate_nat]
theorem Hd{m h w:Nat}{rows:List Row}{ws:Cs}(T:dC m h rows)(hw:0 < w):lE (λ s=>s∈By m w) h (O8 rows w ws):=by
 refine⟨λ s i hi hs=>?_,λ s i j hi hj hs=>?_⟩
 ·rw[mf]at hs ⊢;exact⟨T.gq.cl _ _ hi hs.1,Nat.mod_lt _ hw⟩
 ·rw[mf]at hs;refine Prod.ext (T.gq.cm _ _ _ hi hj hs.1) ?_;show((s.2+ws.getD j 0) % w+ws.getD i 0) % w=((s.2+ws.getD i 0) % w+ws.getD j 0) % w;rw[Nat.mod_add_mod,Nat.mod_add_mod,Nat.add_right_comm]
theorem qR{m h:Nat}{rows:List Row}(T:Tb m h rows){x i:Nat}(hx:x < m)(hi:i < h):gr (rows.map row) (x:Int)=some (row (rows.getD x []))/\gr ((rows.getD x []).map D.int) (i:Int)=some (.int (a_ rows i x)):=by
 have sL:x < rows.length:=by rw[T.len];exact hx
 have a:=T.at hx hi;refine⟨bG (by rw[s9,i5 sL,c8,i5 sL];rfl),?_⟩;rw[Ge (by rw[a.1];exact hi),a.2.1]
theorem Qd{m h:Nat}{rows pZ:List Row}{ord:List Nat}(T:dC m h rows)(hp:ord.Perm (List.range m))(h0:ord[0]?=some 0)(hl:pZ.length=m)(hr:∀(d:Nat) (r:Row),pZ[d]?=some r->∃x,ord[d]?=some x/\cD (a_ rows) ord x h r):dC m h pZ:=by
 have e:qJ (a_ rows) 0 h (List.range m) ord pZ:=⟨hp.nodup_iff.mpr nodup_range,h0,λ s hs=>T.BI s (mem_range.mp (hp.mem_iff.mp hs)),λ s hs=>hp.mem_iff.mp hs,hr⟩;have ol:ord.length=m:=by rw[hp.length_eq,x3]
 have:=e.tb T.gq T.tb.pos (by rw[hl,ol]) (by rw[x3];exact T.tb.cI) T.tb.Bn
 rwa [hl]at this
theorem Dg{p:Addr}{ds:List D}{M:Mem}{Q:bK}(h:M p=some (.lst ds))(q:∀p,M p=none->Q (.ref p) (ah M p (.lst ds))):dList [.ref p] M Q:=by show(match cE M (.ref p)with|some ds=>∀p,M p=none->Q (.ref p) (ah M p (.lst ds))|none=>False);rw[dU h];exact q
theorem NV{m:Nat}{xs:Row}(h:xs.Pairwise (·<=·))(nd:xs.Nodup)(hb:∀x∈xs,0<=x/\x < (m:Int)):iJ m xs:=by refine⟨?_,hb⟩;have:=List.Pairwise.and h nd;exact this.imp λ{a b} z=>by have:=z.1;have:=z.2;omega
theorem DS{m:Nat}(hm:0 < m){ns:List Nat}(h:ns.Perm ((List.range (m - 1)).map (·+1))):(0::ns).Perm (List.range m):=by obtain⟨k,rfl⟩:∃k,m=k+1:=⟨m - 1,by omega⟩;rw[range_succ_eq_map];exact h.cons 0
def eB(ord:List Nat)(r:Row):Row:=r.map λ y=>(ord.idxOf y.toNat:Int)
theorem Ht{m h:Nat}{rows:List Row}{ord:List Nat}(G:dC m h rows)(hp:ord.Perm (List.range m)){x:Nat}(hx:x < m):cD (a_ rows) ord x h (eB ord (rows.getD x [])):=by
 have sL:x < rows.length:=by rw[G.tb.len];exact hx
 have e:(rows.getD x []).length=h:=by rw[c8,i5 sL];exact(G.tb.row _ (y9 sL)).1
 refine⟨by unfold eB;rw[B4];exact e,λ j hj=>⟨ord.idxOf (a_ rows j x),?_,rQ (hp.mem_iff.mpr (mem_range.mpr (G.gq.cl _ _ hj hx)))⟩⟩;unfold eB a_;rw[s9,i5 (by omega),c8 (l:=rows.getD x []),i5 (by omega)];rfl
theorem CW{m:Nat}{ls xs:Row}{ord:List Nat}(hp:ord.Perm (List.range m))(L:iJ m ls)(h:xs.Perm (eB ord ls))(hs:xs.Pairwise (·<=·)):iJ m xs:=by
 have Pg:ord.length=m:=by rw[hp.length_eq,x3]
 have qo:∀y∈ls,y.toNat∈ord:=λ y hy=>hp.mem_iff.mpr (mem_range.mpr (by have:=L.2 y hy;omega));refine NV hs (h.nodup_iff.mpr ?_) λ x hx=>?_
 ·unfold eB List.Nodup;rw[pairwise_map];refine List.Pairwise.imp_of_mem (λ{a b} ha hb Lc=>?_) L.1;intro e;have e:ord.idxOf a.toNat=ord.idxOf b.toNat:=by omega
  have h1:=rQ (qo a ha);rw[e,rQ (qo b hb)]at h1;have:=A9 h1;have:=L.2 a ha;have:=L.2 b hb;omega
 ·obtain⟨y,hy,rfl⟩:=D6.mp (h.mem_iff.mp hx);have:=idxOf_lt_length_of_mem (qo y hy);omega
theorem Eg{ns:List Nat}{b:Bool}(h:b=true↔ns=[]):b=true↔ns.map nD=[]:=by rw[h,map_eq_nil_iff]
theorem yz{α β:Type}(f:α->β):∀(l:List α) (j:Nat),(l.map f).eraseIdx j=(l.eraseIdx j).map f
 |[],_=>rfl
 |a::l,0=>rfl
 |a::l,j+1=>by show f a::(l.map f).eraseIdx j=f a::(l.eraseIdx j).map f;rw[yz f l j]
theorem tW{α:Type}:∀{l:List α} {j:Nat} (h:j < l.length),([l[j]]++l.eraseIdx j).Perm l
 |a::l,0,_=>.refl _
 |a::l,j+1,h=>by have:=tW (l:=l) (j:=j) (by simpa using h);show(l[j]'(by simpa using h)::a::l.eraseIdx j).Perm (a::l);exact(List.Perm.swap _ _ _).trans (this.cons a)
theorem xh{α:Type}{g:iE}{te:cu}{δc:cS}{M1:Mem}{Qe:List D->Mem->Prop}{a:Addr}{xs:List α}(enc out:α->D)(hn:xs.length<=sizeLine)(hl:M1 a=some (.lst (xs.map enc))) (hs:∀(i:Nat) (x:α) (N:D->Mem->Prop),xs[i]?=some x->N (out x) M1->g (enc x) δc M1 λ δ2 M2=>te δ2 M2 N) (hd:Qe (xs.map out) M1):∃(B:Nat) (W:Nat->List D->Mem->Prop),W 0 [] M1/\∀i acc M,W i acc M->i<=B/\acc.length<=sizeLine/\match items (.at a) M with
   |none=>False
   |some ds=>match ds[i]? with
    |none=>i=ds.length/\Qe acc M
    |some d=>g d δc M λ δ2 M2=>tK δ2 M2 λ b M3=>if b=true then te δ2 M3 λ y M4=>W (i+1) (acc++[y]) M4 else W (i+1) acc M3:=by
 refine Ln (ds:=xs.map enc) (λ i acc M=>M=M1/\acc=(xs.take i).map out) ⟨rfl,rfl⟩ (λ i acc M _ h=>by rw[h.1];exact hl) (λ i acc M _ h=>?_) (λ i d acc M hd2 h=>?_) (λ acc M h=>?_)
 ·rw[h.2,B4,y8];exact D8 (Nat.min_le_right _ _) hn
 ·obtain⟨rfl,rfl⟩:=h;rw[s9]at hd2;obtain⟨x,hx,rfl⟩:=Option.map_eq_some_iff.mp hd2;exact hs i x (λ y M4=>M4=M/\_) hx ⟨rfl,by rw[take_one hx,B6];rfl⟩
 ·obtain⟨rfl,rfl⟩:=h;rw[B4,y4];exact hd
theorem OI{t i:Nat}(h:i < t+1):(vC t)[i]?=some (t - i):=by unfold vC;rw[s9,l8 h];rfl
theorem JY(t:Nat):(vC t).length=t+1:=by simp[vC]
def gc(q t i:Nat):List Cs:=((vC t).take i).flatMap λ n=>(bE q (t - n)).map (n::·)
theorem hV(q t:Nat):gc q t (t+1)=bE (q+1) t:=by unfold gc;rw[j2 (by rw[JY];exact G5 _)];rfl
theorem mW{q t i:Nat}(h:i < t+1):gc q t (i+1)=gc q t i++(bE q (t - (t - i))).map ((t - i)::·):=by unfold gc;rw[take_one (OI h),flatMap_append,flatMap_singleton]
theorem pT{q t i:Nat}(hq:q<=5)(ht:t<=19)(h:i<=t+1):(gc q t i).length<=sizeLine:=by
 have h1:(gc q t i).length<=(gc q t (t+1)).length:=by
  rw[hV];unfold gc;show _<=((vC t).flatMap λ n=>(bE q (t - n)).map (n::·)).length;generalize(λ n=>(bE q (t - n)).map (n::·))=f;have e:(vC t).flatMap f=((vC t).take i).flatMap f++((vC t).drop i).flatMap f:=by rw[<- flatMap_append,take_append_drop]
  rw[e,o6];omega
 rw[hV]at h1;have:=pU (B:=20) (k:=q) (T:=t) (by omega);have h3:20^q<=20^5:=Nat.pow_le_pow_right (by decide) hq;exact D8 h1 (D8 this (D8 h3 (by decide)))
theorem vN{q t:Nat}(hq:q<=6)(ht:t<=19):(bE q t).length<=sizeLine:=by
 cases q with
 |zero=>unfold bE;split <;> decide
 |succ q=>rw[<- hV];exact pT (by omega) ht (G5 _)
end KK
namespace KK
open PySem L3 L4 L5
open L2 hiding aI fR
def oQ{α:Type}(enc:α->D)(kvs:List (α×D)):List (D×D):=kvs.map λ p=>(enc p.1,p.2)
section
variable {α:Type}[DecidableEq α]{enc:α->D}
theorem nL(inj:∀a b,enc a=enc b->a=b)(x:α):∀kvs:List (α×D),dg (oQ enc kvs) (enc x)=(kvs.find? λ p=>decide (p.1=x)).map (·.2)
 |[]=>rfl
 |p::kvs=>by
  have ih:=nL inj x kvs;unfold dg oQ at ih ⊢;rw[C9,A6,A6];by_cases z:p.1=x
  ·rw[C0 z,C0 (by rw[z])];rfl
  ·rw[A7 z,A7 (λ h=>z (inj _ _ h))];exact ih
theorem kI(inj:∀a b,enc a=enc b->a=b){kvs:List (α×D)}{x:α}(h:x∉kvs.map (·.1)):dg (oQ enc kvs) (enc x)=none:=by
 rw[nL inj,find?_eq_none.mpr]
 ·rfl
 ·intro p hp;rw[decide_eq_true_iff];exact λ e=>h (D6.mpr ⟨p,hp,e⟩)
theorem qe(inj:∀a b,enc a=enc b->a=b){kvs:List (α×D)}{x:α}{d:D}(nd:(kvs.map (·.1)).Nodup)(h:(x,d)∈kvs):dg (oQ enc kvs) (enc x)=some d:=by
 rw[nL inj];cases e:kvs.find? λ p=>decide (p.1=x)with
 |none=>have:=find?_eq_none.mp e _ h;simp at this
 |some q=>
  have h1:=find?_some e;have h2:=mem_of_find?_eq_some e;rw[decide_eq_true_iff]at h1;obtain⟨i,hi⟩:=getElem?_of_mem h;obtain⟨j,hj⟩:=getElem?_of_mem h2;have e1:(kvs.map (·.1))[i]?=some x:=by rw[s9,hi];rfl
  have e2:(kvs.map (·.1))[j]?=some x:=by rw[s9,hj,<- h1];rfl
  have:=Ef nd e1 e2;subst this;rw[hi]at hj;cases hj;rfl
theorem yh(inj:∀a b,enc a=enc b->a=b){kvs:List (α×D)}{x:α}(v:D)(h:x∉kvs.map (·.1)):putD (oQ enc kvs) (enc x) v=oQ enc (kvs++[(x,v)]):=by unfold putD;rw[kI inj h,J7 (by simp)];unfold oQ;rw[B6];rfl
end
theorem iV(x:Nat):gX false (nD x):=⟨.inl x,rfl⟩
theorem Er:∀{p:Cs} {c:Nat},c∈p->c<=p.sum
 |a::p,c,h=>by
  show c<=a+p.sum;rcases D1.mp h with rfl|h
  ·omega
  ·have:=Er h;omega
theorem uE{α:Type}(F:Nat->α->α):∀(cs:Cs) (i:Nat) (s:α) (c:Nat),dj F i s (cs++[c])=iq (F (i+cs.length)) c (dj F i s cs)
 |[],i,s,c=>rfl
 |d::cs,i,s,c=>by show dj F (i+1) _ (cs++[c])=_;rw[uE F cs (i+1),y3,show i+1+cs.length=i+(cs.length+1) by omega];rfl
def lJ(h T i:Nat):List Cs:=sx h T++(bE h T).take i
theorem Bm{h T i:Nat}{p:Cs}(hp:(bE h T)[i]?=some p):lJ h T (i+1)=lJ h T i++[p]:=by unfold lJ;rw[take_one hp,w9]
theorem Fo(h T:Nat):lJ h T (bE h T).length=lJ h (T+1) 0:=by unfold lJ;rw[y4,take_zero,A4,BB]
theorem Fn{h T i:Nat}{p q:Cs}(hp:(bE h T)[i]?=some p)(hq:q.length=h)(ha:Ah q p):q∈lJ h T i:=by
 have Oh:=bU.mp (k9 hp);unfold lJ;rw[B5];by_cases hs:q.sum < T
 ·exact .inl (dw.mpr ⟨hq,hs⟩)
 ·have Yw:q.sum=T:=by rcases ha with z|z <;> omega
  obtain⟨j,hj⟩:=getElem?_of_mem (bU.mpr ⟨hq,Yw⟩:q∈bE h T);have hl:vo q p:=by
   rcases ha with z|z
   ·omega
   ·exact z.2
  refine .inr ?_;by_cases YJ:j < i
  ·exact k9 (i:=j) (by rw[getElem?_take_of_lt YJ];exact hj)
  ·exfalso;obtain⟨h1,e1⟩:=g9.mp hp;obtain⟨h2,e2⟩:=g9.mp hj;by_cases he:j=i
   ·subst he;rw[hp]at hj;cases hj;exact ij _ hl
   ·have:=pairwise_iff_getElem.mp (jC h T) i j h1 h2 (by omega);rw[e1,e2]at this;exact ij _ (kL this hl)
theorem EM:∀{p:Cs} {i c:Nat},p[i]?=some c->p.take i++[c+1]++p.drop (i+1)=inc p i
 |a::p,0,c,h=>by cases h;rfl
 |a::p,i+1,c,h=>by have:=EM (p:=p) (i:=i) (c:=c) (by simpa using h);show a::(p.take i++[c+1]++p.drop (i+1))=a::inc p i;rw[this]
def kS{α:Type}(enc:α->D)(e:Cs×α):D:=.tup [fV e.1,enc e.2]
theorem Ext.zC {M1 M':Mem}{C:CM}(h:∀b d,C b=some d->M1 b=some (.fm (.zC d)))(e:Ext (gT M1 C) M'):Ext M1 (iI M' C):=λ b o eo=>by
 rcases dB C b with z|⟨d,z⟩
 ·rw[jW z];exact e b o (by rw[mw z];exact eo)
 ·rw[mH z,<- h b d z];exact eo
theorem Eu{M M1:Mem}{f:Addr}{L:lB}{fv:List Str}{cs:List D}{C:CM}(h:BE M f L fv cs C)(e:Ext M M1):BE M1 f L fv cs C:=by obtain⟨cl,h1,h2⟩:=h.ex;exact⟨⟨cl,e _ _ h1,h2⟩,h.len,λ b d z=>e _ _ (h.zC b d z)⟩
structure vk{α:Type}(F:Nat->α->α)(s0:α)(h:Nat)(most:Nat)(told:List (Cs×α)):Prop where
 iF:O4 F s0 h told
 VN:most<=told.length\/∀q,iK F s0 h q->q∈told.map (·.1)
end KK
namespace L2
open PySem PySem.Spec PyProof.Rows
theorem je{cells:List (Str×Addr)}:∀(names:List (Str×NameKind)) (acc:List (Str×Addr)) (x:Str) (c:Addr),(bt cells names acc).lookup x=some c->(x,NameKind.free)∈names\/acc.lookup x=some c
 |[],acc,x,c,e=>.inr e
 |(n,k)::r,acc,x,c,e=>by
  unfold bt at e;by_cases z:(k==NameKind.free)=true
  ·rw[J6 z]at e;have z:k=.free:=by simpa using z
   subst z;rcases je r _ x c e with h|h
   ·exact .inl (k8 _ h)
   ·by_cases y:x=n
    ·subst y;exact .inl (n6 ..)
    ·rw[x9]at h;have:(x==n)=false:=by simpa using y
     rw[this]at h;exact .inr h
  ·rw[J7 z]at e;rcases je r _ x c e with h|h
   ·exact .inl (k8 _ h)
   ·exact .inr h
end L2
namespace L3
open PySem L2
theorem Jv{M:Mem}{lf:Addr}{L:lB}{ps fv:List Str}{cs:List D}{cells:List (Str×Addr)}{cn:List (Str×Nat)}{δ:cS}{C:CM} (h:jK ps fv L.scope=true) (qq:fv=cn.map (·.1)) (hl:cs.length=cn.length) (Fg:∀(i:Nat) (x:Str) (j:Nat) (d:D),cn[i]?=some (x,j)->cs[i]?=some d->δ[j]?=some (some d)) (hC:Kv cells cn δ C) (hM:M lf=some (.fm (.lam L (bt cells L.scope.names [])))) (hn:∀b d,C b=some d->M b=none):BE (iI M C) lf L fv cs C:=by
 unfold jK at h;simp only[y7,A2]at h;obtain⟨⟨_,h5⟩,h6⟩:=h;have fr:∀x,(x,NameKind.free)∈L.scope.names->x∈fv:=λ x hx=>by simpa using(h6 _ hx).2
 have S_:∀x∈fv,∃j,(x,j)∈cn:=λ x hx=>by rw[qq]at hx;obtain⟨p,hp,rfl⟩:=D6.mp hx;exact⟨p.2,hp⟩
 have hc:∀n,(n,NameKind.free)∈L.scope.names->∃c,cells.lookup n=some c:=λ n hx=>by obtain⟨j,hj⟩:=S_ n (fr n hx);obtain⟨b,_,e,_⟩:=hC.has n j hj;exact⟨b,e⟩
 have look:=fW (cells:=cells) L.scope.names [] hc λ x c e=>by simp at e
 have free:=λ x c e=>(je (cells:=cells) L.scope.names [] x c e).elim (fr x) λ z=>by simp at z
 have Te:C lf=none:=by
  rcases dB C lf with z|⟨d,z⟩
  ·exact z
  ·rw[hn lf d z]at hM;cases hM
 refine⟨⟨bt cells L.scope.names [],by rw[jW Te];exact hM,λ x y b e1 e2=>?_,λ x b e=>⟨free x b e,?_⟩,λ i x d ex ed=>?_⟩,by rw[hl,qq,B4],λ b d e=>mH e⟩
 ·obtain⟨j,hj⟩:=S_ x (free x b e1);obtain⟨i,hi⟩:=S_ y (free y b e2);exact hC.inj x j y i b hj hi (look x b e1) (look y b e2)
 ·obtain⟨j,hj⟩:=S_ x (free x b e);obtain⟨b',d,e1,_,e3⟩:=hC.has x j hj;rw[look x b e]at e1;cases e1;exact⟨d,e3⟩
 ·rw[qq,s9]at ex;obtain⟨p,hp,rfl⟩:=Option.map_eq_some_iff.mp ex;have hx:p.1∈fv:=by rw[qq];exact D6.mpr ⟨p,k9 hp,rfl⟩
  have hm:(p.1,NameKind.free)∈L.scope.names:=by have:=h5 _ hx;exact l9 (by simpa using this)
  obtain⟨b,hb⟩:=Option.isSome_iff_exists.mp (iC (cells:=cells) L.scope.names [] hm);obtain⟨b',d',e1,e2,e3⟩:=hC.has p.1 p.2 (k9 hp);rw[look _ b hb]at e1;cases e1;rw[Fg i p.1 p.2 d hp ed]at e2;cases e2;exact⟨b,hb,e3⟩
theorem Ext.PK {M M':Mem}{C:CM}(e:∀b o,iI M C b=some o->M' b=some o)(n:∀b d,C b=some d->M b=none):∀b o,M b=some o->gT M' C b=some o:=FH e n
theorem OJ{M':Mem}{C:CM}{b:Addr}{o:MO}(h:M' b=some o)(n:C b=none):gT M' C b=some o:=by rw[mw n];exact h
end L3
namespace KK
open PySem L3 L4 L5
theorem vk.len {m h:Nat}{rows:List Row}{told:List (Cs×Nat)}(G:dC m h rows)(f:vk (a_ rows) 0 h m told):told.length=m:=by
 have iX:∀e∈told,e.2 < m:=λ e he=>by have:=f.iF.ent e he;rw[<- this.2];exact G.gq.dj e.1 0 0 (by rw[this.1.1];omega) G.tb.pos
 have h1:=List.Nodup.length_le_of_subset f.iF.nd (l₂:=List.range m) λ x hx=>by obtain⟨e,he,rfl⟩:=D6.mp hx;exact mem_range.mpr (iX e he)
 rw[B4,x3]at h1;rcases f.VN with h2|h2
 ·omega
 ·obtain⟨g,hg⟩:=G.fst;have h3:=List.Nodup.length_le_of_subset (nodup_range (n:=m)) (l₂:=told.map (·.2)) λ x hx=>by have hx:=mem_range.mp hx;obtain⟨e,he,ee⟩:=D6.mp (h2 _ (hg x hx).1);have:=(f.iF.ent e he).2;rw[ee,(hg x hx).2]at this;exact D6.mpr ⟨e,he,this.symm⟩
  rw[B4,x3]at h3;omega
def xS:gs:=λ ds M Q=>∃ns:List Int,ds=[.fl (ns.map D.int)]/\∀f c M',Flow M' f c->Ext M M'->Q (.ref f) M'
theorem rC{M M':Mem}{f c b:Addr}{x:XM}(F:Fl f c M M')(h:M b=some (.fm x))(hf:Flow M f c):M' b=some (.fm x):=by refine F.mv b _ (λ z=>?_) h;subst z;obtain⟨ns,p,bb,sd,ct,h1,_⟩:=hf;rw[h]at h1;cases h1
end KK
namespace L2
open PySem
abbrev zJ(l:List Nat):Prop:=l.Pairwise (· < ·)
theorem kB{l:List Nat}(h:zJ l){i j:Nat}{x y:Nat}(hi:l[i]?=some x)(hj:l[j]?=some y)(lt:i < j):x < y:=by obtain⟨a,ha⟩:=g9.mp hi;obtain⟨b,hb⟩:=g9.mp hj;have:=pairwise_iff_getElem.mp h i j a b lt;rw[ha,hb]at this;exact this
theorem oy{xs:Array Nat}{j:Nat}(h:zJ xs.toList):∀(fuel lo hi:Nat),lo<=hi->hi<=xs.size->hi - lo<=fuel->(∀(i:Nat) (v:Nat),i < lo->xs.toList[i]?=some v->v < j)->(∀(i:Nat) (v:Nat),hi<=i->xs.toList[i]?=some v->j<=v)->
  SetTable.below.go xs j fuel lo hi<=xs.size/\(∀(i:Nat) (v:Nat),i < SetTable.below.go xs j fuel lo hi->xs.toList[i]?=some v->v < j)/\(∀(i:Nat) (v:Nat),SetTable.below.go xs j fuel lo hi<=i->xs.toList[i]?=some v->j<=v)
 |0,lo,hi,h1,h2,h3,h4,h5=>by
  have:lo=hi:=by omega
  subst this;exact⟨h2,h4,h5⟩
 |fuel+1,lo,hi,h1,h2,h3,h4,h5=>by
  unfold SetTable.below.go;by_cases hl:lo < hi
  ·rw[J6 hl];have hm:(lo+hi) / 2 < xs.size:=by omega
   have hg:xs.getD ((lo+hi) / 2) j=xs[(lo+hi) / 2]:=by simp[Array.getD,hm]
   have hv:xs.toList[(lo+hi) / 2]?=some xs[(lo+hi) / 2]:=by rw[k4,g0 hm]
   dsimp only;rw[hg];by_cases hc:xs[(lo+hi) / 2] < j
   ·rw[J6 hc];refine oy h fuel _ hi (by omega) h2 (by omega) (λ i v Bk e=>?_) h5;by_cases z:i=(lo+hi) / 2
    ·subst z;rw[hv]at e;cases e;exact hc
    ·exact Nat.lt_trans (kB h e hv (by omega)) hc
   ·rw[J7 hc];refine oy h fuel lo _ (by omega) (by omega) (by omega) h4 (λ i v Bk e=>?_);by_cases z:i=(lo+hi) / 2
    ·subst z;rw[hv]at e;cases e;omega
    ·have:=kB h hv e (by omega);omega
  ·rw[J7 hl];have:lo=hi:=by omega
   subst this;exact⟨h2,h4,h5⟩
theorem gW{xs:Array Nat}(h:zJ xs.toList)(j:Nat):SetTable.below xs j<=xs.size/\(∀(i:Nat) (v:Nat),i < SetTable.below xs j->xs.toList[i]?=some v->v < j)/\(∀(i:Nat) (v:Nat),SetTable.below xs j<=i->xs.toList[i]?=some v->j<=v):=
 oy h xs.size 0 xs.size (G7 _) (G5 _) (by omega) (λ i v h=>absurd h (by omega)) λ i v h e=>by rw[k7 (by rw[m7];exact h)]at e;cases e
theorem below_at{xs:Array Nat}(h:zJ xs.toList){i j:Nat}(e:xs.toList[i]?=some j):SetTable.below xs j=i:=by
 obtain⟨_,h1,h2⟩:=gW h j;refine B7 (y0 λ z=>?_) (y0 λ z=>?_)
 ·exact C8 _ (h1 i j z e)
 ·have hl:=(g9.mp e).1;have e2:=i5 (l:=xs.toList) (i:=SetTable.below xs j) (by omega);have a:=h2 _ _ (G5 _) e2;have b:=kB h e2 e z;omega
theorem xt{xs:Array Nat}(h:zJ xs.toList){i j:Nat}(e:xs.toList[i]?=some j):SetTable.below xs (j+1)=i+1:=by
 obtain⟨h0,h1,h2⟩:=gW h (j+1);have hl:=(g9.mp e).1;refine B7 (y0 λ z=>?_) (y0 λ z=>?_)
 ·have hs:i+1 < xs.toList.length:=by rw[m7];omega
  have e2:=i5 hs;have a:=h1 (i+1) _ z e2;have b:=kB h e e2 (by omega);omega
 ·have:=h2 i j (by omega) e;omega
theorem xr{xs:Array Nat}(h:zJ xs.toList):SetTable.below xs 0=0:=by
 obtain⟨h0,h1,h2⟩:=gW h 0;refine Decidable.byContradiction λ z=>?_;have hs:0 < xs.toList.length:=by rw[m7];omega
 exact absurd (h1 0 _ (by omega) (i5 hs)) (by omega)
theorem pX{t:SetTable}(h:zJ t.place.toList){i j:Nat}(e:t.place.toList[i]?=some j):t.slot j=.live i:=by unfold SetTable.slot;dsimp only;rw[below_at h e,<- k4,e];simp
theorem vQ{t:SetTable}(hd:t.dummies=#[])(h:zJ t.place.toList){j:Nat}(n:j∉t.place.toList):t.slot j=.empty:=by
 unfold SetTable.slot;dsimp only;have:(t.place[SetTable.below t.place j]?==some j)=false:=by rw[beq_eq_false_iff_ne];intro e;rw[<- k4]at e;exact n (k9 e)
 rw[this,hd];simp[SetTable.has,SetTable.below]
theorem Hs{xs:Array Nat}(h:zJ xs.toList){j:Nat}(n:j∉xs.toList):zJ (SetTable.insertAt xs (SetTable.below xs j) j).toList:=by
 rw[SetTable.toList_insertAt];obtain⟨h0,h1,h2⟩:=gW h j;generalize SetTable.below xs j=b at*;have hp:zJ (xs.toList.take b++xs.toList.drop b):=by rw[take_append_drop];exact h
 unfold zJ at hp ⊢;rw[pairwise_append]at hp ⊢;refine⟨hp.1,pairwise_cons.mpr ⟨λ y hy=>?_,hp.2.1⟩,λ x hx y hy=>?_⟩
 ·obtain⟨i,hi⟩:=getElem?_of_mem hy;rw[getElem?_drop]at hi;have:=h2 (b+i) y (by omega) hi;by_cases z:j=y
  ·subst z;exact absurd (k9 hi) n
  ·omega
 ·obtain⟨i,hi⟩:=getElem?_of_mem hx;have WR:i < b:=by have:=(g9.mp hi).1;rw[y8]at this;omega
  rw[getElem?_take_of_lt WR]at hi;have Yj:=h1 i x WR hi;rcases D1.mp hy with rfl|hy
  ·exact Yj
  ·exact hp.2.2 x hx y hy
theorem yu{xs:Array Nat}{j k p:Nat}:k∈(SetTable.insertAt xs p j).toList↔k=j\/k∈xs.toList:=by have:=(SetTable.insertAt_perm xs p j).mem_iff (a:=k);rw[this,Array.toList_push,B5,p7];exact⟨λ h=>h.symm,λ h=>h.symm⟩
def nv(mask i:Nat):List Nat:=(List.range (SetTable.runEnd mask i+1 - i)).map (i+·)
def gV(mask:Nat):Nat->Nat×Nat->List Nat
 |0,_=>[]
 |B+1,(i,pt)=>nv mask i++gV mask B (SetTable.leap mask i pt)
def gE(mask B:Nat)(p:SetTable.Probe):List Nat:=(List.range (p.more+1)).map (p.j+·)++gV mask B (SetTable.leap mask p.i p.perturb)
theorem kx(mask i:Nat):i<=SetTable.runEnd mask i/\SetTable.runEnd mask i<=i+9:=by unfold SetTable.runEnd;split <;> omega
theorem CQ(mask i:Nat):1<=(nv mask i).length/\(nv mask i).length<=10:=by unfold nv;rw[B4,x3];have:=kx mask i;omega
theorem ox(mask:Nat):∀(B:Nat) (q:Nat×Nat),(gV mask B q).length<=10*B
 |0,_=>G5 _
 |B+1,(i,pt)=>by show(nv mask i++gV mask B (SetTable.leap mask i pt)).length<=_;rw[o6];have:=(CQ mask i).2;have:=ox mask B (SetTable.leap mask i pt);omega
theorem ny{mask B i pt:Nat}{d:Option Nat}:gE mask B {j:=i,more:=SetTable.runEnd mask i - i,i:=i,perturb:=pt,dummy:=d}=gV mask (B+1) (i,pt):=by unfold gE;show _=nv mask i++gV mask B (SetTable.leap mask i pt);unfold nv;have:=kx mask i;rw[show SetTable.runEnd mask i - i+1=SetTable.runEnd mask i+1 - i by omega]
theorem Av{t:SetTable}{B:Nat}{p:SetTable.Probe}(h:0 < p.more):gE t.mask B p=p.j::gE t.mask B (t.advance p)/\(t.advance p).dummy=p.dummy:=by
 unfold SetTable.advance;rw[J6 h];refine⟨?_,rfl⟩;unfold gE;dsimp only;rw[range_succ_eq_map,C9,D7,A1,Nat.add_zero,show p.more - 1+1=p.more by omega];have e:((p.j+·)∘Nat.succ)=(p.j+1+·):=funext λ x=>by show p.j+(x+1)=p.j+1+x;omega
 rw[e]
theorem Aw{t:SetTable}{B:Nat}{p:SetTable.Probe}(h:p.more=0):gE t.mask (B+1) p=p.j::gE t.mask B (t.advance p)/\(t.advance p).dummy=p.dummy:=by
 have hn:¬p.more > 0:=by omega
 unfold SetTable.advance;rw[J7 hn];refine⟨?_,rfl⟩;have e1:gE t.mask (B+1) p=(List.range (p.more+1)).map (p.j+·)++gV t.mask (B+1) (SetTable.leap t.mask p.i p.perturb):=rfl;rw[e1,h];show _::gV t.mask (B+1) ((SetTable.leap t.mask p.i p.perturb).1,(SetTable.leap t.mask p.i p.perturb).2)=_;rw[<- ny (d:=p.dummy)];rfl
theorem CY{mask:Nat}{p:SetTable.Probe}(h:p.more=0):gE mask 0 p=[p.j]:=by unfold gE;rw[h];rfl
theorem Fm{t:SetTable}(hd:t.dummies=#[])(hr:zJ t.place.toList){hashAt:Nat->Int}{h:Int}:∀(fuel B:Nat) (p:SetTable.Probe),(gE t.mask B p).length<=fuel->p.dummy=none->(∃e∈gE t.mask B p,e∉t.place.toList)->
  ∃pre j post,gE t.mask B p=pre++j::post/\(∀k∈pre,∃i,t.place.toList[i]?=some k/\hashAt i≠h)/\
   ((j∉t.place.toList/\SetTable.probe.go t hashAt h fuel p=some (.empty j none))\/
    (∃i B' next,t.place.toList[i]?=some j/\hashAt i=h/\SetTable.probe.go t hashAt h fuel p=some (.candidate j i next)/\next.dummy=none/\(post≠[]->gE t.mask B' next=post)))
 |0,B,p,hl,_,⟨e,he,_⟩=>by rw[j0.mp (Nat.le_zero.mp hl)]at he;cases he
 |fuel+1,B,p,hl,hp,⟨e,he,eZ⟩=>by
  have st:∃rest,gE t.mask B p=p.j::rest/\(t.advance p).dummy=none/\(rest≠[]->∃B',gE t.mask B' (t.advance p)=rest):=by
   by_cases hm:0 < p.more
   ·obtain⟨e1,e2⟩:=Av (t:=t) (B:=B) hm;exact⟨_,e1,e2.trans hp,λ _=>⟨B,rfl⟩⟩
   ·have hm:p.more=0:=by omega
    cases B with
    |zero=>
     have:(t.advance p).dummy=p.dummy:=by unfold SetTable.advance;rw[J7 (by omega)]
     exact⟨[],CY hm,this.trans hp,λ z=>absurd rfl z⟩
    |succ B=>obtain⟨e1,e2⟩:=Aw (t:=t) (B:=B) hm;exact⟨_,e1,e2.trans hp,λ _=>⟨B,rfl⟩⟩
  obtain⟨rest,e1,e2,e3⟩:=st;rw[e1]at hl he ⊢;unfold SetTable.probe.go;by_cases hj:p.j∈t.place.toList
  ·obtain⟨i,hi⟩:=getElem?_of_mem hj;rw[pX hr hi];dsimp only;by_cases hh:hashAt i=h
   ·rw[J6 (by simpa using hh)];by_cases K6:rest=[]
    ·exact⟨[],p.j,rest,rfl,λ k hk=>(by cases hk),.inr ⟨i,0,_,hi,hh,rfl,e2,λ z=>absurd K6 z⟩⟩
    ·obtain⟨B',RQ⟩:=e3 K6;exact⟨[],p.j,rest,rfl,λ k hk=>(by cases hk),.inr ⟨i,B',_,hi,hh,rfl,e2,λ _=>RQ⟩⟩
   ·rw[J7 (by simpa using hh)];have Ti:e∈rest:=by
     rcases D1.mp he with z|z
     ·subst z;exact absurd hj eZ
     ·exact z
    obtain⟨B',RQ⟩:=e3 (ne_nil_of_mem Ti);obtain⟨pre,j,post,f1,f2,f3⟩:=Fm hd hr fuel B' (t.advance p) (by rw[RQ];simpa using hl) e2 ⟨e,by rw[RQ];exact Ti,eZ⟩;rw[RQ]at f1;refine⟨p.j::pre,j,post,by rw[f1];rfl,λ k hk=>?_,f3⟩;rcases D1.mp hk with rfl|z
    ·exact⟨i,hi,hh⟩
    ·exact f2 k z
  ·rw[vQ hd hr hj];dsimp only;rw[hp];exact⟨[],p.j,rest,rfl,λ k hk=>(by cases hk),.inl ⟨hj,rfl⟩⟩
end L2
namespace L2
open PySem
def Tt(m i:Nat):Nat:=(i*5+1) % m
def wG(m:Nat):Nat->Nat->Nat
 |0,i=>i
 |k+1,i=>wG m k (Tt m i)
theorem mi(m:Nat):∀(a b i:Nat),wG m (a+b) i=wG m b (wG m a i)
 |0,b,i=>by rw[E4];rfl
 |a+1,b,i=>by rw[Nat.add_right_comm];show wG m (a+b) (Tt m i)=wG m b (wG m a (Tt m i));exact mi m a b _
def UA(m:Nat):Nat->Nat->List Nat
 |0,_=>[]
 |k+1,i=>i::UA m k (Tt m i)
theorem yp(m:Nat):∀(n i j:Nat),j∈UA m n i->∃k,k < n/\wG m k i=j
 |0,i,j,h=>by cases h
 |n+1,i,j,h=>by
  rcases D1.mp h with rfl|h
  ·exact⟨0,Nat.succ_pos _,rfl⟩
  ·obtain⟨k,hk,e⟩:=yp m n _ j h;exact⟨k+1,Nat.succ_lt_succ hk,e⟩
abbrev Kt(m:Nat):Prop:=m=7\/m=31\/m=127
theorem yq{m:Nat}(h:Kt m):((List.range (m+1)).all λ j=>(UA (m+1) (m+1) 0).contains j)=true/\wG (m+1) (m+1) 0=0:=by
 rcases h with rfl|rfl|rfl
 ·exact⟨by decide+kernel,by decide+kernel⟩
 ·exact⟨by decide+kernel,by decide+kernel⟩
 ·exact⟨by decide+kernel,by decide+kernel⟩
theorem uq{m j:Nat}(h:Kt m)(hj:j<=m):∃k,k < m+1/\wG (m+1) k 0=j:=by have:=A2.mp (yq h).1 j (mem_range.mpr (by omega));exact yp _ _ _ _ (by simpa using this)
theorem JD{m i j:Nat}(h:Kt m)(hi:i<=m)(hj:j<=m):∃k,k < m+1/\wG (m+1) k i=j:=by
 obtain⟨a,ha,ea⟩:=uq h hi;obtain⟨b,hb,eb⟩:=uq h hj;by_cases z:a<=b
 ·refine⟨b - a,by omega,?_⟩;rw[<- ea,<- mi,show a+(b - a)=b by omega];exact eb
 ·refine⟨m+1 - a+b,by omega,?_⟩;rw[mi,<- ea,<- mi _ a (m+1 - a),show a+(m+1 - a)=m+1 by omega,(yq h).2];exact eb
def lp(mask:Nat):Nat->Nat×Nat->Nat×Nat
 |0,q=>q
 |k+1,q=>lp mask k (SetTable.leap mask q.1 q.2)
theorem Eo(m:Nat):∀(a b:Nat) (q:Nat×Nat),lp m (a+b) q=lp m b (lp m a q)
 |0,b,i=>by rw[E4];rfl
 |a+1,b,i=>by rw[Nat.add_right_comm];exact Eo m a b _
theorem KZ{m:Nat}:∀(k:Nat) (q:Nat×Nat),q.1<=m->(lp m k q).1<=m
 |0,_,h=>h
 |k+1,q,_=>KZ k _ (Nat.le_of_lt_succ (Nat.mod_lt _ (Nat.succ_pos _)))
theorem El{m:Nat}:∀(k:Nat) (q:Nat×Nat),(lp m k q).2=q.2 / 32^k
 |0,q=>by rw[Nat.pow_zero,Nat.div_one];rfl
 |k+1,q=>by show(lp m k (SetTable.leap m q.1 q.2)).2=_;rw[El k,Nat.pow_succ,Nat.mul_comm,<- Nat.div_div_eq_div_mul];rfl
theorem Em{m:Nat}:∀(k i:Nat),lp m k (i,0)=(wG (m+1) k i,0)
 |0,_=>rfl
 |k+1,i=>by show lp m k ((i*5+1+0 / 32) % (m+1),0 / 32)=_;exact Em k _
theorem CP{m i:Nat}:i∈nv m i:=by unfold nv;have:=kx m i;exact D6.mpr ⟨0,mem_range.mpr (by omega),rfl⟩
theorem zF{m:Nat}:∀(B k:Nat) (q:Nat×Nat),k < B->(lp m k q).1∈gV m B q
 |0,k,q,h=>by omega
 |B+1,0,(i,pt),_=>l0 _ CP
 |B+1,k+1,(i,pt),h=>j8 _ (zF B k _ (by omega))
theorem vc{m i pt j:Nat}(h:Kt m)(hi:i<=m)(hp:pt < 2^64)(hj:j<=m):j∈gV m (m+15) (i,pt):=by
 have e:lp m 13 (i,pt)=((lp m 13 (i,pt)).1,0):=by refine Prod.ext rfl ?_;rw[El];exact Nat.div_eq_of_lt (p6 hp (by decide))
 obtain⟨k,hk,ek⟩:=JD h (KZ 13 (i,pt) hi) hj;have e2:(lp m (13+k) (i,pt)).1=j:=by rw[Eo,e,Em];exact ek
 rw[<- e2];exact zF _ _ _ (by omega)
theorem L7{m i j:Nat}(hi:i<=m)(h:j∈nv m i):j<=m:=by unfold nv at h;obtain⟨k,hk,rfl⟩:=D6.mp h;rw[mem_range]at hk;unfold SetTable.runEnd at hk;split at hk <;> omega
theorem mE{m j:Nat}:∀(B:Nat) (q:Nat×Nat),q.1<=m->j∈gV m B q->j<=m
 |0,_,_,h=>by cases h
 |B+1,(i,pt),hi,h=>by
  rcases B5.mp h with h|h
  ·exact L7 hi h
  ·exact mE B _ (Nat.le_of_lt_succ (Nat.mod_lt _ (Nat.succ_pos _))) h
theorem zG(h:Int):SetTable.bits h < 2^64:=by unfold SetTable.bits;have:=A8 h (b:=2^64) (by decide);have:=o8 h (b:=2^64) (by decide);omega
theorem Ak{l:List Nat}{m:Nat}(h:l.length<=m):∃j,j<=m/\j∉l:=by
 refine Decidable.byContradiction λ z=>?_;have hs:List.range (m+1)⊆l:=λ j hj=>by refine Decidable.byContradiction λ n=>z ⟨j,?_,n⟩;have:=mem_range.mp hj;omega
 have:=List.Nodup.length_le_of_subset nodup_range hs;rw[x3]at this;omega
structure Tab0(t:SetTable)(n:Nat):Prop where
 dm:t.dummies=#[]
 KI:zJ t.place.toList
 sz:t.place.size=n
 le:∀j∈t.place.toList,j<=t.mask
 pl:t.plain=true
 S7:Kt t.mask
theorem Iu{t:SetTable}{n j:Nat}(T:Tab0 t n)(hj:j<=t.mask)(nj:j∉t.place.toList):Tab0 (t.put j).1 (n+1)/\(t.put j).1.mask=t.mask/\(t.put j).1.led=t.led:=by
 have hd:SetTable.has t.dummies j=false:=by rw[T.dm];simp[SetTable.has,SetTable.below]
 unfold SetTable.put;dsimp only;rw[hd];refine⟨⟨T.dm,Hs T.KI nj,?_,λ k hk=>?_,T.pl,T.S7⟩,rfl,rfl⟩
 ·have:=(SetTable.insertAt_perm t.place (SetTable.below t.place j) j).length_eq;rw[m7,m7,Array.size_push,T.sz]at this;exact this
 ·rcases yu.mp hk with rfl|hk
  ·exact hj
  ·exact T.le k hk
theorem Tab0.fits {t:SetTable}{n:Nat}(T:Tab0 t n)(hn:n<=t.mask):t.fits n=true:=by unfold SetTable.fits SetTable.fill;rw[T.sz,T.dm];simp[hn]
def rB(mask:Nat)(owner:Array (Option Nat)):List Nat:=(List.range (mask+1)).filterMap λ j=>owner.getD j none
theorem nY{f g:Nat->Option Nat}:∀(l:List Nat),(∀j∈l,f j=g j)->l.filterMap f=l.filterMap g
 |[],_=>rfl
 |a::l,h=>by rw[n5,n5,h a n6,nY l λ j hj=>h j (k8 _ hj)]
theorem Fu{f:Nat->Option Nat}:∀(l:List Nat),(∀j∈l,f j≠none)->(l.filterMap f).length=l.length
 |[],_=>rfl
 |a::l,h=>by
  cases e:f a with
  |none=>exact absurd e (h a n6)
  |some b=>rw[filterMap_cons_some e,y3,y3,Fu l λ j hj=>h j (k8 _ hj)]
theorem DR{mask k:Nat}{owner:Array (Option Nat)}(hs:owner.size=mask+1)(hp:(rB mask owner).Perm (List.range k))(hk:k<=mask):∃j,j<=mask/\(owner.getD j (some 0)).isNone=true:=by
 refine Decidable.byContradiction λ z=>?_;have:=Fu (f:=λ j=>owner.getD j none) (List.range (mask+1)) λ j hj e=>by
  have lt:=mem_range.mp hj;refine z ⟨j,by omega,?_⟩;have h1:j < owner.size:=by omega
  simp only[Array.getD,h1,dite_true]at e ⊢;rw[e];rfl
 have h2:(rB mask owner).length=k:=by rw[hp.length_eq,x3]
 unfold rB at h2;rw[x3]at this;omega
theorem IQ{mask k j:Nat}{owner:Array (Option Nat)}(hs:owner.size=mask+1)(hp:(rB mask owner).Perm (List.range k))(hj:j<=mask)(hn:(owner.getD j (some 0)).isNone=true): (owner.setIfInBounds j (some k)).size=mask+1/\(rB mask (owner.setIfInBounds j (some k))).Perm (List.range (k+1)):=by
 refine⟨by rw[Array.size_setIfInBounds];exact hs,?_⟩;have h1:j < owner.size:=by omega
 have Yz:owner.getD j none=none:=by simp only[Array.getD,h1,dite_true]at hn ⊢;exact Option.isNone_iff_eq_none.mp hn
 obtain⟨l1,l2,e⟩:=append_of_mem (mem_range.mpr (show j < mask+1 by omega));have nd:(l1++j::l2).Nodup:=by rw[<- e];exact nodup_range
 have n1:j∉l1:=λ z=>by have:=(nodup_append.mp nd).2.2 j z j n6;exact this rfl
 have n2:j∉l2:=(nodup_cons.mp (nodup_append.mp nd).2.1).1;have fm:∀i,i≠j->(owner.setIfInBounds j (some k)).getD i none=owner.getD i none:=λ i hi=>by
  simp only[Array.getD,Array.size_setIfInBounds];by_cases h2:i < owner.size
  ·simp only[h2,dite_true];have:(owner.setIfInBounds j (some k))[i]?=owner[i]?:=by rw[Array.getElem?_setIfInBounds,J7 (J5 hi)]
   rw[g0 h2,g0 (by rw[Array.size_setIfInBounds];exact h2)]at this;exact A9 this
  ·simp only[h2,dite_false]
 have at':(owner.setIfInBounds j (some k)).getD j none=some k:=by
  simp only[Array.getD,Array.size_setIfInBounds,h1,dite_true];have:(owner.setIfInBounds j (some k))[j]?=some (some k):=by rw[Array.getElem?_setIfInBounds,J6 rfl,J6 h1]
  rw[g0 (by rw[Array.size_setIfInBounds];exact h1)]at this;exact A9 this
 unfold rB at hp ⊢;rw[e,filterMap_append,filterMap_cons_none (f:=λ j=>owner.getD j none) Yz]at hp;rw[e,filterMap_append,filterMap_cons_some (f:=λ i=>(owner.setIfInBounds j (some k)).getD i none) at',nY l1 λ i hi=>fm i λ z=>n1 (z▸hi),nY l2 λ i hi=>fm i λ z=>n2 (z▸hi),range_succ];exact perm_middle.trans ((hp.cons k).trans (perm_append_singleton k (List.range k)).symm)
theorem nN(f:Nat->Option Nat):∀l:List Nat,((l.filterMap λ j=>(f j).map (j,·)).map (·.1)).Sublist l
 |[]=>.slnil
 |a::l=>by
  cases e:f a with
  |none=>rw[filterMap_cons_none (by rw[e];rfl)];exact(nN f l).cons a
  |some b=>rw[filterMap_cons_some (b:=(a,b)) (by rw[e];rfl),C9];exact(nN f l).cons₂ a
theorem nM(f:Nat->Option Nat):∀l:List Nat,(l.filterMap λ j=>(f j).map (j,·)).map (·.2)=l.filterMap f
 |[]=>rfl
 |a::l=>by
  cases e:f a with
  |none=>rw[filterMap_cons_none (by rw[e];rfl),filterMap_cons_none e];exact nM f l
  |some b=>rw[filterMap_cons_some (b:=(a,b)) (by rw[e];rfl),C9,filterMap_cons_some e,nM f l]
structure Tab(t:SetTable)(n:Nat):Prop extends Tab0 t n where
 Pu:(t.mask=7/\n<=4)\/(t.mask=31/\n<=18)\/(t.mask=127/\n<=76)
theorem Tab.fit {t:SetTable}{n:Nat}(T:Tab t n):t.fits n=true:=T.fits (by have:=T.Pu;omega)
theorem Ag(f m:Nat)(led:Bool):Tab (.fresh f m led) 0:=⟨⟨rfl,List.Pairwise.nil,rfl,λ j h=>(by cases h),rfl,.inl rfl⟩,.inl ⟨rfl,G7 _⟩⟩
theorem lg{t:SetTable}{n:Nat}(T:Tab0 t n):t.tooFull=decide (n*5 ≥ t.mask*3):=by unfold SetTable.tooFull SetTable.fill;rw[T.dm,T.sz];rfl
end L2
namespace L2
open PySem PySem.Spec PyProof.Rows
abbrev eQ(es:Array (Int×Value))(ep:Nat)(t:SetTable):Obj:={cls:=.type "set",dict:=none,data:=.set es ep t}
section
variable {prog:Program}{w:World}{A:Around}{E:Value->Shared->Prop}{s:Shared}
theorem tj{h:Heap}{a:Addr}{es es':Array (Int×Value)}{ep:Nat}{t t':SetTable}(ho:h.get? a=some (eQ es ep t)):(h.update a (Obj.putSet es' t')).get? a=some (eQ es' (ep+1) t'):=by have:=j7 (Obj.putSet es' t') ho (by rw[putSet_of es' t' rfl];rfl);rw[putSet_of es' t' rfl]at this;exact this
end
end L2
namespace L2
open PySem PySem.Spec PyProof.Rows
section
variable {prog:Program}{w:World}{A:Around}{E:Value->Shared->Prop}{s:Shared}
def vb(w:World):Bool:=w.params.followText "set-order"
abbrev fh(w:World):Obj:=eQ #[] 0 (.fresh 0 0 (!vb w))
theorem Jm(a:Value){Q:Value->Shared->Prop}(h:Q (.ref s.heap.objs.size) {s with heap:=s.heap.push (fh w)}):codeAny (model prog w) A (.call (.builtin "set.__new__") ⟨[.type "set",a],[]⟩) (wants Q E) s:=by
 refine codeAny_of_tree ?_;show wpAny _ A.in1 (checkBuiltinCall "set.__new__" ⟨[.type "set",a],[]⟩ >>= λ _=>again (.builtin "set.__new__" ⟨[.type "set",a],[]⟩)) _ _ s;refine G9 (wpAny_of_eq (F.newCall_set_1 a) (H9 ⟨plainId_quiet F.plain_set_new _,B2 F.entry_set_new ?_⟩));rw[l5 F.plain_set_new _];unfold Builtin.«set.__new__» Builtin.Frozenset.newClass;have o_:=sub_set_self;obtain⟨hp,g,d,tk,os⟩:=s;dsimp only
 wp_walk
 refine wpAny_askSetting (H9 ?_);dsimp only;simp only[newObj];refine G9 (wpAny_alloc (H9 ?_));exact H9 h
theorem xm{T newId wK:String}{Bi:Builtin}{args:List Value}{Q Q₁:Value->Shared->Prop}(ft:TypeCalled T newId wK)(hct:checkTypeCall T ⟨args,[]⟩=pure ())(OH:entryFor table wK=some Bi) (EY:codeAny (model prog w) A.in1 (.call (.builtin newId) ⟨.type T::args,[]⟩) (wants Q₁ E) s) (RE:∀obj s₁,Q₁ obj s₁->s₁.TypeIs obj T/\wpAny (model prog w) A.in1.in1 (checkBuiltinCall wK ⟨obj::args,[]⟩) (λ _ s₁=>wpAny (model prog w) A.in1.in1 (Bi ⟨obj::args,[]⟩)
    (λ fin s'=>match fin with| .done f=>wants (λ r s₂=>r=.none/\Q obj s₂) E (.ok f) s'| .again c'=>c'.quiet=true/\codeAny (model prog w) A.in1 c' (wants (λ r s₂=>r=.none/\Q obj s₂) E) s')
    (λ e s'=>wants (λ r s₂=>r=.none/\Q obj s₂) E (.error e) s') s₁) (λ e s'=>wants (λ r s₂=>r=.none/\Q obj s₂) E (.error e) s') s₁):
  wpAny (model prog w) A (call (.type T) args) Q E s:=by
 obtain⟨c,tl,YB⟩:=ft.mro;have WH:=ft.made;have o_:=ft.sub;refine wpAny_call (codeAny_of_tree ?_);show wpAny _ _ (callAny (.type T) _) _ _ _;refine H9 ⟨Code.quiet_builtin _ (by decide+kernel),B2 F.entry_type_call ?_⟩;rw[Around.under_plain (weight_type_call_type T args []) rfl];have h1:=ft.notType;have h2:=ft.canCreate
 repeat(any_goals (first|assumption|wp_step))
 refine E7 EY λ r s₁ hr=>?_;cases r with
 |error e=>exact hr
 |ok fl=>
  cases fl with
  |ret obj=>
   obtain⟨hT,bh⟩:=RE _ _ hr;have hli:=ft.init.lookup;have hbi:=ft.init.bind obj
   repeat(any_goals (first|assumption|wp_step))
   refine E7 (codeAny_call_builtin ft.init.plain OH bh) λ r₂ s₂ U6=>?_;cases r₂ with
   |error e=>exact U6
   |ok fl=>
    cases fl with
    |ret r=>
     obtain⟨rfl,hq⟩:=U6
     repeat(any_goals (first|assumption|wp_step))
    |_=>exact U6.elim
  |_=>exact hr.elim
end
end L2
namespace L2
open PySem PySem.Spec PySem.W PySem.Calls PyProof.Rows
theorem yl{α:Type}(next:Nat->Nat):∀(fuel k:Nat) (left:List α) (out:Array α),left.length=fuel->(pickOrder.go next fuel k left out).toList.Perm (out.toList++left)
 |0,k,left,out,h=>by rw[j0.mp h,A4];exact List.Perm.refl _
 |fuel+1,k,left,out,h=>by
  unfold pickOrder.go;have lt:next k % left.length < left.length:=Nat.mod_lt _ (by omega)
  rw[i5 lt];dsimp only;refine(yl next fuel (k+1) _ _ (by rw[length_eraseIdx_of_lt lt];omega)).trans ?_;rw[Array.toList_push,w9];refine List.Perm.append_left _ ?_;rw[singleton_append];have e:=take_append_drop (next k % left.length) left;rw[drop_eq_getElem_cons lt]at e;rw[eraseIdx_eq_take_drop_succ];generalize left[next k % left.length]=x at*
  conv=>rhs;rw[<- e]
  exact perm_middle.symm
theorem AF{α:Type}(next:Nat->Nat)(xs:Array α):(pickOrder next xs).toList.Perm xs.toList:=yl next xs.size 0 xs.toList #[] (m7)
def gb(w:World)(a:Addr)(ep:Nat)(es:Array (Int×Value)):Array (Int×Value):=if vb w then pickOrder (w.params.setOrder a ep) es else es
theorem mN(w:World)(a:Addr)(ep:Nat)(es:Array (Int×Value)):(gb w a ep es).toList.Perm es.toList:=by
 unfold gb;split
 ·exact AF _ _
 ·exact List.Perm.refl _
theorem mM(w:World)(a:Addr)(ep:Nat)(es:Array (Int×Value)):(gb w a ep es).size=es.size:=by
 have:=(mN w a ep es).length_eq
 rwa [m7,m7]at this
theorem ng:entryFor table "set.__iter__"=some Builtin.«frozenset.__iter__»:=entryFor_alias (id':="frozenset.__iter__") (by kernel_rfl) rfl (by decide+kernel) (by kernel_rfl)
theorem cK:Slot "set_iterator" "__next__" "set_iterator.__next__":=
 .of (owner:="set_iterator") (n:="__next__") (by rw[typeLookup_type,builtinLookup_eq_fast];kernel_rfl) (by decide+kernel) (by decide+kernel) (by decide+kernel)
  (by first|exact .inl (by decide+kernel)|exact .inr (by decide+kernel)) (by rw[isSubtype_type];kernel_rfl)
theorem ju:Slot "set_iterator" "__iter__" "set_iterator.__iter__":=
 .of (owner:="set_iterator") (n:="__iter__") (by rw[typeLookup_type,builtinLookup_eq_fast];kernel_rfl) (by decide+kernel) (by decide+kernel) (by decide+kernel)
  (by first|exact .inl (by decide+kernel)|exact .inr (by decide+kernel)) (by rw[isSubtype_type];kernel_rfl)
theorem iN:entryFor table "set_iterator.__next__"=some Builtin.«set_iterator.__next__»:=entryFor_of_tree (by kernel_rfl)
theorem oT:entryFor table "set_iterator.__iter__"=some Builtin.«dict_keyiterator.__iter__»:=entryFor_alias (id':="dict_keyiterator.__iter__") (by kernel_rfl) rfl (by decide+kernel) (by kernel_rfl)
theorem tE:Manifest.owners.lookup (String.ofList ['r','o','t','a','r','e','t','i','_','t','e','s'].reverse)=some Manifest.sig_set_iterator:=by kernel_rfl
theorem jv(a:Value):argsOk "set_iterator.__next__" ⟨[a],[]⟩:=by unfold argsOk;rw[signature?_of (id:="set_iterator.__next__") (n:=['_','_','t','x','e','n','_','_']) (o:=['r','o','t','a','r','e','t','i','_','t','e','s']) (by kernel_rfl) tE];kernel_rfl
theorem qW(a:Value):argsOk "set_iterator.__iter__" ⟨[a],[]⟩:=by unfold argsOk;rw[signature?_of (id:="set_iterator.__iter__") (n:=['_','_','r','e','t','i','_','_']) (o:=['r','o','t','a','r','e','t','i','_','t','e','s']) (by kernel_rfl) tE];kernel_rfl
abbrev Wc(sl i:Nat)(a:Addr)(n ep:Nat):Obj:={cls:=.type "set_iterator",data:=.fields #[.int sl 0,.int i 0,.ref a,.int n 0,.int ep 0]}
section
variable {prog:Program}{w:World}{A:Around}{E:Value->Shared->Prop}{s:Shared}{a I:Addr}{es:Array (Int×Value)}{ep:Nat}{t:SetTable}
theorem tH{sl i:Nat}{Q:Option (Value×Nat)->Shared->Prop}(ho:s.heap.get? a=some (eQ es ep t))(T:Tab t es.size)(hl:t.led=!vb w)(hs:vb w=false->SetTable.below t.place sl=i) (h:∀Hk:Nat,(vb w=false->i < es.size->SetTable.below t.place Hk=i+1)->Q ((gb w a ep es)[i]?.map λ e=>(e.2,Hk)) s):wpAny (model prog w) A (setNext a sl i ep) Q E s:=by
 unfold setNext;refine G9 (wpAny_setState_of ho rfl T.fit ?_);dsimp only;unfold setsByText;refine G9 (G9 (wpAny_askSetting (H9 ?_)));show wpAny _ _ (if vb w=true then _ else _) _ _ s;cases hb:vb w with
 |true=>
  rw[J6 rfl,J7 (by simp)];refine G9 ?_;unfold setWalk;refine G9 (wpAny_setState_of ho rfl T.fit ?_);dsimp only;unfold setsByText;refine G9 (G9 (wpAny_askSetting (H9 ?_)));show wpAny _ _ (if vb w=true then _ else _) _ _ s;rw[hb,J6 rfl];refine G9 (wpAny_askSetting (H9 (H9 ?_)));have:=h sl λ z=>by rw[hb]at z;cases z
  unfold gb at this;rw[hb,J6 rfl]at this;exact this
 |false=>
  rw[J7 (by decide)];refine wpAny_ite_split (λ z=>absurd z ?_) λ _=>?_
  ·show ¬((!t.plain&&decide (es.size > 1))=true);rw[T.pl];simp
  refine G9 ?_;show wpAny _ _ (if(!t.led&&!es.isEmpty)=true then _ else _) _ _ s;rw[hl,hb,J7 (by simp)];refine H9 ?_;rw[hs hb];have e2:gb w a ep es=es:=by unfold gb;rw[hb];rfl
  rw[e2]at h;by_cases lt:i < es.size
  ·have BJ:i < t.place.size:=by rw[T.sz];exact lt
   have:=h (t.place[i]+1) λ _ _=>xt T.KI (by rw[k4,g0 BJ]);rw[g0 lt]at this ⊢;rw[g0 BJ];exact H9 this
  ·have:=h 0 λ _ z=>absurd z lt;rw[j3 (y0 lt)]at this ⊢;exact H9 this
def Gi(w:World)(I a:Addr)(es:Array (Int×Value))(ep:Nat)(t:SetTable)(i:Nat)(h:Heap):Prop:=∃sl:Nat,h.get? I=some (Wc sl i a es.size ep)/\h.get? a=some (eQ es ep t)/\(vb w=false->SetTable.below t.place sl=i)
theorem Hm{i:Nat}{e:Int×Value}{Q:Option Value->Shared->Prop}(ne:a≠I)(T:Tab t es.size)(hl:t.led=!vb w)(st:Gi w I a es ep t i s.heap)(lt:i < es.size)(he:(gb w a ep es)[i]?=some e) (hQ:∀h',Gi w I a es ep t (i+1) h'->Heap.SameBut I s.heap h'->Q (some e.2) {s with heap:=h'}):wpAny (model prog w) A (pyNext (.ref I)) Q E s:=by
 obtain⟨sl,hI,ha,hb⟩:=st;have hT:s.TypeIs (.ref I) "set_iterator":=⟨_,hI,rfl⟩;unfold pyNext;refine G9 (wpAny_attempt (i9 (name:=Str.ofString "__next__") hT cK (y6 cK hT iN ?_ (jv _))));refine G9 (H9 ?_);refine G9 (wpAny_fieldsOf hI rfl ?_);dsimp only;refine G9 (wpAny_setEntries_of ha rfl T.fit ?_);rw[J7 (by simp)];rw[show((i:Int)).toNat=i from u7 i,show((ep:Int)).toNat=ep from u7 ep,show((sl:Int)).toNat=sl from u7 sl];refine G9 (tH ha T hl hb λ Hk jN=>?_);rw[he];dsimp only[Option.map];refine G9 (C5 hI rfl (by simp) ?_);have h1:=j7 (Obj.mapFields (·.setIfInBounds 0 (rawInt Hk))) hI rfl;refine G9 (C5 h1 rfl (by simp[Obj.mapFields]) ?_);have h2:=j7 (Obj.mapFields (·.setIfInBounds 1 (rawInt ((i:Int)+1)))) h1 rfl;have sb:=(l7 s.heap I (Obj.mapFields (·.setIfInBounds 0 (rawInt Hk)))).trans (l7 _ I (Obj.mapFields (·.setIfInBounds 1 (rawInt ((i:Int)+1)))));refine H9 ⟨_,rfl,H9 (hQ _ ⟨Hk,?_,?_,λ z=>jN z lt⟩ sb)⟩
 ·exact h2
 ·rw[sb.2 a ne];exact ha
theorem LQ{Q:Option Value->Shared->Prop}(hh:A.handled=none)(T:Tab t es.size)(hl:t.led=!vb w)(st:Gi w I a es ep t es.size s.heap) (hQ:∀h',Heap.ExtBut I s.heap h'->Q none {s with heap:=h'}):wpAny (model prog w) A (pyNext (.ref I)) Q E s:=by obtain⟨sl,hI,ha,hb⟩:=st;have hT:s.TypeIs (.ref I) "set_iterator":=⟨_,hI,rfl⟩;unfold pyNext;refine G9 (wpAny_attempt (i9 (name:=Str.ofString "__next__") hT cK (y6 cK hT iN ?_ (jv _))));refine G9 (H9 ?_);refine G9 (wpAny_fieldsOf hI rfl ?_);dsimp only;refine G9 (wpAny_setEntries_of ha rfl T.fit ?_);rw[J7 (by simp)];rw[show((es.size:Int)).toNat=es.size from u7 _,show((ep:Int)).toNat=ep from u7 ep,show((sl:Int)).toNat=sl from u7 sl];refine G9 (tH ha T hl hb λ Hk jN=>?_);rw[j3 (by rw[mM];exact G5 _)];dsimp only[Option.map];refine G9 (C5 hI rfl (by simp) ?_);show wpAny _ _ (newExc (.type "StopIteration") [] >>= _) _ _ _;refine G9 ?_;simp only[newExc,newTuple];refine G9 (u9 ?_ (by size_fits));refine G9 (m:=firstArgMember _ _) (wpAny_of_eq (a:=Value.none) (by first|rfl|(simp only[firstArgMember];rfl)) ?_);refine u9 ?_ (by size_fits);simp only[raiseNew];refine G9 (wpAny_handled ?_);rw[show A.in1.handled=none from hh];refine G9 (H9 (wpAny_throw ?_));refine G9 (A0 (T:="StopIteration") (b:=true) ⟨_,m8 _ rfl,rfl⟩ isSubtype_stop ?_);exact H9 (hQ _ (((l7 ..).extBut.push _).push _))
theorem Hl{i:Nat}{Q:Value->Shared->Prop}(st:Gi w I a es ep t i s.heap)(h:Q (.ref I) s):wpAny (model prog w) A (pyIter (.ref I)) Q E s:=by obtain⟨sl,hI,ha,hb⟩:=st;have hT:s.TypeIs (.ref I) "set_iterator":=⟨_,hI,rfl⟩;refine wpAny_pyIter_slot hT ju (y6 ju hT oT ?_ (qW _));exact H9 ⟨_,rfl,"set_iterator",_,hT,cK.lookup,h⟩
theorem zZ(hh:A.handled=none)(I a:Addr)(ne:a≠I)(T:Tab t es.size)(hl:t.led=!vb w):Walks prog w A I [I,a] [I] es.size (λ i v=>∃e,(gb w a ep es)[i]?=some e/\e.2=v) (Gi w I a es ep t) where
 sub:=λ b hb=>by simp at hb;simp[hb]
 frame:=λ _ _ _ st hk=>let⟨sl,h1,h2,h3⟩:=st;⟨sl,hk I (by simp) _ h1,hk a (by simp) _ h2,h3⟩
 item:=λ i s Q E hi st hQ=>by
  have lt:i < (gb w a ep es).size:=by rw[mM];exact hi
  exact Hm ne T hl st hi (g0 lt) λ h' jj sb=>hQ _ h' s.toks ⟨_,g0 lt,rfl⟩ jj λ b o hb e=>by rw[sb.2 b λ z=>hb (by simp[z])];exact e
 done:=λ s Q E st hQ=>LQ hh T hl st λ h' Ti=>hQ h' s.toks λ b o hb e=>Ti b o (λ h=>hb (by simp[h])) e
 self:=λ _ _ _ _ st hQ=>Hl st hQ
theorem Cz{Q:Value->Shared->Prop}(ha:s.heap.get? a=some (eQ es ep t))(T:Tab t es.size)(hQ:Q (.ref s.heap.objs.size) {s with heap:=s.heap.push (Wc 0 0 a es.size ep)}):wpAny (model prog w) A (pyIter (.ref a)) Q E s:=by have hT:s.TypeIs (.ref a) "set":=⟨_,ha,rfl⟩;refine wpAny_pyIter_slot hT F.slot_set_iter (y6 F.slot_set_iter hT ng ?_ (F.args_set_iter_1 _));unfold Builtin.«frozenset.__iter__» Builtin.Frozenset.slot0 Builtin.Frozenset.sizeOf;refine G9 (G9 (H9 ?_));refine H9 ?_;refine G9 (G9 (wpAny_setEntries_of ha rfl T.fit (H9 ?_)));refine G9 ?_;unfold setDrawn;refine G9 (wpAny_setState_of ha rfl T.fit ?_);dsimp only;unfold setsByText;refine G9 (G9 (wpAny_askSetting (H9 (H9 ?_))));show wpAny _ _ (if(!vb w&&(!t.plain&&decide (es.size > 1)))=true then _ else _) _ _ s;rw[T.pl,J7 (by simp)];refine G9 (H9 ?_);unfold setEpoch;refine G9 (G9 (wpAny_setState_of ha rfl T.fit (H9 ?_)));refine G9 (u9 ?_ (by size_fits));exact H9 ⟨_,rfl,"set_iterator",_,⟨_,m8 _ rfl,rfl⟩,cK.lookup,hQ⟩
theorem CA{Q:Bool->Shared->Prop}(hT:s.TypeIs (.ref a) "set")(h:Q false s):wpAny (model prog w) A (Builtin.List.listLengthHint (.ref a)) Q E s:=by
 unfold Builtin.List.listLengthHint;refine G9 (B9 hT F.slot_set_len.lookup ?_);generalize WQ:("set.__len__":String)=Yd
 wp_delta
 rw[show splitId Yd=some ("set","__len__")from by subst WQ;decide+kernel];subst WQ;refine G9 (A0 (T:="set") (b:=true) hT (by rw[isSubtype_type];kernel_rfl) ?_);refine wpAny_ite_split (λ Lc=>absurd Lc (by decide)) (λ _=>?_);refine wpAny_ite_split (λ _=>?_) (λ Lc=>absurd (by decide+kernel) Lc);refine G9 (E6 hT ?_);exact H9 h
theorem Hg(T:Tab t es.size)(hl:t.led=!vb w):KdlSrc prog w "set" a a es.size (λ i v=>∃e,(gb w a ep es)[i]?=some e/\e.2=v) (λ h=>h.get? a=some (eQ es ep t)) where
 type:=λ _ hm=>⟨_,hm,rfl⟩
 there:=λ _ hm=>⟨D5 hm,D5 hm⟩
 keep:=λ _ _ hm hk=>hk a (.inl rfl) _ hm
 notList:=by decide
 notTuple:=by decide
 hint:=λ _ _ _ _ hm hq=>CA ⟨_,hm,rfl⟩ hq
 iter:=λ _ s hh hm=>⟨_,_,(λ _ _ hq=>Cz hm T hq),zZ hh _ a (D4 (D5 hm)) T hl,⟨0,m8 _ rfl,j4 _ hm,λ _=>xr T.KI⟩⟩
end
end L2
namespace KK
open PySem L3 L4 L5
open L2 hiding aI fR
theorem CT{m h:Nat}{rows:List Row}(G:Tb m h rows){x:Nat}(hx:x < m):gr (rows.map row) (x:Int)=some (.tup ((rows.getD x []).map D.int))/\(rows.getD x []).length=h/\∀y∈rows.getD x [],0<=y/\y < (m:Int):=by
 have h0:x < rows.length:=by rw[G.len];exact hx
 rw[c8,i5 h0];exact⟨bG (by rw[s9,i5 h0];rfl),G.row _ (y9 h0)⟩
theorem KJ{n i x:Nat}(h:(List.range n)[i]?=some x):x < n:=mem_range.mp (k9 h)
end KK
namespace L2
open PySem PySem.Spec PyProof.Rows
def LH(t:TE):TO:=λ σ H Q=>t σ H λ x H1=>(∃i,x=.int i/\Q (some i) H1)\/(x=.bx/\Q none H1)
theorem DF{X:Cx}{e:Expr}{te:TE}(h:PE X e te):PO X (some e) (LH te):=by
 intro pins s σ H Q I hw;rw[evalPart_some];refine cT (h pins s σ H _ I hw) λ u s1 ⟨x,H1,I1,r1,q1⟩=>?_;rcases q1 with⟨i,rfl,q⟩|⟨rfl,q⟩
 ·obtain⟨t,rfl⟩:=r1;exact⟨some i,H1,I1,.int i t,q⟩
 ·cases(show u=Value.none from r1);exact⟨none,H1,I1,.none,q⟩
end L2
namespace L3
open PySem PySem.Spec PyProof.Rows L2 L5
def q_(t:cu):GG:=λ δ M Q=>t δ M λ d M1=>match d with
 | .int i=>Q (some i) M1
 | .bx=>Q none M1
 |_=>False
theorem Dy{X:Cx}{e:Expr}{ta:cu}(h:QE X e ta):QO X (some e) (q_ ta):=DG (DF h) λ σ H Q ⟨δ,M,Q2,hs,hm,q,k⟩=>by
 refine⟨δ,M,_,hs,hm,q,λ x H1 d M1 hd bQ t1 q1=>?_⟩;cases d with
 |int i=>exact .inl ⟨i,au.mp hd,k _ _ _ bQ t1 q1⟩
 |bx=>exact .inr ⟨dA.mp hd,k _ _ _ bQ t1 q1⟩
 |_=>exact q1.elim
end L3
namespace L4
open PySem L2 L3
theorem BX{X:Cx}{e:Expr}{ta:cu}(h:WE X e ta):WO X (some e) (q_ ta):=⟨Dy (h:=h.h)⟩
theorem tO{ta:cu}{δ:cS}{M:Mem}{QO:Option Int->Mem->Prop}(h:ta δ M λ d M1=>match d with| .int i=>QO (some i) M1| .bx=>QO none M1|_=>False):q_ ta δ M QO:=h
end L4
namespace KK
open PySem L2 L3 L4
theorem vX{a:Addr}{ds:List D}{M:Mem}{Q:bK}(h:M a=some (.lst ds))(q:∀p,M p=none->Q (.ref p) (ah M p (.lst ds))):xc (.ref a) none none M Q:=xY h λ p hp=>by
 have e:cutD ds none none=ds:=by show(ds.drop 0).take (ds.length - 0)=ds;rw[drop_zero,Nat.sub_zero,y4]
 rw[e];exact q p hp
end KK
namespace KK
open PySem L3 L4 L5
open L2 hiding aI fR
def Gv(r q:List Row)(i:Nat)(p:Nat×Nat):Nat×Nat:=(a_ r i p.1,a_ q i p.2)
def Pr(r q:List Row)(h x y v:Nat):Prop:=sy (Gv r q) h (0,x) (y,v)
theorem yi{m h m2:Nat}{r q:List Row}(G:dC m h r)(T:Tb m2 h q){x:Nat}(hx:x < m2){p:Nat×Nat}(R:sy (Gv r q) h (0,x) p):p.1 < m/\p.2 < m2:=by
 induction R with
 |zero=>exact⟨G.tb.pos,hx⟩
 |step R hi ih=>exact⟨G.gq.cl _ _ hi ih.1,T.Ce hi _ ih.2⟩
theorem QP{m h:Nat}{r q:List Row}(G:dC m h r)(x:Nat){y:Nat}(hy:y < m):∃v,Pr r q h x y v:=by
 have:∀y,sy (a_ r) h 0 y->∃v,Pr r q h x y v:=λ y R=>by
  induction R with
  |zero=>exact⟨x,.zero⟩
  |step R hi ih=>obtain⟨v,hv⟩:=ih;exact⟨_,.step hv hi⟩
 exact this y (G.BI y hy)
section
variable {m h:Nat}{r:List Row}
set_option tactic.hygienic true in
theorem yj{p:Nat×Nat}(R:sy (Gv r r) h (0,0) p):p.2=p.1:=by
 induction R with
 |zero=>rfl
 |step R hi ih=>rename_i s i;show a_ r i s.2=a_ r i s.1;rw[ih]
set_option tactic.hygienic true in
theorem yk(G:dC m h r){x i:Nat}(hx:x < m)(hi:i < h){p:Nat×Nat}(R:sy (Gv r r) h (0,a_ r i x) p):∃v,Pr r r h x p.1 v/\v < m/\p.2=a_ r i v:=by
 induction R with
 |zero=>exact⟨x,.zero,hx,rfl⟩
 |step R hj ih=>rename_i s j;obtain⟨v,h1,h2,h3⟩:=ih;refine⟨a_ r j v,.step h1 hj,G.gq.cl _ _ hj h2,?_⟩;show a_ r j s.2=_;rw[h3,G.gq.cm v j i hj hi h2]
set_option tactic.hygienic true in
theorem IA(G:dC m h r):∀{x:Nat},sy (a_ r) h 0 x->∀y v v',Pr r r h x y v->Pr r r h x y v'->v=v':=λ{x} R=>by
 induction R with
 |zero=>intro y v v' P P';rw[show v=y from yj P,show v'=y from yj P']
 |step R hi ih=>rename_i s i;intro y v v' P P';have hs:s < m:=R.ok G.gq G.tb.pos;obtain⟨v0,h1,h2,h3⟩:=yk G hs hi P;obtain⟨v1,g1,g2,g3⟩:=yk G hs hi P';rw[show v=a_ r i v0 from h3,show v'=a_ r i v1 from g3,ih y v0 v1 h1 g1]
noncomputable def mul (r:List Row)(h x y:Nat):Nat:=Classical.epsilon λ v=>Pr r r h x y v
theorem Eh(G:dC m h r){x y:Nat}(hy:y < m):Pr r r h x y (mul r h x y):=by exact Classical.epsilon_spec (QP G x hy)
theorem rF(G:dC m h r){x y v:Nat}(hx:x < m)(P:Pr r r h x y v):v=mul r h x y:=IA G (G.BI x hx) y v _ P (Eh G (yi G G.tb hx P).1)
theorem mul_0(G:dC m h r){x:Nat}(hx:x < m):mul r h x 0=x:=(rF G hx .zero).symm
theorem NR(G:dC m h r){x y i:Nat}(hx:x < m)(hy:y < m)(hi:i < h):mul r h x (a_ r i y)=a_ r i (mul r h x y):=(rF G hx (.step (Eh G hy) hi)).symm
theorem yt(G:dC m h r){x i:Nat}(hx:x < m)(hi:i < h):∀(n y:Nat),y < m->BK (a_ r i) n (mul r h x y)=mul r h x (BK (a_ r i) n y)
 |0,y,_=>rfl
 |n+1,y,hy=>by show BK (a_ r i) n (a_ r i (mul r h x y))=mul r h x (BK (a_ r i) n (a_ r i y));rw[<- NR G hx hy hi];exact yt G hx hi n _ (G.gq.cl _ _ hi hy)
theorem yr(G:dC m h r){x:Nat}(hx:x < m):∀(cs:Row) (i y:Nat),i+cs.length<=h->y < m->GW r i (mul r h x y) cs=mul r h x (GW r i y cs)
 |[],i,y,_,_=>rfl
 |c::cs,i,y,hl,hy=>by rw[y3]at hl;show GW r (i+1) (BK (a_ r i) c.toNat (mul r h x y)) cs=mul r h x (GW r (i+1) (BK (a_ r i) c.toNat y) cs);rw[yt G hx (by omega) _ y hy];exact yr G hx cs (i+1) _ (by omega) (EH (G.tb.Ce (by omega)) _ _ hy)
theorem GV(G:dC m h r){x:Nat}(hx:x < m){cs:Row}(hl:cs.length=h):GW r 0 x cs=mul r h x (GW r 0 0 cs):=by
 have:=yr G hx cs 0 0 (by omega) G.tb.pos
 rwa [mul_0 G hx]at this
end
structure zL(r q:List Row)(h x:Nat)(kv:List (Nat×Nat))(ws:List Nat):Prop where
 nd:(kv.map (·.1)).Nodup
 pr:∀e∈kv,Pr r q h x e.1 e.2
 sJ:(0,x)∈kv
 wt:∀y∈ws,y∈kv.map (·.1)
 dn:∀y∈kv.map (·.1),y∉ws->∀i,i < h->a_ r i y∈kv.map (·.1)
section
variable {m h m2 x:Nat}{r q:List Row}{kv:List (Nat×Nat)}{ws:List Nat}
theorem zL.start (r q:List Row)(h x:Nat):zL r q h x [(0,x)] [0]:=⟨by simp,λ e he=>by rw[p7.mp he];exact .zero,by simp,λ y hy=>by simpa using hy,λ y hy n=>absurd (by simpa using hy) (by simpa using n)⟩
theorem zL.cI (G:dC m h r)(T:Tb m2 h q)(hx:x < m2)(c:zL r q h x kv ws):kv.length<=m:=by
 have:=List.Nodup.length_le_of_subset c.nd (l₂:=List.range m) λ y hy=>by obtain⟨e,he,rfl⟩:=D6.mp hy;exact mem_range.mpr (yi G T hx (c.pr e he)).1
 rwa [B4,x3]at this
theorem zL.all (G:dC m h r)(c:zL r q h x kv []){y:Nat}(hy:y < m):y∈kv.map (·.1):=by
 have:∀y,sy (a_ r) h 0 y->y∈kv.map (·.1):=λ y R=>by
  induction R with
  |zero=>exact D6.mpr ⟨_,c.sJ,rfl⟩
  |step R hi ih=>exact c.dn _ ih (by simp) _ hi
 exact this y (G.BI y hy)
end
structure pI(r q:List Row)(h x:Nat)(kv:List (Nat×Nat))(ws:List Nat)(y v i:Nat):Prop where
 nd:(kv.map (·.1)).Nodup
 pr:∀e∈kv,Pr r q h x e.1 e.2
 sJ:(0,x)∈kv
 wt:∀y∈ws,y∈kv.map (·.1)
 dn:∀z∈kv.map (·.1),z∉ws->z≠y->∀i,i < h->a_ r i z∈kv.map (·.1)
 at':(y,v)∈kv
 so:∀j,j < i->a_ r j y∈kv.map (·.1)
section
variable {h x y v i:Nat}{r q:List Row}{kv:List (Nat×Nat)}{ws:List Nat}
theorem zL.pop (c:zL r q h x kv (ws++[y])):∃v,pI r q h x kv ws y v 0:=by obtain⟨e,he,rfl⟩:=D6.mp (c.wt y (by simp));exact⟨e.2,c.nd,c.pr,c.sJ,λ z hz=>c.wt z (l0 _ hz),λ z hz n ne=>c.dn z hz (by rw[B5,p7];exact λ o=>o.elim n ne),he,λ j hj=>absurd hj (by omega)⟩
theorem pI.old (c:pI r q h x kv ws y v i)(hn:a_ r i y∈kv.map (·.1)):pI r q h x kv ws y v (i+1):=
 ⟨c.nd,c.pr,c.sJ,c.wt,c.dn,c.at',λ j hj=>by
  by_cases z:j=i
  ·rw[z];exact hn
  ·exact c.so j (by omega)⟩
theorem pI.new (c:pI r q h x kv ws y v i)(hi:i < h)(hn:a_ r i y∉kv.map (·.1)):pI r q h x (kv++[(a_ r i y,a_ q i v)]) (ws++[a_ r i y]) y v (i+1):=by
 have up:∀z,z∈kv.map (·.1)->z∈(kv++[(a_ r i y,a_ q i v)]).map (·.1):=λ z hz=>by rw[B6];exact l0 _ hz
 have nw:a_ r i y∈(kv++[(a_ r i y,a_ q i v)]).map (·.1):=by simp
 refine⟨?_,λ e he=>?_,l0 _ c.sJ,λ z hz=>?_,λ z hz n ne j hj=>?_,l0 _ c.at',λ j hj=>?_⟩
 ·rw[B6];exact nodup_append.mpr ⟨c.nd,by simp,λ a ha b hb z=>hn (by rw[z,p7.mp hb]at ha;exact ha)⟩
 ·rcases B5.mp he with he|he
  ·exact c.pr e he
  ·rw[p7.mp he];exact sy.step (c.pr _ c.at') hi
 ·rcases B5.mp hz with hz|hz
  ·exact up z (c.wt z hz)
  ·rw[p7.mp hz];exact nw
 ·rw[B5,p7,not_or]at n;rw[B6]at hz;rcases B5.mp hz with hz|hz
  ·exact up _ (c.dn z hz n.1 ne j hj)
  ·exact absurd (by simpa using hz) n.2
 ·by_cases z:j=i
  ·rw[z];exact nw
  ·exact up _ (c.so j (by omega))
theorem pI.done (c:pI r q h x kv ws y v h):zL r q h x kv ws:=
 ⟨c.nd,c.pr,c.sJ,c.wt,λ z hz n i hi=>by
  by_cases e:z=y
  ·rw[e];exact c.so i hi
  ·exact c.dn z hz n e i hi⟩
end
structure V8(m:Nat)(r q:List Row)(h x:Nat)(kv:List (Nat×Nat)):Prop where
 nd:(kv.map (·.1)).Nodup
 pr:∀e∈kv,Pr r q h x e.1 e.2
 all:∀y,y < m->∃v,(y,v)∈kv
 cI:kv.length<=m
 sJ:(0,x)∈kv
theorem zL.ZL {m h m2 x:Nat}{r q:List Row}{kv:List (Nat×Nat)}(G:dC m h r)(T:Tb m2 h q)(hx:x < m2)(c:zL r q h x kv []):V8 m r q h x kv:=
 ⟨c.nd,c.pr,λ y hy=>by
  obtain⟨e,he,e2⟩:=D6.mp (c.all G hy);subst e2;exact⟨e.2,he⟩,c.cI G T hx,c.sJ⟩
end KK
namespace KK
open PySem L3 L4 L5
open L2 hiding aI fR
def gP(ls:Row)(x:Nat):Bool:=decide ((x:Int)∈ls)
end KK
namespace L2
open PySem PySem.Spec PyProof.Rows
theorem kb.OT {K:J8}{x qual:Str}{st:Stmt}{dV:Value}{c f:Addr}{fd:FuncData}{ps:List Str}{n:Nat}(F:kb K x qual st dV c f fd)(hn:ps.length=n+1) (h:∀(kV doc pm:Value) (an:Option Addr) (ct:Value) (s:Shared),K.In s.heap->∀(us:List Value),us.length=n->BindsTo s (PySem.W.fnOf x qual (bX st) (bA st) (aq st) dV kV doc pm an (.ref c) ct) ⟨us,[]⟩ (ps.zip (us++[.none]))):Binds K fd ps [.none]:=
 F.binds λ kV doc pm an ct s hk us hl=>h kV doc pm an ct s hk us (by rw[o6,j9]at hl;omega)
end L2
namespace KK
open PySem L3 L4 L5
open L2 hiding aI fR
def jF(r:List Row)(ls:Row)(x y:Nat)(p:Cs):Prop:=gP ls (dj (a_ r) 0 x p)≠gP ls (dj (a_ r) 0 y p)
structure LP(h:Nat)(r:List Row)(ls:Row)(x y:Nat)(p:Cs):Prop where
 len:p.length=h
 par:jF r ls x y p
 low:∀q:Cs,q.length=h->Ah q p->¬jF r ls x y q
section
variable {m h:Nat}{r:List Row}{ls:Row}{x y:Nat}
theorem iw(G:dC m h r)(hx:x < m){p:Cs}(hp:p.length=h):dj (a_ r) 0 x p=mul r h x (dj (a_ r) 0 0 p):=by
 have:=GV G hx (cs:=p.map λ v:Nat=>(v:Int)) (by rw[B4];exact hp)
 rwa [qQ,qQ]at this
theorem Fj(G:dC m h r)(hx:x < m){p:Cs}(hp:p.length=h):dj (a_ r) 0 x p < m:=G.gq.dj p 0 x (by omega) hx
theorem kC(G:dC m h r)(hx:x < m)(hy:y < m){p q:Cs}(hp:p.length=h)(hq:q.length=h)(e:dj (a_ r) 0 0 p=dj (a_ r) 0 0 q):jF r ls x y p↔jF r ls x y q:=by unfold jF;rw[iw G hx hp,iw G hy hp,iw G hx hq,iw G hy hq,e]
theorem yX{told:List (Cs×Nat)}(G:dC m h r)(F:vk (a_ r) 0 h m told){q:Cs}(fq:iK (a_ r) 0 h q):∃(j:Nat) (e:Cs×Nat),told[j]?=some e/\e.1=q:=by
 have len:=F.len G;have lt:∀e∈told,e.2 < m:=λ e he=>by have:=F.iF.ent e he;rw[<- this.2];exact G.gq.dj e.1 0 0 (by rw[this.1.1];omega) G.tb.pos
 have nd:=F.iF.nd;have tq:dj (a_ r) 0 0 q < m:=Fj G G.tb.pos fq.1;have mem:dj (a_ r) 0 0 q∈told.map (·.2):=by
  refine Decidable.byContradiction λ n=>?_;have:=List.Nodup.length_le_of_subset (nodup_cons.mpr ⟨n,nd⟩) (l₂:=List.range m) λ z hz=>by
   rcases D1.mp hz with rfl|hz
   ·exact mem_range.mpr tq
   ·obtain⟨e,he,rfl⟩:=D6.mp hz;exact mem_range.mpr (lt e he)
  rw[y3,B4,x3]at this;omega
 obtain⟨e,he,ee⟩:=D6.mp mem;obtain⟨j,hj⟩:=getElem?_of_mem he;have a:=F.iF.ent e he;exact⟨j,e,hj,a.1.uniq fq (by rw[a.2,ee])⟩
theorem wm{told:List (Cs×Nat)}(G:dC m h r)(F:vk (a_ r) 0 h m told)(hx:x < m)(hy:y < m){j:Nat}{e:Cs×Nat}(he:told[j]?=some e)(hp:jF r ls x y e.1)(OV:∀(i:Nat) (d:Cs×Nat),i < j->told[i]?=some d->¬jF r ls x y d.1):LP h r ls x y e.1:=by
 have a:=F.iF.ent e (k9 he);refine⟨a.1.1,hp,λ q hq hA pq=>?_⟩;obtain⟨p',f',e',o'⟩:=iK.ex (a_ r) 0 h hq;have pp:jF r ls x y p':=(kC G hx hy f'.1 hq e').mpr pq;have Ap:Ah p' e.1:=by
  rcases o' with rfl|o'
  ·exact hA
  ·exact o'.trans hA
 obtain⟨i,d,hd,rfl⟩:=yX G F f';rcases Nat.lt_trichotomy i j with z|z|z
 ·exact OV i d z hd pp
 ·subst z;rw[hd]at he;cases he;exact Ap.Rn
 ·exact(F.iF.at he hd z).not Ap
theorem AI{told:List (Cs×Nat)}(G:dC m h r)(F:vk (a_ r) 0 h m told)(hx:x < m)(hy:y < m)(no:∀(i:Nat) (d:Cs×Nat),told[i]?=some d->¬jF r ls x y d.1):∀q:Cs,q.length=h->¬jF r ls x y q:=λ q hq pq=>by obtain⟨p',f',e',o'⟩:=iK.ex (a_ r) 0 h hq;obtain⟨i,d,hd,rfl⟩:=yX G F f';exact no i d hd ((kC G hx hy f'.1 hq e').mpr pq)
theorem LP.uniq {p q:Cs}(a:LP h r ls x y p)(b:LP h r ls x y q):p=q:=by
 rcases Ah.SD (p:=p) (q:=q) (a.len.trans b.len.symm)with e|e|e
 ·exact e
 ·exact absurd a.par (b.low p a.len e)
 ·exact absurd b.par (a.low q b.len e)
theorem LP.ex (h:Nat)(r:List Row)(ls:Row)(x y:Nat):(∃p,LP h r ls x y p)\/∀q:Cs,q.length=h->¬jF r ls x y q:=by
 by_cases z:∃q:Cs,q.length=h/\jF r ls x y q
 ·obtain⟨q,hq,pq⟩:=z;obtain⟨p,hp,pp,lo⟩:=nG (Q:=λ p=>jF r ls x y p) (yg h (q.sum+1)) ⟨q,dw.mpr ⟨hq,by omega⟩,pq⟩;obtain⟨p1,p2⟩:=dw.mp hp;refine .inl ⟨p,p1,pp,λ s hs hA ps=>?_⟩;by_cases g:s.sum < q.sum+1
  ·rcases lo s (dw.mpr ⟨hs,g⟩) ps with e|e
   ·subst e;exact hA.Rn
   ·exact e.not hA
  ·rcases hA with o|o <;> omega
 ·exact .inr λ q hq pq=>z ⟨q,hq,pq⟩
end
end KK
namespace L2
open PySem
abbrev mL(mask:Nat)(h:Int):List Nat:=gV mask (mask+15) (SetTable.bits h % (mask+1),SetTable.bits h)
def O0(mask:Nat)(S4:Nat->Prop)(h:Int)(j:Nat):Prop:=∃pre post,mL mask h=pre++j::post/\∀k∈pre,S4 k
theorem O0.mono {mask:Nat}{S4 Q7:Nat->Prop}{h:Int}{j:Nat}(a:O0 mask S4 h j)(s:∀k,S4 k->Q7 k):O0 mask Q7 h j:=
 let⟨pre,post,e,o⟩:=a
 ⟨pre,post,e,λ k hk=>s k (o k hk)⟩
def Gm(t:SetTable)(hs:List Int):Prop:=∀(i:Nat) (j:Nat) (h:Int),t.place.toList[i]?=some j->hs[i]?=some h->O0 t.mask (·∈t.place.toList) h j
theorem uH{mask:Nat}{owner:Array (Option Nat)}:∀(fuel i pt:Nat),(∃e∈gV mask fuel (i,pt),(owner.getD e (some 0)).isNone=true)->
  ∃pre j post,gV mask fuel (i,pt)=pre++j::post/\(∀k∈pre,(owner.getD k (some 0)).isNone=false)/\(owner.getD j (some 0)).isNone=true/\SetTable.layClean.free mask owner fuel i pt=some j
 |0,i,pt,⟨e,he,_⟩=>by cases he
 |fuel+1,i,pt,⟨e,he,hn⟩=>by
  unfold SetTable.layClean.free;have eb:gV mask (fuel+1) (i,pt)=(List.range (SetTable.runEnd mask i+1 - i)).map (i+·)++gV mask fuel (SetTable.leap mask i pt):=rfl;rw[eb];cases hf:(List.range (SetTable.runEnd mask i+1 - i)).find? λ k=>(owner.getD (i+k) (some 0)).isNone with
  |some k=>obtain⟨h1,as,bs,h2,h3⟩:=find?_eq_some_iff_append.mp hf;refine⟨as.map (i+·),i+k,bs.map (i+·)++gV mask fuel (SetTable.leap mask i pt),by rw[h2,B6,C9,w9,A1],λ z hz=>?_,h1,rfl⟩;obtain⟨y,hy,rfl⟩:=D6.mp hz;have:=h3 y hy;simpa using this
  |none=>
   rcases B5.mp (eb▸he)with he|he
   ·obtain⟨k,hk,rfl⟩:=D6.mp he;exact absurd hn (find?_eq_none.mp hf k hk)
   ·obtain⟨pre,j,post,a,b,c,d⟩:=uH fuel (SetTable.leap mask i pt).1 (SetTable.leap mask i pt).2 ⟨e,he,hn⟩;refine⟨(List.range (SetTable.runEnd mask i+1 - i)).map (i+·)++pre,j,post,by rw[w9,<- a],λ z hz=>?_,c,d⟩;rcases B5.mp hz with hz|hz
    ·obtain⟨k,hk,rfl⟩:=D6.mp hz;exact Bool.eq_false_iff.mpr (find?_eq_none.mp hf k hk)
    ·exact b z hz
structure Own(mask:Nat)(hs:List Int)(owner:Array (Option Nat))(k:Nat):Prop where
 sz:owner.size=mask+1
 pm:(rB mask owner).Perm (List.range k)
 rc:∀j i h,owner.getD j none=some i->hs[i]?=some h->O0 mask (λ s=>owner.getD s none≠none) h j
theorem qt{owner:Array (Option Nat)}{mask j:Nat}(hs:owner.size=mask+1)(hj:j<=mask):owner.getD j (some 0)=owner.getD j none:=by
 have h1:j < owner.size:=by omega
 simp[Array.getD,h1]
theorem Own.next {mask:Nat}(M:Kt mask){hs:List Int}{owner:Array (Option Nat)}{k:Nat}(O:Own mask hs owner k){h:Int}(hk:hs[k]?=some h)(kl:k<=mask):∃j,SetTable.layClean.free mask owner (SetTable.turns mask) (SetTable.bits h % (mask+1)) (SetTable.bits h)=some j/\Own mask hs (owner.setIfInBounds j (some k)) (k+1):=by
 have hi:SetTable.bits h % (mask+1)<=mask:=Nat.le_of_lt_succ (Nat.mod_lt _ (Nat.succ_pos _));obtain⟨e,he,eZ⟩:=DR O.sz O.pm kl;obtain⟨pre,j,post,a,b,c,d⟩:=uH (mask:=mask) (owner:=owner) (SetTable.turns mask) (SetTable.bits h % (mask+1)) (SetTable.bits h) ⟨e,vc M hi (zG h) he,eZ⟩;have aw:mL mask h=pre++j::post:=a;have le:∀z∈mL mask h,z<=mask:=λ z hz=>mE (mask+15) (SetTable.bits h % (mask+1),SetTable.bits h) hi hz;have jm:j<=mask:=le j (by rw[aw];simp);obtain⟨h4,h5⟩:=IQ O.sz O.pm jm c;have cn:owner.getD j none=none:=by rw[qt O.sz jm]at c;exact Option.isNone_iff_eq_none.mp c
 have fm:∀i,i≠j->(owner.setIfInBounds j (some k)).getD i none=owner.getD i none:=λ i hi=>by rw[Array.getD_eq_getD_getElem?,Array.getD_eq_getD_getElem?,Array.getElem?_setIfInBounds,J7 (J5 hi)]
 have at':(owner.setIfInBounds j (some k)).getD j none=some k:=by rw[Array.getD_eq_getD_getElem?,Array.getElem?_setIfInBounds,J6 rfl,J6 (by rw[O.sz];omega)];rfl
 have up:∀s,owner.getD s none≠none->(owner.setIfInBounds j (some k)).getD s none≠none:=λ s z=>by
  by_cases g:s=j
  ·rw[g,at'];simp
  ·rw[fm s g];exact z
 refine⟨j,d,h4,h5,λ j' i h' z hz=>?_⟩;by_cases g:j'=j
 ·subst g;rw[at']at z;cases z;rw[hk]at hz;cases hz;refine⟨pre,post,aw,λ s hs=>up s ?_⟩;have:=b s hs;rw[qt O.sz (le s (by rw[aw];simp[hs]))]at this;intro w;rw[w]at this;cases this
 ·rw[fm j' g]at z;exact(O.rc j' i h' z hz).mono up
theorem Ju{mask:Nat}(M:Kt mask)(hashes:Array Int)(hn:hashes.size<=mask+1):∃owner,SetTable.layClean mask hashes=some owner/\Own mask hashes.toList owner hashes.size:=by
 have gen:∀(l:List Int) (pre:List Int) (owner:Array (Option Nat)),pre++l=hashes.toList->Own mask hashes.toList owner pre.length->
   ∃DQ,l.foldl (init:=some (owner,pre.length)) (λ acc h=>do
    let(owner,k) <- acc
    let j <- SetTable.layClean.free mask owner (SetTable.turns mask) (SetTable.bits h % (mask+1)) (SetTable.bits h)
    pure (owner.setIfInBounds j (some k),k+1))=some (DQ,hashes.size)/\Own mask hashes.toList DQ hashes.size:=by
  intro l
  induction l with
  |nil=>intro pre owner e O;rw[A4]at e;subst e;rw[m7]at O;exact⟨owner,by rw[m7];rfl,O⟩
  |cons h l ih=>
   intro pre owner e O;have hk:hashes.toList[pre.length]?=some h:=by rw[<- e,c7 (G5 _),Nat.sub_self];rfl
   have kl:pre.length < hashes.size:=by
    have:=(g9.mp hk).1
    rwa [m7]at this
   obtain⟨j,d,O2⟩:=O.next M hk (by omega);obtain⟨o',f1,f2⟩:=ih (pre++[h]) _ (by rw[w9];exact e) (by rw[o6,j9];exact O2);refine⟨o',?_,f2⟩;rw[foldl_cons];have:(do let(owner,k) <- some (owner,pre.length);let j <- SetTable.layClean.free mask owner (SetTable.turns mask) (SetTable.bits h % (mask+1)) (SetTable.bits h);pure (owner.setIfInBounds j (some k),k+1):Option (Array (Option Nat)×Nat))=some (owner.setIfInBounds j (some pre.length),pre.length+1):=by show(SetTable.layClean.free mask owner (SetTable.turns mask) (SetTable.bits h % (mask+1)) (SetTable.bits h)).bind _=_;rw[d];rfl
   rw[this];rw[o6,j9]at f1;exact f1
 have e0:rB mask (Array.replicate (mask+1) none)=[]:=by unfold rB;rw[filterMap_eq_nil_iff];intro j _;rw[Array.getD_eq_getD_getElem?,Array.getElem?_replicate];split <;> rfl
 obtain⟨o',f1,f2⟩:=gen hashes.toList [] (Array.replicate (mask+1) none) rfl ⟨by simp,by rw[e0];exact List.Perm.refl _,λ j i h z=>by
  rw[Array.getD_eq_getD_getElem?,Array.getElem?_replicate]at z;split at z <;> cases z⟩
 refine⟨o',?_,f2⟩;unfold SetTable.layClean;rw[<- Array.foldl_toList];have:(some (Array.replicate (mask+1) none,0):Option (Array (Option Nat)×Nat))=some (Array.replicate (mask+1) none,([]:List Int).length):=rfl;rw[this,f1];rfl
theorem Jq(f:Nat->Option Nat):∀(l:List Nat) (i:Nat) (j k:Nat),(l.filterMap λ j=>(f j).map (j,·))[i]?=some (j,k)->j∈l/\f j=some k:=λ l i j k h=>by have:=k9 h;obtain⟨a,ha,e⟩:=mem_filterMap.mp this;obtain⟨b,hb,e2⟩:=Option.map_eq_some_iff.mp e;cases e2;exact⟨ha,hb⟩
theorem za{es:Array (Int×Value)}:∀(l:List Nat),(∀k∈l,k < es.size)->∀i:Nat,(l.filterMap (es[·]?))[i]?=(l[i]?).bind λ k=>es[k]?
 |[],_,i=>by simp
 |a::l,h,i=>by
  have ha:=g0 (h a n6);rw[filterMap_cons_some ha];cases i with
  |zero=>simp[ha]
  |succ i=>simpa using za l (λ k hk=>h k (k8 _ hk)) i
theorem Ax{t:SetTable}{es:Array (Int×Value)}{wanted m:Nat}(pl:t.plain=true)(e:SetTable.sizeAbove wanted=m+1)(M:Kt m)(hn:es.size<=m):∃t2 ord Fw,t.relaid (es.map (·.1)) wanted=some (t2,ord)/\ord.filterMap (es[·]?)=Fw/\ord.toList.Perm (List.range es.size)/\Tab0 t2 es.size/\t2.mask=m/\t2.led=t.led/\Fw.size=es.size/\Fw.toList.Perm es.toList/\Gm t2 (Fw.toList.map (·.1)):=by
 obtain⟨owner,o1,O⟩:=Ju M (es.map (·.1)) (by rw[Array.size_map];omega);have o3:=O.pm;rw[Array.size_map]at o3;have sl:=nN (λ j=>owner.getD j none) (List.range (m+1));have sn:=nM (λ j=>owner.getD j none) (List.range (m+1));have la:=Jq (λ j=>owner.getD j none) (List.range (m+1));have lm:∀s,s<=m->owner.getD s none≠none->s∈((List.range (m+1)).filterMap λ j=>(owner.getD j none).map (j,·)).map (·.1):=λ s hs z=>by
  cases ez:owner.getD s none with
  |none=>exact absurd ez z
  |some k=>exact D6.mpr ⟨(s,k),mem_filterMap.mpr ⟨s,mem_range.mpr (by omega),by rw[ez];rfl⟩,rfl⟩
 generalize hl:((List.range (m+1)).filterMap λ j=>(owner.getD j none).map (j,·))=live at sl sn la lm;have hp:(live.map (·.2)).Perm (List.range es.size):=by rw[sn];exact o3
 have len:live.length=es.size:=by rw[<- B4 (f:=(·.2)),hp.length_eq,x3]
 have er:t.relaid (es.map (·.1)) wanted=some ({mask:=m,place:=(live.map (·.1)).toArray,dummies:=#[],finger:=t.finger,led:=t.led,moves:=t.movedTo m,plain:=t.plain},(live.map (·.2)).toArray):=by unfold SetTable.relaid SetTable.laid;rw[e,Nat.add_sub_cancel,o1];show some (_,_)=_;rw[hl]
 have lt:∀k∈live.map (·.2),k < es.size:=λ k hk=>mem_range.mp (hp.mem_iff.mp hk);have el:((live.map (·.2)).toArray.filterMap (es[·]?)).toList=(live.map (·.2)).filterMap (es[·]?):=by rw[Array.toList_filterMap]
 have pm:((live.map (·.2)).filterMap (es[·]?)).Perm es.toList:=by
  refine(hp.filterMap _).trans ?_;have:(List.range es.size).filterMap (es[·]?)=es.toList:=by
   refine x6 λ i=>?_;rw[za _ λ k hk=>mem_range.mp hk];by_cases z:i < es.size
   ·rw[l8 z,k4];rfl
   ·rw[k7 (by rw[x3];omega),k7 (by rw[m7];omega)];rfl
  rw[this]
 refine⟨_,_,_,er,rfl,hp,⟨rfl,List.Pairwise.sublist sl pairwise_lt_range,?_,λ j hj=>?_,pl,M⟩,rfl,rfl,?_,by rw[el];exact pm,λ i j h hj hh=>?_⟩
 ·show(live.map (·.1)).toArray.size=_;rw[x5,B4,len]
 ·have:=mem_range.mp (sl.subset hj);exact Nat.le_of_lt_succ this
 ·rw[<- m7,el,pm.length_eq,m7]
 ·have hj:(live.map (·.1))[i]?=some j:=hj;rw[s9]at hj;obtain⟨⟨j',k⟩,Om,ej⟩:=Option.map_eq_some_iff.mp hj;cases ej;obtain⟨_,ok⟩:=la i j' k Om;have kl:k < es.size:=lt k (D6.mpr ⟨_,k9 Om,rfl⟩);rw[el,s9,za _ lt,s9,Om]at hh;have RH:(es.map (·.1)).toList[k]?=some h:=by rw[Array.toList_map,s9,k4];exact hh
  have R:=O.rc j' k h ok RH;obtain⟨pre,post,e1,e2⟩:=R;have hi:SetTable.bits h % (m+1)<=m:=Nat.le_of_lt_succ (Nat.mod_lt _ (Nat.succ_pos _));refine⟨pre,post,e1,λ s hs=>lm s ?_ (e2 s hs)⟩;exact mE (m+15) (SetTable.bits h % (m+1),SetTable.bits h) hi (by show s∈mL m h;rw[e1];exact l0 _ hs)
end L2
namespace L2
open PySem PySem.Spec PyProof.Rows
def xx(prog:Program)(w:World)(h:Heap)(es:Array (Int×Value))(ks:List IK):Prop:=es.size=ks.length/\∀(i:Nat) (k:IK),ks[i]?=some k->∃b,es[i]?=some (d_ k,.ref b)/\(aQ prog w).is h k b
def SetT(prog:Program)(w:World)(us:List Value)(h:Heap)(a:Addr)(led:Bool)(ks:List IK):Prop:=∃es ep t,h.get? a=some (eQ es ep t)/\xx prog w h es ks/\ks.Nodup/\Tab t es.size/\t.led=led/\Gm t (ks.map d_)/\∀e∈es.toList,e.2∈us
section
variable {prog:Program}{w:World}{A:Around}{E:Value->Shared->Prop}{s:Shared}
theorem hG{h h':Heap}{k:IK}{b:Addr}(q:∀b o,o.cls=.type "tuple"->h.get? b=some o->h'.get? b=some o)(x:(aQ prog w).is h k b):(aQ prog w).is h' k b:=⟨x.1,yO q k x.2⟩
theorem ub:∀(n:Nat) (k:IK),k.dep<=n->∀{A:Around} {E:Value->Shared->Prop} {s:Shared} {v:Value} {Q:Bool->Shared->Prop},ck s.heap k v->Q false s->wpAny (model prog w) A (ofAClassStatement n v) Q E s:=by
 intro n
 induction n with
 |zero=>
  intro k hk A E s v Q hi h;cases k with
  |i m=>unfold ck at hi;rcases hi with⟨t,rfl⟩|⟨b,rfl,_⟩ <;> (unfold ofAClassStatement;exact H9 h)
  |t ks=>unfold IK.dep at hk;omega
 |succ n ih=>
  intro k hk A E s v Q hi h;cases k with
  |i m=>unfold ck at hi;rcases hi with⟨t,rfl⟩|⟨b,rfl,_⟩ <;> (unfold ofAClassStatement;exact H9 h)
  |t ks=>
   unfold ck at hi;obtain⟨a,o,ax,m,rfl,ho,hc,hd,hits⟩:=hi;have gn:IK.ja ks<=n:=by unfold IK.dep at hk;omega
   have hT:s.TypeIs (.ref a) "tuple":=⟨o,ho,hc⟩;unfold ofAClassStatement;refine G9 (E6 hT ?_);dsimp only;rw[J6 (by decide)];refine G9 (H9 ?_);rw[J7 (by decide)];refine G9 (C3 ho hd ?_);dsimp only;refine G9 ?_;rw[<- q9];refine wpAny_forIn_list _ (λ rest r s'=>r.1=none/\s'=s/\∃left,(∀l∈left,l∈ks)/\bC s.heap left rest) _ ?_ ?_ _ _ ⟨rfl,rfl,ks,λ l hl=>hl,by simpa using hits⟩
   ·rintro x rest r s' ⟨hr,rfl,left,o_,hl⟩;cases left with
    |nil=>unfold bC at hl;cases hl
    |cons k1 left=>unfold bC at hl;obtain⟨v,r',e,h1,h2⟩:=hl;cases e;refine G9 (ih k1 (D8 (fI (o_ k1 (n6 ..))) gn) h1 ?_);simp only[o7,J3];exact H9 ⟨rfl,rfl,left,λ l hl=>o_ l (k8 _ hl),h2⟩
   ·rintro⟨r1,r2⟩ s' ⟨hr,rfl,_⟩;simp only at hr;subst hr;exact H9 h
theorem Eb{k:IK}{b:Addr}(hk:(aQ prog w).is s.heap k b){Q:Bool->Shared->Prop}(h:Q false s):∀(vs:List Value),(∀v∈vs,∃k' c,v=.ref c/\(aQ prog w).is s.heap k' c)->wpAny (model prog w) A (searchCouldBeSeen (.ref b) vs) Q E s:=by
 intro vs hv;unfold searchCouldBeSeen;refine G9 ?_;refine wpAny_forIn_list _ (λ rest r s'=>r.1=none/\s'=s/\∀v∈rest,v∈vs) _ ?_ ?_ _ _ ⟨rfl,rfl,λ v h=>h⟩
 ·rintro y rest r s' ⟨hr,rfl,hl⟩;obtain⟨k',c,rfl,hc⟩:=hv y (hl y n6);have fin:∀v∈rest,v∈vs:=λ v hv=>hl v (k8 _ hv);dsimp only;split
  ·exact H9 ⟨rfl,rfl,fin⟩
  ·refine G9 ((aQ prog w).quiet hk ?_);simp only[Bool.not_true,o7,J3];refine G9 ((aQ prog w).quiet hc ?_);simp only[Bool.not_true,o7,J3];refine G9 (ub 8 k (D8 hk.1 (by decide)) hk.2 ?_);simp only[o7,J3];refine G9 (ub 8 k' (D8 hc.1 (by decide)) hc.2 ?_);simp only[o7,J3];exact H9 ⟨rfl,rfl,fin⟩
 ·rintro⟨r1,r2⟩ s' ⟨hr,rfl,_⟩;simp only at hr;subst hr;exact H9 h
theorem Am{a b:Addr}{es:Array (Int×Value)}{ep:Nat}{t:SetTable}{ks:List IK}{k:IK}(ho:s.heap.get? a=some (eQ es ep t))(En:xx prog w s.heap es ks)(T:Tab t es.size)(hk:(aQ prog w).is s.heap k b)(hu:A.units+8 < cLine)(R:Gm t (ks.map d_)) {Q:SetFound->Shared->Prop} (Yq:k∈ks->Q (.there none) s) (vA:k∉ks->∀j,j<=t.mask->j∉t.place.toList->O0 t.mask (·∈t.place.toList) (d_ k) j->Q (.free j false) s):∀(n fuel:Nat) (iM:Option SetTable.Probe) (B:Nat) (rm rest:List Nat),mL t.mask (d_ k)=rm++rest->gE t.mask B (iM.getD (t.probeStart (d_ k)))=rest->(iM.getD (t.probeStart (d_ k))).dummy=none->rest.length<=n->n < fuel->
   (∀z∈rm,∃(i:Nat) (k':IK),t.place.toList[i]?=some z/\ks[i]?=some k'/\k'≠k)->wpAny (model prog w) A (setSearchFrom a (.ref b) (d_ k) true fuel iM) Q E s:=by
 have hi:SetTable.bits (d_ k) % (t.mask+1)<=t.mask:=Nat.le_of_lt_succ (Nat.mod_lt _ (Nat.succ_pos _));have Pu:es.size<=t.mask:=by have:=T.Pu;omega
 have odd:t.gaveWay=false:=by unfold SetTable.gaveWay;rcases T.S7 with e|e|e <;> rw[e] <;> rfl
 obtain⟨fe,YO,GA⟩:=Ak (l:=t.place.toList) (m:=t.mask) (by rw[m7,T.sz];exact Pu);have cI:fe∈mL t.mask (d_ k):=vc T.S7 hi (zG _) YO;have wl:(mL t.mask (d_ k)).length<=10*(t.mask+15):=ox _ _ _;intro n
 induction n with
 |zero=>intro fuel iM B rm rest e1 e2 e3 e4 e5 e6;have:rest=[]:=j0.mp (by omega);subst this;rw[e1,A4]at cI;obtain⟨i,_,hz,_⟩:=e6 fe cI;exact absurd (k9 hz) GA
 |succ n ih=>
  intro fuel iM B rm rest e1 e2 e3 e4 e5 e6;obtain⟨fuel,rfl⟩:∃f,fuel=f+1:=⟨fuel - 1,by omega⟩;have inr:fe∈rest:=by
   rw[e1]at cI;rcases B5.mp cI with z|z
   ·obtain⟨i,_,hz,_⟩:=e6 fe z;exact absurd (k9 hz) GA
   ·exact z
  unfold setSearchFrom;refine G9 (wpAny_setState_of ho rfl T.fit ?_);dsimp only;rw[odd,J7 (by decide)];obtain⟨pre,j,post,f1,f2,f3⟩:=Fm T.dm T.KI (hashAt:=λ i=>(es[i]?.map (·.1)).getD 0) (h:=d_ k) (10*SetTable.turns t.mask) B (iM.getD (t.probeStart (d_ k))) (by
   rw[e2];have:rest.length<=(mL t.mask (d_ k)).length:=by rw[e1,o6];omega
   exact D8 this wl) e3 ⟨fe,by rw[e2];exact inr,GA⟩
  rw[e2]at f1;have key:∀(i z:Nat),t.place.toList[i]?=some z->∃k' c,ks[i]?=some k'/\es[i]?=some (d_ k',.ref c)/\(aQ prog w).is s.heap k' c:=λ i z hz=>by have lt:=(g9.mp hz).1;rw[m7,T.sz,En.1]at lt;obtain⟨c,c1,c2⟩:=En.2 i _ (i5 lt);exact⟨_,c,i5 lt,c1,c2⟩
  have rz:∀z∈pre,∃(i:Nat) (k':IK),t.place.toList[i]?=some z/\ks[i]?=some k'/\k'≠k:=λ z hz=>by obtain⟨i,UW,hh⟩:=f2 z hz;obtain⟨k',c,c1,c2,_⟩:=key i z UW;refine⟨i,k',UW,c1,λ w=>hh ?_⟩;rw[c2,w];rfl
  have jw:j∈mL t.mask (d_ k):=by rw[e1,f1];simp
  have jm:j<=t.mask:=mE (t.mask+15) (SetTable.bits (d_ k) % (t.mask+1),SetTable.bits (d_ k)) hi jw;rcases f3 with⟨nj,pr⟩|⟨i,B',next,hj,hh,pr,S6,rem⟩
  ·show wpAny _ _ (match SetTable.probe t (λ i=>(es[i]?.map (·.1)).getD 0) (d_ k) (iM.getD (t.probeStart (d_ k)))with|some met=>_|x=>_) _ _ s;have QQ:SetTable.probe t (λ i=>(es[i]?.map (·.1)).getD 0) (d_ k) (iM.getD (t.probeStart (d_ k)))=some (.empty j none):=pr;rw[QQ];dsimp only;refine H9 ?_;have live:∀z∈rm++pre,z∈t.place.toList:=λ z hz=>by
    rcases B5.mp hz with q|q
    ·obtain⟨i,_,q,_⟩:=e6 z q;exact k9 q
    ·obtain⟨i,_,q,_⟩:=rz z q;exact k9 q
   by_cases qo:k∈ks
   ·exfalso;obtain⟨i0,Vp⟩:=getElem?_of_mem qo;have il:=(g9.mp Vp).1;have Rp:i0 < t.place.toList.length:=by rw[m7,T.sz,En.1];exact il
    obtain⟨pk,qk,w1,w2⟩:=R i0 _ (d_ k) (i5 Rp) (by rw[s9,Vp];rfl);have w3:pk++t.place.toList[i0]::qk=(rm++pre)++j::post:=by rw[<- w1,e1,f1,w9]
    have mem:t.place.toList[i0]∈rm++pre:=by
     rcases append_eq_append_iff.mp w3 with⟨as,a1,a2⟩|⟨bs,b1,b2⟩
     ·cases as with
      |nil=>rw[A5]at a2;have:=(List.cons.inj a2).1;exact absurd (by rw[<- this];exact y9 Rp) nj
      |cons x as=>rw[A1]at a2;rw[a1,(List.cons.inj a2).1];simp
     ·cases bs with
      |nil=>rw[A5]at b2;have:=(List.cons.inj b2).1;exact absurd (by rw[this];exact y9 Rp) nj
      |cons x bs=>rw[A1]at b2;exact absurd (w2 j (by rw[b1,(List.cons.inj b2).1];simp)) nj
    have un:∀(i:Nat) (k':IK),t.place.toList[i]?=some t.place.toList[i0]->ks[i]?=some k'->k'=k:=λ i k' q1 q2=>by
     have:i=i0:=by
      rcases Nat.lt_trichotomy i i0 with z|z|z
      ·exact absurd (kB T.KI q1 (i5 Rp) z) (C8 _)
      ·exact z
      ·exact absurd (kB T.KI (i5 Rp) q1 z) (C8 _)
     rw[this,Vp]at q2;exact(A9 q2).symm
    rcases B5.mp mem with q|q
    ·obtain⟨i,k',q1,q2,q3⟩:=e6 _ q;exact q3 (un i k' q1 q2)
    ·obtain⟨i,k',q1,q2,q3⟩:=rz _ q;exact q3 (un i k' q1 q2)
   ·exact vA qo j jm nj ⟨rm++pre,post,by rw[e1,f1,w9],live⟩
  ·obtain⟨k',c,c1,c2,c3⟩:=key i j hj;show wpAny _ _ (match SetTable.probe t (λ i=>(es[i]?.map (·.1)).getD 0) (d_ k) (iM.getD (t.probeStart (d_ k)))with|some met=>_|x=>_) _ _ s;have QQ:SetTable.probe t (λ i=>(es[i]?.map (·.1)).getD 0) (d_ k) (iM.getD (t.probeStart (d_ k)))=some (.candidate j i next):=pr;rw[QQ];dsimp only;have sl:t.slot j=.live i:=pX T.KI hj;have sm:t.sameMemory t.moves t.mask=some true:=by unfold SetTable.sameMemory;rw[J6 (by simp)]
   have tail:wpAny (model prog w) A (do
     let(_,y) <- (pure (d_ k',Value.ref c):Sem (Int×Value))
     let equal <- holding [y] (eqBool y (.ref b))
     let(es',_,t') <- setState a
     if true&&equal then return .there none
     let some same:=t'.sameMemory t.moves t.mask|unsupported "set.changed-during-lookup:is-the-new-block-at-the-old-address"
     let P_ <- match(if same then t'.slot j else .empty)with
      | .live i'=>match es'[i']? with
       |some (_,y')=>do pure (if <- isSame y' y then some i' else none)
       |none=>pure none
      |_=>pure none
     match P_ with
     |none=>rule "set.search.anew";setSearchFrom a (.ref b) (d_ k) true fuel none
     |some i'=>if equal then return .there (some i')else setSearchFrom a (.ref b) (d_ k) true fuel (some next)) Q E s:=by
    refine G9 (H9 ?_);dsimp only;refine G9 (C6 ((aQ prog w).eqBool hu c3 hk ?_));refine G9 (wpAny_setState_of ho rfl T.fit ?_);dsimp only;by_cases eq:k'=k
    ·rw[C0 eq,Bool.and_self,J6 rfl];exact H9 (Yq (by rw[<- eq];exact k9 c1))
    ·rw[A7 eq,Bool.and_false,J7 (by decide),sm];dsimp only;rw[J6 rfl,sl];dsimp only;rw[c2];dsimp only;refine G9 ?_;unfold isSame;dsimp only;rw[J6 (by simp)];refine H9 (G9 (H9 ?_));rw[J6 rfl];dsimp only;rw[J7 (by decide)];have pn:post≠[]:=λ z=>by
      rw[f1,z]at inr;rcases B5.mp inr with q|q
      ·obtain⟨i,_,q,_⟩:=rz fe q;exact GA (k9 q)
      ·rw[p7.mp q]at GA;exact GA (k9 hj)
     refine ih fuel (some next) B' (rm++pre++[j]) post (by rw[e1,f1];simp) (rem pn) S6 (by rw[f1,o6,y3]at e4;omega) (by omega) λ z hz=>?_;rcases B5.mp hz with q|q
     ·rcases B5.mp q with q|q
      ·exact e6 z q
      ·exact rz z q
     ·rw[p7.mp q];exact⟨i,k',hj,c1,eq⟩
   cases hl:t.led with
   |true=>rw[J7 (by decide),c2];exact tail
   |false=>
    rw[J6 (by decide)];refine G9 (Eb hk ?_ _ λ v hv=>?_)
    ·rw[J7 (by decide),c2];exact tail
    ·obtain⟨e,he,rfl⟩:=D6.mp hv;have Vu:e∈es.toList:=by rw[Array.toList_filter]at he;exact(mem_filter.mp he).1
     obtain⟨i',Bk⟩:=getElem?_of_mem Vu;have lt:=(g9.mp Bk).1;rw[m7,En.1]at lt;obtain⟨c',d1,d2⟩:=En.2 i' _ (i5 lt);rw[k4,d1]at Bk;cases Bk;exact⟨_,c',rfl,d2⟩
end
end L2
namespace L2
open PySem PySem.Spec PyProof.Rows
theorem rM{α:Type}(l:List α)(x:α){p:Nat}(hp:p<=l.length)(i:Nat):(l.take p++x::l.drop p)[i]?=if i < p then l[i]? else if i=p then some x else l[i - 1]?:=by
 have tl:(l.take p).length=p:=by rw[y8];omega
 by_cases h1:i < p
 ·rw[J6 h1,c9 (by omega),getElem?_take_of_lt h1]
 ·rw[J7 h1,c7 (by omega),tl];by_cases h2:i=p
  ·rw[J6 h2,h2,Nat.sub_self];rfl
  ·rw[J7 h2];obtain⟨d,hd⟩:∃d,i - p=d+1:=⟨i - p - 1,by omega⟩;rw[hd,getElem?_cons_succ,getElem?_drop];congr 1;omega
theorem wR{α:Type}{es:List α}:∀(l:List Nat),(∀k∈l,k < es.length)->∀i:Nat,(l.filterMap (es[·]?))[i]?=(l[i]?).bind λ k=>es[k]?
 |[],_,i=>by simp
 |a::l,h,i=>by
  have ha:=i5 (h a n6);rw[filterMap_cons_some ha];cases i with
  |zero=>simp[ha]
  |succ i=>simpa using wR l (λ k hk=>h k (k8 _ hk)) i
section
variable {prog:Program}{w:World}
theorem Fh:∀(n:Nat) (k:IK),k.dep<=n->∀{A:Around} {E:Value->Shared->Prop} {s:Shared} {v:Value} {Q:Bool->Shared->Prop},ck s.heap k v->Q true s->wpAny (model prog w) A (hashByValue n v) Q E s:=by
 intro n
 induction n with
 |zero=>
  intro k hk A E s v Q hi h;cases k with
  |i m=>unfold ck at hi;rcases hi with⟨t,rfl⟩|⟨b,rfl,_⟩ <;> (unfold hashByValue;exact H9 h)
  |t ks=>unfold IK.dep at hk;omega
 |succ n ih=>
  intro k hk A E s v Q hi h;cases k with
  |i m=>unfold ck at hi;rcases hi with⟨t,rfl⟩|⟨b,rfl,_⟩ <;> (unfold hashByValue;exact H9 h)
  |t ks=>
   unfold ck at hi;obtain⟨a,o,ax,m,rfl,ho,hc,hd,hits⟩:=hi;have gn:IK.ja ks<=n:=by unfold IK.dep at hk;omega
   have hT:s.TypeIs (.ref a) "tuple":=⟨o,ho,hc⟩;unfold hashByValue;refine G9 (B9 hT F.slot_tuple_hash.lookup ?_);dsimp only;refine G9 (C3 ho hd ?_);refine G9 ?_;show wpAny _ _ (forIn ax.toArray _ _) _ _ s;rw[<- q9];refine wpAny_forIn_list _ (λ rest r s'=>r.1=none/\s'=s/\∃left,(∀l∈left,l∈ks)/\bC s.heap left rest) _ ?_ ?_ _ _ ⟨rfl,rfl,ks,λ l hl=>hl,by simpa using hits⟩
   ·rintro x rest r s' ⟨hr,rfl,left,o_,hl⟩;cases left with
    |nil=>unfold bC at hl;cases hl
    |cons k1 left=>unfold bC at hl;obtain⟨v,r',e,h1,h2⟩:=hl;cases e;refine G9 (ih k1 (D8 (fI (o_ k1 (n6 ..))) gn) h1 ?_);simp only[Bool.not_true,o7,J3];exact H9 ⟨rfl,rfl,left,λ l hl=>o_ l (k8 _ hl),h2⟩
   ·rintro⟨r1,r2⟩ s' ⟨hr,rfl,_⟩;simp only at hr;subst hr;exact H9 h
theorem JW{h:Heap}{es:Array (Int×Value)}{ks:List IK}{k:IK}{b:Addr}(En:xx prog w h es ks)(hk:(aQ prog w).is h k b){p:Nat}(hp:p<=ks.length):xx prog w h (SetTable.insertAt es p (d_ k,.ref b)) (ks.take p++k::ks.drop p):=by
 have eT:p<=es.toList.length:=by rw[m7,En.1];exact hp
 refine⟨?_,λ i k' hi=>?_⟩
 ·rw[<- m7,SetTable.toList_insertAt,o6,o6,y3,y3,y8,y8,length_drop,length_drop,m7,En.1]
 ·rw[rM ks k hp]at hi;rw[<- k4,SetTable.toList_insertAt,rM _ _ eT];by_cases h1:i < p
  ·rw[J6 h1]at hi ⊢;obtain⟨c,c1,c2⟩:=En.2 i k' hi;exact⟨c,by rw[k4];exact c1,c2⟩
  ·rw[J7 h1]at hi ⊢;by_cases h2:i=p
   ·rw[J6 h2]at hi ⊢;cases hi;exact⟨b,rfl,hk⟩
   ·rw[J7 h2]at hi ⊢;obtain⟨c,c1,c2⟩:=En.2 (i - 1) k' hi;exact⟨c,by rw[k4];exact c1,c2⟩
theorem Dt{t:SetTable}{n:Nat}{ks:List IK}{k:IK}{j:Nat}(T:Tab0 t n)(hn:ks.length=n)(nj:j∉t.place.toList)(R:Gm t (ks.map d_))(rj:O0 t.mask (·∈t.place.toList) (d_ k) j):Gm (t.put j).1 ((ks.take (t.put j).2++k::ks.drop (t.put j).2).map d_)/\(t.put j).2<=ks.length:=by
 have hp:(t.put j).2<=t.place.toList.length:=by have:=(gW T.KI j).1;rw[m7];exact this
 have eT:(t.put j).2<=ks.length:=by rw[hn,<- T.sz,<- m7];exact hp
 have pl:(t.put j).1.place.toList=t.place.toList.take (t.put j).2++j::t.place.toList.drop (t.put j).2:=by unfold SetTable.put;dsimp only;rw[SetTable.toList_insertAt]
 have mk:(t.put j).1.mask=t.mask:=rfl;have up:∀z,z∈t.place.toList->z∈(t.put j).1.place.toList:=λ z hz=>by unfold SetTable.put;exact yu.mpr (.inr hz)
 refine⟨λ i j' h' h1 h2=>?_,eT⟩;rw[mk];rw[pl,rM _ _ hp]at h1;rw[B6,C9,map_take,map_drop,rM _ _ (by rw[B4];exact eT)]at h2;by_cases g1:i < (t.put j).2
 ·rw[J6 g1]at h1 h2;exact(R i j' h' h1 h2).mono up
 ·rw[J7 g1]at h1 h2;by_cases g2:i=(t.put j).2
  ·rw[J6 g2]at h1 h2;cases h1;cases h2;exact rj.mono up
  ·rw[J7 g2]at h1 h2;exact(R (i - 1) j' h' h1 h2).mono up
theorem ur{α:Type}(l:List α)(x:α)(p:Nat):(l.take p++x::l.drop p).Perm (x::l):=by refine perm_middle.trans ?_;rw[take_append_drop]
variable {A:Around}{E:Value->Shared->Prop}{s:Shared}
theorem vg{us:List Value}{a b:Addr}{led:Bool}{ks:List IK}{k:IK}{Q:Bool->Shared->Prop}(S:SetT prog w us s.heap a led ks)(U4: .ref b∈us)(cI:ks.length < 76)(hk:(aQ prog w).is s.heap k b)(hu:A.units+8 < cLine) (h:∀(z:Bool) (h':Heap) (EA:List IK),Heap.SameBut a s.heap h'->(∀c o,c≠a->s.heap.get? c=some o->h'.get? c=some o)->SetT prog w us h' a led EA->EA.Perm (if k∈ks then ks else k::ks)->Q z {s with heap:=h'}):wpAny (model prog w) A (setAddHashed a (.ref b) (d_ k)) Q E s:=by
 obtain⟨es,ep,t,ho,En,nd,T,hl,R,U⟩:=S;have sz:=En.1;unfold setAddHashed setAddHashedIn;refine C6 (G9 (wpAny_setState_of ho rfl T.fit ?_));dsimp only;rw[show byScan (.ref b) es=false from rfl,J7 (by decide)];unfold setSearch;have wl:(mL t.mask (d_ k)).length<=10*(t.mask+15):=ox _ _ _;have ml:t.mask<=127:=by rcases T.S7 with e|e|e <;> omega
 refine G9 (Am ho En T hk hu R (λ qo=>?_) (λ hn j jm nj rj=>?_) _ 100000 none (t.mask+14) [] (mL t.mask (d_ k)) rfl ny rfl (G5 _) (by omega) (λ z hz=>by cases hz))
 ·dsimp only;refine H9 ?_;exact h false s.heap ks (Heap.SameBut.refl a s.heap) (λ c o _ z=>z) ⟨es,ep,t,ho,En,nd,T,hl,R,U⟩ (by rw[J6 qo])
 ·dsimp only;obtain⟨T1,m1,l1⟩:=Iu T.toTab0 jm nj;obtain⟨R1,pl⟩:=Dt T.toTab0 sz.symm nj R rj;have E1:=JW En hk pl;have Wl:(ks.take (t.put j).2++k::ks.drop (t.put j).2).Nodup:=(ur ks k _).nodup_iff.mpr (nodup_cons.mpr ⟨hn,nd⟩);have Uw:=ur ks k (t.put j).2;generalize hks:ks.take (t.put j).2++k::ks.drop (t.put j).2=Jz at*;have kl:Jz.length=ks.length+1:=by rw[Uw.length_eq];rfl
  have U1:∀e∈(SetTable.insertAt es (t.put j).2 (d_ k,.ref b)).toList,e.2∈us:=λ e he=>by
   rw[SetTable.toList_insertAt]at he;rcases B5.mp he with z|z
   ·exact U e (mem_of_mem_take z)
   ·rcases D1.mp z with rfl|z
    ·exact U4
    ·exact U e (mem_of_mem_drop z)
  generalize RJ:SetTable.insertAt es (t.put j).2 (d_ k,.ref b)=rV at*;have VJ:rV.size=es.size+1:=by rw[E1.1,kl,sz]
  refine G9 (wpAny_setState_of ho rfl T.fit ?_);dsimp only;rw[T1.pl,J6 rfl];refine G9 (Fh 8 k (D8 hk.1 (by decide)) hk.2 ?_);rw[J6 rfl,RJ];have Wb:rV.size<=sizeLine:=by rw[G6];omega
  refine G9 (wpAny_storeSet_of ho rfl ?_ Wb);have o1:=tj (es':=rV) (t':=(t.put j).1) ho;have b1:=l7 s.heap a (Obj.putSet rV (t.put j).1);have ko:∀{h h':Heap} {Xf:Array (Int×Value)} {Xg:Nat} {t0:SetTable} {UP:List IK} {VI:Array (Int×Value)},h.get? a=some (eQ Xf Xg t0)->Heap.SameBut a h h'->xx prog w h VI UP->xx prog w h' VI UP:=λ{h h' Xf Xg t0 UP VI} hg sb en=>⟨en.1,λ i k' hi=>let⟨c,c1,c2⟩:=en.2 i k' hi;⟨c,c1,hG (λ b o hc hb=>by
   have ne:b≠a:=λ z=>by subst z;rw[hg]at hb;cases hb;exact absurd hc (λ z=>by simp[eQ]at z)
   rw[sb.2 b ne];exact hb) c2⟩⟩
  have fm:∀{h h':Heap},Heap.SameBut a h h'->∀c o,c≠a->h.get? c=some o->h'.get? c=some o:=λ{h h'} sb c o ne hc=>by rw[sb.2 c ne];exact hc
  have Z9:=ko ho b1 E1;have Pu:=T.Pu;have Tz:Tab0 (t.put j).1 rV.size:=by rw[VJ];exact T1
  cases tf:(t.put j).1.tooFull with
  |false=>rw[J7 (by decide)];refine H9 (h true _ Jz b1 (fm b1) ⟨rV,ep+1,(t.put j).1,o1,Z9,Wl,⟨Tz,?_⟩,l1.trans hl,R1,U1⟩ (by rw[J7 hn];exact Uw));rw[lg Tz,decide_eq_false_iff_not,m1]at tf;rw[m1];omega
  |true=>
   rw[J6 (by rfl)];rw[lg Tz,u6,m1]at tf;unfold setRelay;refine G9 (G9 (wpAny_setState_of o1 rfl (Tz.fits (by rw[m1];omega)) ?_));dsimp only;have two:∃mm,SetTable.sizeAbove (SetTable.grown (es.size+1))=mm+1/\Kt mm/\rV.size<=mm/\((mm=31/\rV.size<=18)\/(mm=127/\rV.size<=76)):=by
    have:(es.size=4/\t.mask=7)\/(es.size=18/\t.mask=31):=by omega
    rcases this with⟨z,_⟩|⟨z,_⟩
    ·exact⟨31,by rw[z];decide+kernel,.inr (.inl rfl),by omega,.inl ⟨rfl,by omega⟩⟩
    ·exact⟨127,by rw[z];decide+kernel,.inr (.inr rfl),by omega,.inr ⟨rfl,by omega⟩⟩
   obtain⟨mm,s1,s2,s3,s4⟩:=two;obtain⟨t2,ord,Fw,r1,r2,r3,r4,r5,r6,r7,r8,r9⟩:=Ax (t:=(t.put j).1) (es:=rV) (wanted:=SetTable.grown (es.size+1)) T1.pl s1 s2 s3;have ml2:rV.size<=76:=by rcases s4 with z|z <;> omega
   rw[J7 (by rw[s1,G6];rcases s4 with z|z <;> omega),r1];show wpAny (model prog w) A ((do
    if(ord.filterMap (rV[·]?)).size != rV.size then unsupported "internal:set-table-lost-an-element"
    pure (ord.filterMap (rV[·]?),t2):Sem (Array (Int×Value)×SetTable)) >>= λ x=>storeSet a x.1 x.2) _ _ _
   rw[r2];refine G9 ?_;rw[J7 (by rw[r7];simp)];refine H9 ?_;dsimp only;refine wpAny_storeSet_of o1 rfl ?_ (by rw[r7];exact Wb);have b2:=b1.trans (l7 (s.heap.update a (Obj.putSet rV (t.put j).1)) a (Obj.putSet Fw t2));have lt:∀x∈ord.toList,x < rV.size:=λ x hx=>mem_range.mp (r3.mem_iff.mp hx);have Oo:(ord.toList.filterMap (Jz[·]?)).Perm Jz:=by
    refine(r3.filterMap _).trans ?_;have:(List.range rV.size).filterMap (Jz[·]?)=Jz:=by
     refine x6 λ i=>?_;rw[wR _ λ x hx=>by rw[<- E1.1];exact mem_range.mp hx];by_cases z:i < rV.size
     ·rw[l8 z];rfl
     ·rw[k7 (by rw[x3];omega),k7 (by rw[<- E1.1];omega)];rfl
    rw[this]
   have at2:∀i,(ord.toList.filterMap (Jz[·]?))[i]?=(ord.toList[i]?).bind λ x=>Jz[x]?:=wR _ λ x hx=>by rw[<- E1.1];exact lt x hx
   have Z3:∀i,Fw[i]?=(ord.toList[i]?).bind λ x=>rV[x]?:=λ i=>by rw[<- k4,<- r2,Array.toList_filterMap,za _ lt]
   generalize hk2:ord.toList.filterMap (Jz[·]?)=N3 at*;have l2:Fw.size=N3.length:=by rw[r7,E1.1,Oo.length_eq]
   have E2:xx prog w s.heap Fw N3:=⟨l2,λ i k' hi=>by
    rw[at2]at hi;obtain⟨x,x1,x2⟩:=Option.bind_eq_some_iff.mp hi;obtain⟨c,c1,c2⟩:=E1.2 x k' x2;exact⟨c,by rw[Z3,x1];exact c1,c2⟩⟩
   have hh:Fw.toList.map (·.1)=N3.map d_:=by
    refine x6 λ i=>?_;rw[s9,s9,k4];by_cases z:i < N3.length
    ·obtain⟨c,c1,_⟩:=E2.2 i _ (i5 z);rw[c1,i5 z];rfl
    ·rw[k7 (by omega),j3 (by omega)];rfl
   rw[hh]at r9;refine H9 (h true _ N3 b2 (fm b2) ⟨Fw,ep+1+1,t2,tj o1,ko ho b2 E2,Oo.nodup_iff.mpr Wl,⟨by rw[r7];exact r4,?_⟩,r6.trans (l1.trans hl),r9,λ e he=>U1 e (r8.mem_iff.mp he)⟩ (by rw[J7 hn];exact Oo.trans Uw));rw[r5,r7];rcases s4 with⟨z1,z2⟩|⟨z1,z2⟩ <;> omega
end
end L2
namespace L2
open PySem PySem.Spec PyProof.Rows
def j_(ks ns:List IK):Prop:=ks.Nodup/\∀k,k∈ks↔k∈ns
theorem j_.step {ks EA ns:List IK}{k:IK}(o:j_ ks ns)(p:EA.Perm (if k∈ks then ks else k::ks)):j_ EA (ns++[k]):=by
 by_cases h:k∈ks
 ·rw[J6 h]at p;refine⟨p.nodup_iff.mpr o.1,λ x=>?_⟩;rw[p.mem_iff,o.2,B5,p7];exact⟨.inl,λ z=>z.elim id λ z=>by subst z;exact(o.2 _).mp h⟩
 ·rw[J7 h]at p;refine⟨p.nodup_iff.mpr (nodup_cons.mpr ⟨h,o.1⟩),λ x=>?_⟩;rw[p.mem_iff,D1,o.2,B5,p7];exact⟨λ z=>z.symm,λ z=>z.symm⟩
theorem j_.cI {ks ns:List IK}(o:j_ ks ns):ks.length<=ns.length:=List.Nodup.length_le_of_subset o.1 λ k h=>(o.2 k).mp h
section
variable {prog:Program}{w:World}
theorem SetT.move {us:List Value}{h0 h h':Heap}{a:Addr}{led:Bool}{ks:List IK}(S:SetT prog w us h a led ks)(qa:∀o,h.get? a=some o->h'.get? a=some o)(q1:∀b o,h0.get? b=some o->h.get? b=some o)(q2:∀b o,h0.get? b=some o->h'.get? b=some o) (U:∀v∈us,∃k b,v=.ref b/\(aQ prog w).is h0 k b):SetT prog w us h' a led ks:=by obtain⟨es,ep,t,e,⟨l,en⟩,nd,T,hl,R,uu⟩:=S;refine⟨es,ep,t,qa _ e,⟨l,λ i k hk=>?_⟩,nd,T,hl,R,uu⟩;obtain⟨b,e1,e2⟩:=en i k hk;have mem:(d_ k,Value.ref b)∈es.toList:=k9 (by rw[k4];exact e1);obtain⟨k',b',eb,JN⟩:=U _ (uu _ mem);cases eb;have h1:=hG (λ b o _ z=>q1 b o z) JN;have:=rN k k' e2.2 h1.2;subst this;exact⟨b,e1,hG (λ b o _ z=>q2 b o z) JN⟩
variable {A:Around}{I:Addr}{fp wr:List Addr}{G:Array GenState->Array GenState->Prop}{P:Nat->Value->Prop}{St:Nat->Shared->Prop}
theorem Aa{R:Result->Shared->Prop}{ns:List IK}{us:List Value}{h0:Heap}(W:WalksS prog w A.in1 I fp wr G ns.length P St)(S:Addr)(hS:S∉fp)(led:Bool)(hu:A.units+9 < cLine) (val:∀i v,P i v->∃(k:IK) (b:Addr),ns[i]?=some k/\v=.ref b/\v∈us/\(aQ prog w).is h0 k b) (U:∀v∈us,∃k b,v=.ref b/\(aQ prog w).is h0 k b) (apart:∀b o,h0.get? b=some o->b≠S/\b∉wr) (cI:ns.length<=76):∀(m i:Nat) (s:Shared) (ks:List IK),m+i=ns.length->St i s->(∀b o,h0.get? b=some o->s.heap.get? b=some o)->SetT prog w us s.heap S led ks->j_ ks (ns.take i)-> (∀s' EA,Moved (S::wr) G s s'->SetT prog w us s'.heap S led EA->j_ EA ns->R (.ok (.ret .none)) s')->
  codeAny (model prog w) A (.builtin "set.update.loop" ⟨[.ref S,.ref I],[]⟩) R s:=by
 have hw:S∉wr:=λ z=>hS (W.sub _ z);have sub:∀b∈wr,b∈S::wr:=λ b z=>k8 _ z;intro m
 induction m with
 |zero=>
  intro i s ks e st q0 hZ ho hR;have e:i=ns.length:=by omega
  subst e;refine B2 F.entry_set_update_loop ?_;rw[l5 F.plain_set_update_loop _];show wpAny _ A.in1 (pyNext (.ref I) >>= _) _ _ s;refine G9 (W.done s _ _ st λ s' mv=>?_);rw[y4]at ho;exact H9 (hR s' ks (mv.mono sub) (hZ.move (λ o z=>mv.heap S o hw z) q0 (λ b o z=>mv.heap b o (apart b o z).2 (q0 b o z)) U) ho)
 |succ m ih=>
  intro i s ks e st q0 hZ ho hR;refine B2 F.entry_set_update_loop ?_;rw[l5 F.plain_set_update_loop _];show wpAny _ A.in1 (pyNext (.ref I) >>= _) _ _ s;refine G9 (W.item i s _ _ (by omega) st λ v s' hP jj mv=>?_);obtain⟨k,b,hk,rfl,hb,tr⟩:=val i v hP;have q1:∀b o,h0.get? b=some o->s'.heap.get? b=some o:=λ b o z=>mv.heap b o (apart b o z).2 (q0 b o z);have YZ:SetT prog w us s'.heap S led ks:=hZ.move (λ o z=>mv.heap S o hw z) q0 q1 U;have lk:ks.length < 76:=by have:=ho.cI;rw[y8]at this;omega
  have TN:=hG (λ b o _ z=>q1 b o z) tr;show wpAny _ A.in1 (holding [Value.ref b] (setAdd S (.ref b)) >>= _) _ _ s';refine G9 (C6 ?_);unfold setAdd;have d5:k.dep<=5:=TN.1;refine C6 (G9 (yP 5 k d5 (show A.units+1+k.dep < cLine by omega) TN.2 ?_));refine vg (s:={s' with toks:=s'.toks+Be k}) YZ hb lk TN (show A.units+1+8 < cLine by omega) λ z h' EA sb fm To pm=>?_;have Ph:j_ EA (ns.take (i+1)):=by rw[take_add_one,hk];exact ho.step pm
  refine H9 ⟨plainId_quiet F.plain_set_update_loop _,ih (i+1) _ EA (by omega) (W.frame _ s' _ _ jj (z9 _ _) λ b hb o z=>?_) (λ b o z=>fm b o (apart b o z).1 (q1 b o z)) To Ph λ s2 N3 X4 YY Td=>?_⟩
  ·rw[sb.2 b λ z2:b=S=>hS (by rw[<- z2];exact hb)];exact z
  ·refine hR s2 N3 (Moved.trans W.gtrans ((mv.mono sub).then_heap (z9 _ _) λ b o hb z=>?_) X4) YY Td;rw[sb.2 b λ z2:b=S=>hb (by rw[z2];exact n6)];exact z
end
section
variable {prog:Program}{w:World}{A:Around}{E:Value->Shared->Prop}{s:Shared}
theorem xo{l:Addr}{items:Array Value}{ns:List IK}{Q:Value->Shared->Prop}(hh:A.handled=none)(hu:A.units+64 < cLine)(hl:s.heap.IsList l items)(len:items.size=ns.length) (hi:∀(i:Nat) (v:Value),items[i]?=some v->∃(k:IK) (b:Addr),ns[i]?=some k/\v=.ref b/\(aQ prog w).is s.heap k b) (cI:ns.length<=76) (h:∀(h':Heap) (tk:Nat) (ks:List IK),SetT prog w items.toList h' s.heap.objs.size (!vb w) ks->j_ ks ns->(∀b o,s.heap.get? b=some o->h'.get? b=some o)->Q (.ref s.heap.objs.size) {s with heap:=h',toks:=tk}):wpAny (model prog w) A (call (.type "set") [.ref l]) Q E s:=by
 refine xm (Q₁:=λ obj s₁=>obj=.ref s.heap.objs.size/\s₁={s with heap:=s.heap.push (fh w)}) F.called_set (F.typeCall_set_1 _) F.entry_set_init (Jm _ ⟨rfl,rfl⟩) λ obj s₁ h₁=>?_;obtain⟨rfl,rfl⟩:=h₁;have hS:(s.heap.push (fh w)).get? s.heap.objs.size=some (fh w):=m8 _ rfl;obtain⟨ol,Pg,vB,nl,Pn⟩:=hl;obtain⟨XY,Wh,Wi,Uy⟩:=ol;simp only at vB Pn;subst vB;subst Pn;have Vc:=j4 (fh w) Pg;have WK:l < s.heap.objs.size:=D5 Pg;have Yr:=F.sub_list_set;have Ys:=F.sub_list_frozenset;have eZ:(Value.type "list"==Value.type "dict")=false:=by decide
 have WL:(s.heap.push (fh w)).IsList l items:=⟨_,Vc,rfl,nl,rfl⟩;have hT:Shared.TypeIs {s with heap:=s.heap.push (fh w)} (.ref s.heap.objs.size) "set":=⟨_,hS,rfl⟩;refine⟨hT,check_set_init_1 hT ?_⟩;unfold Builtin.«set.__init__» noKeywords Builtin.Frozenset.updateFrom;generalize Y4:pyIter=PI
 wp_walk
 subst Y4;refine wpAny_pyIter_list WL (G9 (wpAny_runValue ?_));have ne1:l≠(s.heap.push (fh w)).objs.size:=by rw[C4];exact D4 (x8 WK)
 have nf:s.heap.objs.size∉[(s.heap.push (fh w)).objs.size,l]:=by rw[C4];simp only[D1,not_mem_nil,or_false,not_or];exact⟨D4 (Nat.lt_succ_self _),G0 WK⟩
 have W:=(Walks.list (prog:=prog) (w:=w) (A:=A.in1.in1.in1) (by simpa using hh) (s.heap.push (fh w)).objs.size l ne1 items).toS;rw[len]at W;refine Aa (us:=items.toList) (h0:=s.heap) W s.heap.objs.size nf (!vb w) (show A.units+1+1+9 < cLine by omega) (λ i v hv=>?_) (λ v hv=>?_) (λ b o z=>?_) cI ns.length 0 _ [] (by omega) ⟨⟨_,m8 _ rfl,rfl,rfl⟩,WL.push _⟩ (λ b o z=>j4 _ (j4 _ z))
  ⟨#[],0,_,j4 _ hS,⟨rfl,λ i k hk=>by cases hk⟩,nodup_nil,Ag 0 0 _,rfl,λ i j h' _ hh=>(by cases hh),λ e z=>(by cases z)⟩ ⟨nodup_nil,λ k=>by simp⟩ λ s' ks mv hZ ho=>?_
 ·obtain⟨k,b,h1,h2,h3⟩:=hi i v hv;exact⟨k,b,h1,h2,k9 (by rw[k4];exact hv),h3⟩
 ·obtain⟨i,Bk⟩:=getElem?_of_mem hv;rw[k4]at Bk;obtain⟨k,b,_,h2,h3⟩:=hi i v Bk;exact⟨k,b,h2,h3⟩
 ·have lt:=D5 z;refine⟨D4 lt,?_⟩;rw[C4];simp only[D1,not_mem_nil,or_false];exact D4 (x8 lt)
 ·obtain⟨h',g',d',Xz,Uz⟩:=s';have eg:g'=s.gens:=mv.gens;have ed:d'=s.drawn:=mv.drawn;have eo:Uz=s.os:=mv.os;subst eg;subst ed;subst eo;refine H9 (H9 ⟨rfl,h h' Xz ks hZ ho λ b o z=>?_⟩);have lt:=D5 z;refine mv.heap b o ?_ (j4 _ (j4 _ z));rw[C4];simp only[D1,not_mem_nil,or_false,not_or];exact⟨D4 lt,D4 (x8 lt)⟩
end
end L2
namespace L5
open PySem PySem.W PySem.Calls PyProof.Rows
section
variable {prog:Program}{w:World}{A:Around}{E:Value->Shared->Prop}{s:Shared}
theorem Ew{α:Type}{κ:SortKind}{n:Nat}{lt:Nat->Nat->Bool}{ks:List Value}{Q:α->Shared->Prop}(hc:∀i j C,i < n->j < n->C (lt i j) s->wpAny (model prog w) A (keyLt' κ (ks.getD i Value.none) (ks.getD j Value.none)) C (λ _ _=>False) s):∀(t:KasT α),kw n lt t (λ a=>Q a s)->t.kasWp (kas_ask prog w A κ ks) Q s
 | .ret a,h=>h
 | .ask i j f,h=>hc i j _ h.1 h.2.1 (Ew hc (f (lt i j)) h.2.2)
theorem rG{a:Addr}{vs:List Value}{n:Nat}{κ:SortKind}{lt:Nat->Nat->Bool}{P:PySem.Fin->Shared->Prop}(O:Ord lt)(ho:s.heap.get? a=some (seqObj "list" vs.toArray n))(JQ:vs.length < 64)
  (Fb:∀s':Shared,(∀b o,b≠a->s.heap.get? b=some o->s'.heap.get? b=some o)->2<=vs.length->∀C:SortKind->Shared->Prop,C κ s'->wpAny (model prog w) A (keyKind' vs.toArray) C E s')
  (hc:∀s':Shared,(∀b o,b≠a->s.heap.get? b=some o->s'.heap.get? b=some o)->∀i j (C:Bool->Shared->Prop),i < vs.length->j < vs.length->C (lt i j) s'->wpAny (model prog w) A (keyLt' κ (vs.getD i Value.none) (vs.getD j Value.none)) C (λ _ _=>False) s')
  (h:∀out,Out lt vs Value.none out->P (.done (.ret .none)) {s with heap:=sortedHeap s.heap a vs (List.toArray out)}):
  wpAny (model prog w) A (Builtin.«list.sort» ⟨[.ref a],[]⟩) P E s:=by
 have s1:=l7 s.heap a (Obj.mapSeq λ _=>(#[]:Array Value));obtain⟨e1,WC⟩:∃e1,(s.heap.update a (Obj.mapSeq λ _=>(#[]:Array Value))).get? a=some (seqObj "list" #[] e1):=⟨_,get?_update_seq ho λ _=>#[]⟩;have Td:(((s.heap.update a (Obj.mapSeq λ _=>(#[]:Array Value))).push (seqObj "tuple" vs.toArray 0)).push (seqObj "list" #[] 0)).get? a=some (seqObj "list" #[] e1):=j4 _ (j4 _ WC);have keep:∀b o,b≠a->s.heap.get? b=some o->(((s.heap.update a (Obj.mapSeq λ _=>(#[]:Array Value))).push (seqObj "tuple" vs.toArray 0)).push (seqObj "list" #[] 0)).get? b=some o:=λ b o ne z=>j4 _ (j4 _ ((s1.2 b ne).trans z));rw[list_sort_plain];refine G9 (listItems_at ho rfl ?_);refine G9 (listUpdate_at ho rfl ?_ (by rw[x5,G6];omega) (G7 _));refine G9 (seqEpoch_at WC rfl ?_);refine G9 (wpAny_newTuple ?_ (by show vs.length<=_;rw[G6];omega));refine G9 (wpAny_newList ?_ (G7 _));refine C6 ?_;show wpAny (model prog w) A _ P E {s with heap:=((s.heap.update a (Obj.mapSeq λ _=>(#[]:Array Value))).push (seqObj "tuple" vs.toArray 0)).push (seqObj "list" #[] 0)};dsimp only;have fin:∀(jj:SortSt) (out:List Value),(arrOf jj).map (·.2)=List.toArray out->failedOf jj=none->out.length=vs.length->Out lt vs Value.none out->wpAny (model prog w) A (do
   let touched:=(<- seqEpoch a) != e1
   Builtin.List.listUpdate (.ref a) λ _=>(arrOf jj).map (·.2)
   if let some e:=failedOf jj then rule "list.sort.comparison-raised";throw e
   if touched then rule "list.sort.modified";raiseError "ValueError" "list modified during sort"
   ret .none) P E {s with heap:=((s.heap.update a (Obj.mapSeq λ _=>(#[]:Array Value))).push (seqObj "tuple" vs.toArray 0)).push (seqObj "list" #[] 0)}:=λ jj out e hf hl hO=>by
  rw[e];refine G9 (seqEpoch_at Td rfl ?_);refine G9 (listUpdate_at Td rfl ?_ (G7 _) (by rw[x5,hl,G6];omega));rw[hf];simp only[bne_self_eq_false,o7,J3];exact H9 (h out hO)
 by_cases h2:vs.length < 2
 ·have z2:vs.toArray.size < 2:=by rw[x5];exact h2
  rw[J6 z2,J6 z2];refine G9 (H9 (G9 ?_));rw[StateT.run_pure];refine H9 ?_;refine fin (SortSt.mk' general' (vs.toArray.zip vs.toArray) #[] 7 none) vs ?_ rfl rfl (IT O _ h2);show(vs.toArray.zip vs.toArray).map (·.2)=_;apply Array.toList_inj.mp;simp;exact map_snd_zip (by omega)
 ·have z2:¬vs.toArray.size < 2:=by rw[x5];exact h2
  rw[J7 z2,J7 z2];refine G9 (Fb _ keep (by omega) _ ?_);refine G9 (J1 (kat_run (Q:=λ jj s'=>s'={s with heap:=((s.heap.update a (Obj.mapSeq λ _=>(#[]:Array Value))).push (seqObj "tuple" vs.toArray 0)).push (seqObj "list" #[] 0)}/\∃p:Array Nat,p.size=vs.length/\arrOf jj=p.map (kas_item (vs.toArray.zip vs.toArray))/\failedOf jj=none/\Pm vs.length p/\Up lt p vs.length)
   (G:=λ p s'=>s'={s with heap:=((s.heap.update a (Obj.mapSeq λ _=>(#[]:Array Value))).push (seqObj "tuple" vs.toArray 0)).push (seqObj "list" #[] 0)}/\Pm vs.length p/\Up lt p vs.length) rfl (by omega) JQ (λ p jj s' a1 a2 a3 a4=>⟨a4.1,p,a1,a2,a3,a4.2⟩) (Ew (hc _ keep) _ (Jx O (by omega) λ p p1 p2=>⟨rfl,p1,p2⟩))) ?_ λ _ _ x=>x)
  rintro⟨⟨⟩,jj⟩ s' ⟨rfl,p,hp,YX,hf,p1,p2⟩;dsimp only;exact fin jj _ (kat_snds rfl YX) hf (by rw[B4,m7,hp]) ⟨p,p1,p2,rfl⟩
end
end L5
namespace L2
open PySem PySem.W PySem.Calls PyProof.Rows L5
open HT (lexLt eR)
section
variable {prog:Program}{w:World}{A:Around}{E:Value->Shared->Prop}{s:Shared}
theorem um{fin:Bool}{Q:Bool->Shared->Prop}:∀{xs ys:List Value} {ns ms:List Int} {i:Nat},IntsAre xs ns->IntsAre ys ms->fin=decide (ns.length < ms.length)->Q (lexLt ns ms) s->KatLex prog w A true fin Q (xs.zip ys) i s
 |_,_,_,_,_,.nil,.nil,hf,h=>by subst hf;exact kat_nil h
 |_,_,_,_,_,.nil,.cons _ _ _,hf,h=>by subst hf;exact kat_nil h
 |_,_,_,_,_,.cons _ _ _,.nil,hf,h=>by subst hf;exact kat_nil h
 |_,_,_,_,i,.cons x tx hx,.cons y ty hy,hf,h=>by
  rw[zip_cons_cons];refine kat_cons (SeqAt.EqAt.int_int x tx y ty prog w _ _ ?_);unfold HT.lexLt at h;by_cases e:x=y
  ·rw[J6 e]at h;rw[show(x==y)=true by simp[e]];refine kat_yes (um hx hy ?_ h);rw[hf];simp
  ·rw[J7 e]at h;rw[show(x==y)=false by simp[e]];refine kat_no ?_;cases i with
   |zero=>exact oneLt_int h
   |succ i=>exact kat_one _ _ (lt_int h)
end
end L2
namespace L2
open PySem PySem.Spec PySem.W PySem.Calls PyProof.Rows L5
open HT (lexLt eR)
def mj(r:List Int):IK:=.t (r.map .i)
theorem JH{a b:List Int}(h:mj a=mj b):a=b:=by unfold mj at h;have h:=IK.t.inj h;exact List.map_inj_right (λ x y z=>IK.i.inj z) |>.mp h
theorem yN:∀r:List Int,IK.ja (r.map .i)=0
 |[]=>rfl
 |a::r=>by show max (IK.dep (.i a)) (IK.ja (r.map .i))=0;rw[yN r];rfl
theorem yQ(r:List Int):(mj r).dep<=5:=by unfold mj IK.dep;rw[yN];decide
theorem yG{K:J8}{H:Hp}:∀r:List Int,gO K H (r.map .i) (r.map V.int)
 |[]=>by unfold gO;rfl
 |a::r=>by unfold gO;exact⟨_,_,rfl,by unfold fG;exact .inl rfl,yG r⟩
theorem Ez{K:J8}{H:Hp}{p:Addr}{r:List Int}(h:fJ K H p (r.map V.int)):fG K H (mj r) (.ref p):=by unfold mj fG;exact⟨p,_,rfl,h,yG r⟩
theorem Jr(key:Nat->List Int):Ord λ i j=>lexLt (key i) (key j):=⟨λ a b h=>uh _ _ h,λ a b c h g=>Ep _ _ _ h g⟩
theorem wQ{α:Type}(l:List α)(d:α):(List.range l.length).map (λ i=>l.getD i d)=l:=by refine ext_getElem (by simp) λ i h1 h2=>?_;simp[h2]
section
variable {X:Cx}{pins:List (Addr×Obj)}{σ:St}{H:Hp}{s:Shared}
abbrev qH(X:Cx)(H:Hp)(q:Addr)(r:List Int):Prop:=r≠[]/\fJ X.K H q (r.map V.int)
noncomputable def N8 (prog:Program)(w:World)(h:Heap)(e:Int×Value):IK:=@Classical.epsilon IK ⟨.i 0⟩ λ k=>∃b,e.2=.ref b/\(aQ prog w).is h k b
theorem yI{h:Heap}{e:Int×Value}{k:IK}{b:Addr}(e1:e.2=.ref b)(e2:(aQ X.prog X.w).is h k b):N8 X.prog X.w h e=k:=by have:=@Classical.epsilon_spec IK (λ k=>∃b,e.2=.ref b/\(aQ X.prog X.w).is h k b) ⟨k,b,e1,e2⟩;obtain⟨b',z1,z2⟩:=this;rw[e1]at z1;cases z1;exact rN _ _ z2.2 e2.2
theorem xW(I:Inv X pins σ H s){us:List Value}(U:∀v∈us,∃q r,v=.ref q/\qH X H q r):∀(l:List (Int×Value)),(∀e∈l,e.2∈us)->
  ∃(qs:List Addr) (rs:List (List Int)),l.map (·.2)=qs.map Value.ref/\qs.length=rs.length/\(∀(i:Nat) q r,qs[i]?=some q->rs[i]?=some r->qH X H q r)/\l.map (N8 X.prog X.w s.heap)=rs.map mj
 |[],_=>⟨[],[],rfl,rfl,λ i q r h=>(by cases h),rfl⟩
 |e::l,h=>by
  obtain⟨qs,rs,a,b,c,d⟩:=xW I U l λ e he=>h e (k8 _ he);obtain⟨q,r,e1,e2⟩:=U _ (h e n6);refine⟨q::qs,r::rs,by rw[C9,C9,a,e1],by simp[b],λ i q' r' h1 h2=>?_,?_⟩
  ·cases i with
   |zero=>cases h1;cases h2;exact e2
   |succ i=>exact c i q' r' (by simpa using h1) (by simpa using h2)
  ·rw[C9,C9,d,yI e1 (k:=mj r) ⟨yQ r,jM I (mj r) (Ez e2.2) rfl⟩]
theorem tG(hc:X.calm=true){S:Addr}{us:List Value}{ks:List IK}{Q:VK}(I:Inv X pins σ H s)(hZ:SetT X.prog X.w us s.heap S (!vb X.w) ks)(U:∀v∈us,∃q r,v=.ref q/\qH X H q r)(JQ:ks.length < 64) (q:∀(qs:List Addr) (rs:List (List Int)) (p:Addr),qs.length=rs.length->(∀(i:Nat) q r,qs[i]?=some q->rs[i]?=some r->qH X H q r)->(rs.map mj).Perm ks->H p=none->Q (.ref p) (upd H p (.lst (qs.map V.ref)))):wpAny (model X.prog X.w) X.A (call (.builtin "sorted") [.ref S]) (EP X pins σ Q) X.xe s:=by
 obtain⟨es,ep,t,ho,En,nd,T,hl,R,uu⟩:=hZ;have sz:=En.1;refine call_function_entry kind_sorted plain_sorted entry_sorted (args_sorted1 _) ?_;unfold Builtin.«sorted»;refine G9 (m:=checkCount "sorted" 1 1 _) (H9 (G9 (kdu_collect (A:=X.A.in1) (Hg (ep:=ep) T hl) (show X.A.in1.handled=none from I.ok.hd hc) ho (by rw[G6];omega) λ h' tk acc Vm lI=>?_)));have pw:=mN X.w S ep es;generalize hW:gb X.w S ep es=os at pw lI;have Lb:acc.toList=os.toList.map (·.2):=by
  have l2:os.toList.length=es.size:=by rw[pw.length_eq,m7]
  refine x6 λ j=>?_;rw[s9];by_cases z:j < es.size
  ·have lt:j < acc.size:=by rw[lI.1];exact z
   obtain⟨e,e1,e2⟩:=lI.2 j _ (g0 lt);rw[k4,k4,g0 lt,e1,<- e2];rfl
  ·rw[k7 (by rw[m7,lI.1];omega),k7 (by omega)];rfl
 obtain⟨qs,rs,a1,a2,a3,a4⟩:=xW I U os.toList λ e he=>uu e (pw.mem_iff.mp he);have kk:es.toList.map (N8 X.prog X.w s.heap)=ks:=by
  refine x6 λ i=>?_;rw[s9,k4];by_cases z:i < ks.length
  ·obtain⟨c,c1,c2⟩:=En.2 i _ (i5 z);rw[c1,i5 z];exact J4 some (yI rfl c2)
  ·rw[k7 (by omega),j3 (by omega)];rfl
 have pk:(rs.map mj).Perm ks:=by rw[<- a4,<- kk];exact pw.map _
 rw[a1]at Lb;have qn:qs.length=ks.length:=by rw[a2,<- B4 (f:=mj),pk.length_eq]
 rw[Lb];have I0:Inv X pins σ H {s with heap:=h',toks:=tk}:=I.kept (t':=tk) Vm;refine G9 (wpAny_newList ?_ (by rw[B4,G6];omega));have JM:(h'.push (seqObj "list" (qs.map Value.ref).toArray 0)).get? h'.objs.size=some (seqObj "list" (qs.map Value.ref).toArray 0):=m8 _ rfl;have tup:∀i,i < qs.length->∃(o:Obj) (ax:List Value) (n:Nat),(qs.map Value.ref).getD i Value.none=.ref (qs.getD i 0)/\h'.get? (qs.getD i 0)=some o/\o.cls=.type "tuple"/\o.data=.seq ax.toArray n/\IntsAre ax (rs.getD i [])/\rs.getD i []≠[]:=λ i hi=>by
  have Vo:i < rs.length:=by omega
  have:=a3 i _ _ (i5 hi) (i5 Vo);obtain⟨ax,rv,⟨o,e1,e2,n,e3⟩,_⟩:=I0.tuple this.2;refine⟨o,ax,n,?_,?_,e2,e3,?_,?_⟩
  ·simp[c8,hi]
  ·rw[show qs.getD i 0=qs[i] by simp[c8,hi]];exact e1
  ·rw[show rs.getD i []=rs[i] by simp[c8,Vo]];exact nV rv
  ·rw[show rs.getD i []=rs[i] by simp[c8,Vo]];exact this.1
 have stays:∀{s':Shared},(∀b o,b≠h'.objs.size->(h'.push (seqObj "list" (qs.map Value.ref).toArray 0)).get? b=some o->s'.heap.get? b=some o)->∀i,i < qs.length->∃(o:Obj) (ax:List Value) (n:Nat),(qs.map Value.ref).getD i Value.none=.ref (qs.getD i 0)/\s'.heap.get? (qs.getD i 0)=some o/\o.cls=.type "tuple"/\o.data=.seq ax.toArray n/\IntsAre ax (rs.getD i [])/\rs.getD i []≠[]:=λ{s'} kp i hi=>by obtain⟨o,ax,n,b1,b2,b3⟩:=tup i hi;exact⟨o,ax,n,b1,kp _ o (D4 (D5 b2)) (j4 _ b2),b3⟩
 refine G9 (C6 (y6 slot_list_sort ⟨_,JM,rfl⟩ entry_list_sort (rG (κ:=tuples' true) (Jr λ i=>rs.getD i []) JM (by rw[B4];omega) (λ s' kp h2 C hC=>?_) (λ s' kp i j C hi hj hC=>?_) λ out hO=>⟨_,rfl,?_⟩) (args_list_sort _)))
 ·have km:∀(n:Nat),n<=qs.length->∃fs,KatTups s'.heap ((qs.drop (qs.length - n)).map Value.ref) fs/\fs.length=n/\∀v∈fs,∃i t,v=Value.int i t:=λ n=>by
   induction n with
   |zero=>intro _;rw[Nat.sub_zero,drop_length];exact⟨[],KatTups.nil,rfl,λ v hv=>by cases hv⟩
   |succ n ih=>
    intro hn;obtain⟨fs,f1,f2,f3⟩:=ih (by omega);have lt:qs.length - (n+1) < qs.length:=by omega
    obtain⟨o,ax,m,b1,b2,b3,b4,b5,b6⟩:=stays kp _ lt;have eq:qs.drop (qs.length - (n+1))=qs.getD (qs.length - (n+1)) 0::qs.drop (qs.length - n):=by rw[drop_eq_getElem_cons lt,show qs.length - (n+1)+1=qs.length - n by omega];simp[c8,lt]
    rw[eq,C9];generalize rs.getD (qs.length - (n+1)) []=r at b5 b6;cases b5 with
    |nil=>exact absurd rfl b6
    |cons x tx hx=>
     refine⟨_::fs,KatTups.cons b2 b3 b4 (by simp;rfl) f1,by simp[f2],λ v hv=>?_⟩;rcases D1.mp hv with rfl|hv
     ·exact⟨x,tx,rfl⟩
     ·exact f3 v hv
  obtain⟨fs,t1,t2,t3⟩:=km qs.length (G5 _);rw[Nat.sub_self,drop_zero]at t1;rw[B4]at h2;refine kat_kind (T:=.type "int") t1 (by omega) (λ v hv=>?_) rfl hC;obtain⟨i,t,rfl⟩:=t3 v hv;exact(show Looks _ s'.heap (pure (Value.type "int")) _ from .now)
 ·rw[B4]at hi hj;obtain⟨o,ax,n,b1,b2,b3,b4,b5,b6⟩:=stays kp i hi;obtain⟨o',its',n',c1,c2,c3,c4,c5,c6⟩:=stays kp j hj;rw[b1,c1];refine kat_lt b2 b4 c2 c4 ?_;refine um b5 c5 ?_ hC;rw[x5,x5,IntsAre.length b5,IntsAre.length c5]
 ·refine H9 ⟨_,rfl,?_⟩;obtain⟨c,La⟩:=sortedHeap_at (out:=out.toArray) JM;obtain⟨pp,p1,_,p3⟩:=hO;rw[B4]at p1;have pm:pp.toList.Perm (List.range qs.length):=by have:=p1;unfold Pm at this;simpa using Array.Perm.toList this
  have below:∀i∈pp.toList,i < qs.length:=λ i hi=>mem_range.mp (pm.mem_iff.mp hi);have eo:out=(pp.toList.map λ i=>qs.getD i 0).map Value.ref:=by rw[p3,D7];refine map_congr_left λ i hi=>?_;have:=below i hi;simp[c8,this]
  have kp:∀b o,h'.get? b=some o->(sortedHeap (h'.push (seqObj "list" (qs.map Value.ref).toArray 0)) h'.objs.size (qs.map Value.ref) out.toArray).get? b=some o:=λ b o e=>by rw[sortedHeap_old (D4 (D5 e)) (by rw[size_push'];exact x8 (D5 e))];exact j4 _ e
  have ln:(pp.toList.map λ i=>qs.getD i 0).length=qs.length:=by rw[B4,pm.length_eq,x3]
  refine⟨.ref h'.objs.size,_,I0.laid (t':=tk) kp (G5 _) (show bq X.prog X.w _ _ _ (.lst ((pp.toList.map λ i=>qs.getD i 0).map V.ref))from⟨by rw[B4,ln,G6];omega,out,c,by rw[eo];exact pK _,La⟩),rfl,q (pp.toList.map λ i=>qs.getD i 0) (pp.toList.map λ i=>rs.getD i []) _ (by simp) (λ i q' r' g1 g2=>?_) ?_ (I0.bh.fresh (G5 _))⟩
  ·rw[s9]at g1 g2;obtain⟨x,x1,x2⟩:=Option.map_eq_some_iff.mp g1;rw[x1]at g2;have:=below x (k9 x1);have h2:x < rs.length:=by omega
   refine a3 x q' r' ?_ ?_
   ·rw[i5 this,<- x2];simp[c8,this]
   ·rw[i5 h2,<- A9 g2];simp[c8,h2]
  ·refine(List.Perm.map mj ?_).trans pk;have:=pm.map λ i=>rs.getD i [];rw[a2,wQ rs []]at this;exact this
end
end L2
namespace L2
open PySem PySem.Spec PySem.W PySem.Calls PyProof.Rows L5
section
variable {X:Cx}{e1:Expr}{ta:TA}{p p2 pos cW:Pos}
def PQ(X:Cx)(ta:TA):TE:=λ σ H Q=>ta σ H λ vs H1=>∃(l:Addr) (ps:List Addr) (rows:List (List Int)),vs=[.ref l]/\eW X.K H1 l (ps.map V.ref)/\ps.length=rows.length/\(∀(i:Nat) p r,ps[i]?=some p->rows[i]?=some r->qH X H1 p r)/\rows.length < 64/\
 ∀(qs:List Addr) (rs:List (List Int)) (p:Addr),qs.length=rs.length->(∀(i:Nat) q r,qs[i]?=some q->rs[i]?=some r->qH X H1 q r)->rs.Nodup->(∀r,r∈rs↔r∈rows)->H1 p=none->Q (.ref p) (upd H1 p (.lst (qs.map V.ref)))
theorem II(hc:X.calm=true)(hu:X.A.units+64 < cLine)(hg:Gl X "sorted")(hm:X.mg "sorted"=none)(Fe:Gl X "set")(EZ:X.mg "set"=none)(ha:PA X [e1] ta) (hs:starEach [e1] X.env=(false,eval e1 X.env)::starEach [] X.env:=by rfl) (he:starEach [.Call (.Name "set" p2) [e1] [] cW] X.env=(false,eval (.Call (.Name "set" p2) [e1] [] cW) X.env)::starEach [] X.env:=by rfl):PE X (.Call (.Name "sorted" p) [.Call (.Name "set" p2) [e1] [] cW] [] pos) (PQ X ta):=by
 intro pins s σ H Q I h;refine p8 (fj I hg hm (show bootBuiltins "sorted"=some (.builtin "sorted") by decide+kernel) ?_ (by decide) (by decide));refine PyProof.Rows.callWith_builtin1 ?_ he rfl;rw[he];show wpAny _ _ (spliced ((false,eval (.Call (.Name "set" p2) [e1] [] cW) X.env)::backTo pos (starEach [] X.env))) _ _ s;refine Calls.spliced_cons ?_;refine Call_ (fj I Fe EZ (show bootBuiltins "set"=some (.type "set") by decide+kernel) (a8 (cT (ha cW pins s σ H _ I h) λ us s1 ⟨vs,H1,I1,r1,q1⟩=>?_) hs (by rfl)));obtain⟨l,ps,rows,ev,hl,pl,row,cI,q⟩:=q1;subst ev;obtain⟨u1,rfl,rx⟩:=vals1 r1;cases(show u1=Value.ref l from rx);obtain⟨ax,r',Ux,hz⟩:=I1.list hl;have hits:=p_ _ r';subst hits;have tree:∀(i:Nat) (v:Value),(ps.map Value.ref).toArray[i]?=some v->∃(k:IK) (b:Addr),(rows.map mj)[i]?=some k/\v=.ref b/\(aQ X.prog X.w).is s1.heap k b:=λ i v hv=>by
  rw[getElem?_toArray,s9]at hv;obtain⟨b,b1,b2⟩:=Option.map_eq_some_iff.mp hv;have lt:=(g9.mp b1).1;have BJ:i < rows.length:=by omega
  have gD:=row i b _ b1 (i5 BJ);exact⟨mj rows[i],b,by rw[s9,i5 BJ];rfl,b2.symm,yQ _,jM I1 _ (Ez gD.2) rfl⟩
 refine xo (ns:=rows.map mj) (I1.ok.hd hc) hu Ux.isList (by simp[pl]) tree (by rw[B4];omega) λ h' tk ks hZ ho kp=>Calls.spliced_nil ?_;have I2:Inv X pins σ H1 {s1 with heap:=h',toks:=tk}:=I1.kept (t':=tk) kp;refine tG hc I2 hZ (λ v hv=>?_) (by have:=ho.cI;rw[B4]at this;omega) λ qs rs p' g1 g2 g3 g4=>q qs rs p' g1 g2 ?_ (λ r=>?_) g4
 ·have hv:v∈ps.map Value.ref:=by simpa using hv
  obtain⟨b,hb,rfl⟩:=D6.mp hv;obtain⟨i,hi⟩:=getElem?_of_mem hb;have lt:=(g9.mp hi).1;exact⟨b,rows[i]'(by omega),rfl,row i b _ hi (i5 (by omega))⟩
 ·have:(rs.map mj).Nodup:=g3.nodup_iff.mpr ho.1;exact(pairwise_map.mp this).imp λ z w=>z (by rw[w])
 ·have:mj r∈rs.map mj↔mj r∈rows.map mj:=g3.mem_iff.trans (ho.2 _);have inj:∀l:List (List Int),mj r∈l.map mj↔r∈l:=λ l=>⟨λ z=>by
   obtain⟨a,a1,a2⟩:=D6.mp z;rw[<- JH a2];exact a1,λ z=>D6.mpr ⟨r,z,rfl⟩⟩
  rw[inj,inj]at this;exact this
end
end L2
namespace L3
open PySem PySem.Spec PyProof.Rows L2 L5
abbrev cA(r:List Int):D:=.tup (r.map D.int)
section
variable {X:Cx}{e1:Expr}{ta:eO}{p p2 pos cW:Pos}
def CF(ta:eO):cu:=λ δ M Q=>ta δ M λ ds M1=>∃(l:Addr) (rows:List (List Int)),ds=[.ref l]/\M1 l=some (.lst (rows.map cA))/\(∀r∈rows,r≠[])/\rows.length < 64/\∀(rs:List (List Int)) (p:Addr),rs.Nodup->(∀r,r∈rs↔r∈rows)->M1 p=none->Q (.ref p) (ah M1 p (.lst (rs.map cA)))
theorem CS{K:J8}{H:Hp}:∀{rows:List (List Int)} {xv:List V},aA K H (rows.map cA) xv->∃ps:List Addr,xv=ps.map V.ref/\ps.length=rows.length/\∀(i:Nat) p r,ps[i]?=some p->rows[i]?=some r->fJ K H p (r.map V.int)
 |[],xv,h=>by cases(ao.mp h);exact⟨[],rfl,rfl,λ i p r z=>by cases z⟩
 |r::rows,xv,h=>by
  obtain⟨x,t,rfl,h1,h2⟩:=ag.mp h;obtain⟨ps,a,b,c⟩:=CS h2;obtain⟨p,xs,rfl,h3,h4⟩:=aU.mp h1;rw[jb h4]at h3;refine⟨p::ps,by rw[a];rfl,by simp[b],λ i p' r' z1 z2=>?_⟩;cases i with
  |zero=>cases z1;cases z2;exact h3
  |succ i=>exact c i p' r' (by simpa using z1) (by simpa using z2)
theorem Gh{K:J8}{H:Hp}:∀{rs:List (List Int)} {qs:List Addr},qs.length=rs.length->(∀(i:Nat) q r,qs[i]?=some q->rs[i]?=some r->fJ K H q (r.map V.int))->aA K H (rs.map cA) (qs.map V.ref)
 |[],[],_,_=>ao.mpr rfl
 |[],_::_,h,_=>by cases h
 |_::_,[],h,_=>by cases h
 |r::rs,q::qs,h,a=>ag.mpr ⟨_,_,rfl,aU.mpr ⟨q,_,rfl,a 0 q r rfl rfl,iB r⟩,Gh (Nat.succ.inj h) λ i q' r' z1 z2=>a (i+1) q' r' (by simpa using z1) (by simpa using z2)⟩
theorem MM(hc:X.calm=true)(hu:X.A.units+64 < cLine)(hg:Gl X "sorted")(hm:X.mg "sorted"=none)(Fe:Gl X "set")(EZ:X.mg "set"=none)(ha:QA X [e1] ta) (hs:starEach [e1] X.env=(false,eval e1 X.env)::starEach [] X.env:=by rfl) (he:starEach [.Call (.Name "set" p2) [e1] [] cW] X.env=(false,eval (.Call (.Name "set" p2) [e1] [] cW) X.env)::starEach [] X.env:=by rfl):QE X (.Call (.Name "sorted" p) [.Call (.Name "set" p2) [e1] [] cW] [] pos) (CF ta):=by refine bS (II hc hu hg hm Fe EZ ha hs he) ?_;rintro σ H Q ⟨δ,M,Q2,hs,hm,q,k⟩;refine⟨δ,M,_,hs,hm,q,λ vs H1 ds M1 hd bQ t1 ⟨l,rows,e,hM,ne,cI,q1⟩=>?_⟩;subst e;obtain⟨v1,r,rfl,Pb,hr⟩:=ag.mp hd;cases(ao.mp hr);cases(aE.mp Pb);obtain⟨xv,Vl,RJ⟩:=(show ∃xv,H1 l=some (.lst xv)/\aA X.K H1 (rows.map cA) xv from bQ l _ hM);have hl:eW X.K H1 l xv:=.inl (.inl Vl);obtain⟨ps,rfl,pl,pr⟩:=CS RJ;refine⟨l,ps,rows,rfl,hl,pl,λ i p r z1 z2=>⟨ne r (k9 z2),pr i p r z1 z2⟩,cI,λ qs rs p g1 g2 g3 g4 hp=>?_⟩;exact k _ _ (.ref p) _ (aE.mpr rfl) (dR hp (Gh g1 λ i q r z1 z2=>(g2 i q r z1 z2).2) bQ) (t1.trans (ar.laid hp)) (q1 rs p g3 g4 (bQ.free hp))
end
end L3
namespace L4
open PySem L2 L3
theorem Lw{X:Cx}{e1:Expr}{ta:eO}{p p2 pos cW:Pos}(hc:X.calm=true)(hu:X.A.units+64 < cLine)(hg:Gl X "sorted")(hm:X.mg "sorted"=none)(Fe:Gl X "set")(EZ:X.mg "set"=none)(ha:WA X [e1] ta) (hs:starEach [e1] X.env=(false,eval e1 X.env)::starEach [] X.env:=by rfl) (he:starEach [.Call (.Name "set" p2) [e1] [] cW] X.env=(false,eval (.Call (.Name "set" p2) [e1] [] cW) X.env)::starEach [] X.env:=by rfl):WE X (.Call (.Name "sorted" p) [.Call (.Name "set" p2) [e1] [] cW] [] pos) (CF ta):=⟨MM hc hu hg hm Fe EZ ha.h hs he⟩
theorem Hw{ta:eO}{δ:cS}{M:Mem}{Q:bK}(h:ta δ M λ ds M1=>∃(l:Addr) (rows:List (List Int)),ds=[.ref l]/\M1 l=some (.lst (rows.map cA))/\(∀r∈rows,r≠[])/\rows.length < 64/\∀(rs:List (List Int)) (p:Addr),rs.Nodup->(∀r,r∈rs↔r∈rows)->M1 p=none->Q (.ref p) (ah M1 p (.lst (rs.map cA)))):CF ta δ M Q:=h
end L4
namespace KK
open PySem L3 L4 L5
open L2 hiding aI fR
def cq(r:List Row)(ls:Row)(h:Nat):Nat->Nat->Nat->Prop
 |0,x,y=>gP ls x=gP ls y
 |t+1,x,y=>cq r ls h t x y/\∀i,i < h->cq r ls h t (a_ r i x) (a_ r i y)
section
variable {r:List Row}{ls:Row}{h m:Nat}
theorem mC:∀(t x:Nat),cq r ls h t x x
 |0,x=>rfl
 |t+1,x=>⟨mC t x,λ i _=>mC t _⟩
theorem jU:∀(t x y:Nat),cq r ls h t x y->cq r ls h t y x
 |0,x,y,e=>Eq.symm e
 |t+1,x,y,e=>⟨jU t x y e.1,λ i hi=>jU t _ _ (e.2 i hi)⟩
theorem eS:∀(t x y z:Nat),cq r ls h t x y->cq r ls h t y z->cq r ls h t x z
 |0,x,y,z,e,f=>Eq.trans e f
 |t+1,x,y,z,e,f=>⟨eS t x y z e.1 f.1,λ i hi=>eS t _ _ _ (e.2 i hi) (f.2 i hi)⟩
theorem FQ:∀(t x y:Nat),cq r ls h t x y->gP ls x=gP ls y
 |0,x,y,e=>e
 |t+1,x,y,e=>FQ t x y e.1
theorem zy{p q:Nat->Bool}:∀(l:List Nat),(∀x∈l,p x=true->q x=true)->l.countP p<=l.countP q
 |[],_=>G5 _
 |a::l,i=>by
  have ih:=zy l λ x hx=>i x (k8 _ hx);have ia:=i a n6;rw[countP_cons,countP_cons];cases pa:p a with
  |false=>simp only[o7,J3];omega
  |true=>rw[J6 rfl,J6 (ia pa)];omega
theorem zx{p q:Nat->Bool}:∀(l:List Nat),(∀x∈l,p x=true->q x=true)->(∃x∈l,p x=false/\q x=true)->l.countP p < l.countP q
 |[],_,⟨x,hx,_⟩=>by cases hx
 |a::l,i,⟨x,hx,px,qx⟩=>by
  have il:∀x∈l,p x=true->q x=true:=λ x hx=>i x (k8 _ hx);rw[countP_cons,countP_cons];rcases D1.mp hx with e|hx
  ·have:=zy l il;rw[<- e,px,qx,J6 rfl];simp only[o7,J3];omega
  ·have ih:=zx l il ⟨x,hx,px,qx⟩;have ia:=i a n6;cases pa:p a with
   |false=>simp only[o7,J3];omega
   |true=>rw[J6 rfl,J6 (ia pa)];omega
noncomputable def Rk (r:List Row)(ls:Row)(h t x:Nat):Bool:=@decide (∀y,y < x->¬cq r ls h t y x) (Classical.propDecidable _)
theorem jL{t x:Nat}:Rk r ls h t x=true↔∀y,y < x->¬cq r ls h t y x:=@decide_eq_true_iff _ (Classical.propDecidable _)
theorem ui{p:Nat->Prop}{n:Nat}(hn:p n):∃k,p k/\k<=n/\∀j,j < k->¬p j:=by
 induction n using Nat.strongRecOn with
 |_ n ih=>
  by_cases z:∃j,j < n/\p j
  ·obtain⟨j,hj,pj⟩:=z;obtain⟨k,a,b,c⟩:=ih j hj pj;exact⟨k,a,by omega,c⟩
  ·exact⟨n,hn,G5 _,λ j hj pj=>z ⟨j,hj,pj⟩⟩
def KD(r:List Row)(ls:Row)(h m t:Nat):Prop:=∀x y,x < m->y < m->cq r ls h t x y->cq r ls h (t+1) x y
theorem LJ(G:dC m h r){t:Nat}(s:KD r ls h m t):KD r ls h m (t+1):=λ x y hx hy e=>
 ⟨e,λ i hi=>s _ _ (G.gq.cl _ _ hi hx) (G.gq.cl _ _ hi hy) (e.2 i hi)⟩
theorem Cg(G:dC m h r){t:Nat}(s:KD r ls h m t):∀k,KD r ls h m (t+k)
 |0=>s
 |k+1=>LJ G (Cg G s k)
theorem Es{t:Nat}(n:¬KD r ls h m t):(List.range m).countP (Rk r ls h t) < (List.range m).countP (Rk r ls h (t+1)):=by
 refine zx _ (λ x _ hx=>jL.mpr λ y hy e=>jL.mp hx y hy e.1) ?_;obtain⟨x,y,hx,hy,e,ne⟩:∃x y,x < m/\y < m/\cq r ls h t x y/\¬cq r ls h (t+1) x y:=by refine Classical.byContradiction λ z=>n λ x y hx hy e=>Classical.byContradiction λ ne=>z ⟨x,y,hx,hy,e,ne⟩
 obtain⟨l,l1,l2,l3⟩:=ui (p:=λ l=>cq r ls h t l x) (n:=x) (mC t x);obtain⟨z,z1,z2,z3⟩:∃z,z < m/\cq r ls h t l z/\¬cq r ls h (t+1) l z:=by
  by_cases a:cq r ls h (t+1) l x
  ·refine⟨y,hy,eS t _ _ _ l1 e,λ b=>ne (eS _ _ _ _ (jU _ _ _ a) b)⟩
  ·exact⟨x,hx,l1,a⟩
 obtain⟨w,⟨w1,w2,w3⟩,w4,w5⟩:=ui (p:=λ z=>z < m/\cq r ls h t l z/\¬cq r ls h (t+1) l z) ⟨z1,z2,z3⟩;have lw:l < w:=by
  rcases Nat.lt_trichotomy l w with g|g|g
  ·exact g
  ·subst g;exact absurd (mC _ _) w3
  ·exact absurd (eS t _ _ _ (jU t _ _ w2) l1) (l3 w g)
 refine⟨w,mem_range.mpr w1,?_,jL.mpr λ y hy e2=>?_⟩
 ·rw[<- Bool.not_eq_true,jL];exact λ z=>z l lw w2
 ·exact w5 y hy ⟨by omega,eS t _ _ _ w2 (jU t _ _ e2.1),λ a=>w3 (eS _ _ _ _ a e2)⟩
theorem Cf(hm:0 < m):∀t:Nat,(∃s,s < t/\KD r ls h m s)\/t+1<=(List.range m).countP (Rk r ls h t)
 |0=>.inr (countP_pos_iff.mpr ⟨0,mem_range.mpr hm,jL.mpr λ y hy=>by omega⟩)
 |t+1=>by
  rcases Cf hm t with⟨s,hs,z⟩|z
  ·exact .inl ⟨s,by omega,z⟩
  ·by_cases g:KD r ls h m t
   ·exact .inl ⟨t,by omega,g⟩
   ·have:=Es g;exact .inr (by omega)
theorem Qa(G:dC m h r):KD r ls h m m:=by
 rcases Cf (r:=r) (ls:=ls) (h:=h) G.tb.pos m with⟨s,hs,z⟩|z
 ·have:=Cg G z (m - s)
  rwa [show s+(m - s)=m by omega]at this
 ·have:=countP_le_length (p:=Rk r ls h m) (l:=List.range m);rw[x3]at this;omega
theorem FP(G:dC m h r){i:Nat}(hi:i < h):∀(n x y:Nat),x < m->y < m->cq r ls h m x y->cq r ls h m (iq (a_ r i) n x) (iq (a_ r i) n y)
 |0,x,y,_,_,e=>e
 |n+1,x,y,hx,hy,e=>FP G hi n _ _ (G.gq.cl _ _ hi hx) (G.gq.cl _ _ hi hy) ((Qa G x y hx hy e).2 i hi)
theorem FR(G:dC m h r):∀(p:Cs) (i x y:Nat),i+p.length<=h->x < m->y < m->cq r ls h m x y->cq r ls h m (dj (a_ r) i x p) (dj (a_ r) i y p)
 |[],i,x,y,_,_,_,e=>e
 |c::p,i,x,y,hl,hx,hy,e=>by rw[y3]at hl;exact FR G p (i+1) _ _ (by omega) (G.gq.iq (by omega) c x hx) (G.gq.iq (by omega) c y hy) (FP G (by omega) c x y hx hy e)
theorem oA(G:dC m h r):∀(t x y:Nat),x < m->y < m->(∀q:Cs,q.length=h->¬jF r ls x y q)->cq r ls h t x y
 |0,x,y,hx,hy,a=>by have:=a (f_ h) (by unfold f_;simp);unfold jF at this;rw[jQ,jQ]at this;exact(Decidable.not_not.mp this:gP ls x=gP ls y)
 |t+1,x,y,hx,hy,a=>⟨oA G t x y hx hy a,λ i hi=>oA G t _ _ (G.gq.cl _ _ hi hx) (G.gq.cl _ _ hi hy) λ q hq pq=>by
  refine a (inc q i) (by rw[iu];exact hq) ?_;unfold jF at pq ⊢;rw[G.gq.Tr hi q 0 x (by omega) hx,G.gq.Tr hi q 0 y (by omega) hy]at pq
  rwa [G.gq.inc q 0 i x (by omega) (by omega) hx,G.gq.inc q 0 i y (by omega) (by omega) hy,E4]⟩
theorem OP(G:dC m h r){x y:Nat}(hx:x < m)(hy:y < m):cq r ls h m x y↔∀q:Cs,q.length=h->¬jF r ls x y q:=
 ⟨λ e q hq pq=>pq (FQ m _ _ (FR G q 0 x y (by omega) hx hy e)),oA G m x y hx hy⟩
end
section
variable {r:List Row}{ls:Row}{h m x y:Nat}{p:Cs}
theorem LP.fst (G:dC m h r)(hx:x < m)(hy:y < m)(a:LP h r ls x y p):iK (a_ r) 0 h p:=⟨a.len,λ q hq hA e=>a.low q hq hA ((kC G hx hy hq a.len e).mpr a.par)⟩
theorem LP.cI (G:dC m h r)(hx:x < m)(hy:y < m)(a:LP h r ls x y p):p.sum < m:=by
 have:=(a.fst G hx hy).cI G.gq G.tb.pos (U:=List.range m) (λ s hs=>mem_range.mpr hs)
 rwa [x3]at this
theorem nH{q:Cs}:jF r ls x y q↔jF r ls y x q:=⟨J5,J5⟩
theorem LP.symm (a:LP h r ls x y p):LP h r ls y x p:=⟨a.len,nH.mp a.par,λ q hq hA pq=>a.low q hq hA (nH.mp pq)⟩
theorem JI{α:Type}[DecidableEq α]{l:List α}{a b:α}(ha:a∈l)(hb:b∈l)(e:l.idxOf a=l.idxOf b):a=b:=by
 have i:=idxOf_lt_length_of_mem ha;have j:=idxOf_lt_length_of_mem hb;have f:l[l.idxOf a]?=some a:=by rw[i5 i,getElem_idxOf]
 have g:l[l.idxOf b]?=some b:=by rw[i5 j,getElem_idxOf]
 rw[e,g]at f;exact(A9 f).symm
def S8{α:Type}[DecidableEq α](l:List α)(a:α):Nat:=l.idxOf a
theorem JB{α:Type}[DecidableEq α]{l:List α}{a b:α}(ha:a∈l)(hb:b∈l):S8 l a=S8 l b↔a=b:=⟨JI ha hb,λ e=>J4 _ e⟩
def gI(r:List Row)(h:Nat)(f:Nat->Nat)(x:Nat):List Int:=(f x:Int)::(List.range h).map λ i=>(f (a_ r i x):Int)
theorem IS{f:Nat->Nat}{t:Nat}(G:dC m h r)(c:∀x y,x < m->y < m->(f x=f y↔cq r ls h t x y))(hx:x < m)(hy:y < m):gI r h f x=gI r h f y↔cq r ls h (t+1) x y:=by
 unfold gI;rw[List.cons.injEq];constructor
 ·rintro⟨a,b⟩;refine⟨(c x y hx hy).mp (Int.ofNat.inj a),λ i hi=>(c _ _ (G.gq.cl _ _ hi hx) (G.gq.cl _ _ hi hy)).mp ?_⟩;have:=J4 (λ l:List Int=>l[i]?) b;simp only[s9,l8 hi,Option.map_some]at this;exact Int.ofNat.inj (A9 this)
 ·rintro⟨a,b⟩;refine⟨J4 _ ((c x y hx hy).mpr a),map_congr_left λ i hi=>?_⟩;have hi:=mem_range.mp hi;exact J4 _ ((c _ _ (G.gq.cl _ _ hi hx) (G.gq.cl _ _ hi hy)).mpr (b i hi))
theorem As(a b:List Int)(e:cA a=cA b):a=b:=by have:=D.tup.inj e;exact(List.map_inj_right λ _ _ z=>D.int.inj z).mp this
end
end KK
namespace KK
open PySem L3 L4 L5
open L2 hiding aI fR
local macro_rules|`(tactic|walk_at "mem")=>`(tactic|first|assumption|exact af|(rw[av (by assumption)];assumption)|(rw[av (by assumption),av (by assumption)];assumption)|(rw[av (by assumption)];exact af))
local macro_rules|`(tactic|walk_at "rd1")=>`(tactic|first|(with_reducible first|refine C_ ?_|refine Dk ?_|refine Hz ?_|refine vZ ?_|refine Dr ?_|refine rk ?_|refine dq ?_|refine Md ?_|refine lW ?_|refine x_ ?_|refine Qf ?_)|((with_reducible refine' fi ?k1 ?_);(case k1=>rfl))|(with_reducible first|refine Ms ?_|refine Mu ?_|refine KN ?_|refine Mg ?_|refine HS ?_|refine iS ?_|refine jA ?_|refine Mb ?_|refine Mk ?_|refine Mc ?_|refine HM ?_|refine Dq ?_|refine Mm ?_|refine Hx ?_|refine HQ ?_|refine HR ?_)|((with_reducible refine' lY ?k1 ?_);(case k1=>walk_at "mem"))|(with_reducible first|refine Ma ?_|refine KQ ?_|refine Uh ?_|refine KL ?_|refine qc ?_|refine Hy ?_|refine tO ?_|refine yc ?_|refine Mt ?_)|((with_reducible refine Df ?k1 ?_);(case k1=>first|assumption|decide))|((with_reducible refine Mr ?k1 ?k2 ?_);(case k1=>first|assumption|decide);(case k2=>first|assumption|decide|omega))|((with_reducible refine nB ?k1 ?_);(case k1=>exact FU (by decide) (by decide)))|(with_reducible first|refine Hu ?_|refine HD ?_|refine Dj ?_)|((with_reducible refine' HN ?k1 ?_);(case k1=>rfl))|(with_reducible first|refine KP ?_|refine tS ?_|refine Dl ?_|refine Dm ?_)|((with_reducible refine' Dp ?k1 ?_);(case k1=>walk_at "mem"))|(with_reducible first|refine HJ ?_|refine HK ?_|refine HI ?_|refine HA ?_|refine HB ?_|refine Hv ?_|refine Mh ?_|refine HG ?_)|((with_reducible refine' cF ?k1 ?k2 ?_);(case k1=>walk_at "mem");(case k2=>rfl))|((with_reducible refine' bI ?k2 ?_);(case k2=>rfl))|((with_reducible refine' rf ?k1 ?_);(case k1=>walk_at "mem"))|((with_reducible refine' Me ?k1 ?k2 ?_);(case k1=>walk_at "mem");(case k2=>rfl))|(with_reducible first|refine Hw ?_|refine HE ?_|refine HF ?_|refine Qi ?_|refine Di ?_|refine HH ?_|refine ya ?_))
local macro_rules|`(tactic|walk_at "rd")=>`(tactic|repeat(walk_at "rd1"))
local macro_rules|`(tactic|walk_at "rx")=>`(tactic|repeat(first|walk_at "rd1"|((with_reducible refine' Qg ?k1 ?_);(case k1=>exact Nat.le_of_ble_eq_true rfl))))
def top(i:Nat):Stmt:=PySem.Challenge.pw_lastloser_k30_sums_that_part.main.body.getD i (.Pass ⟨0,0,0,0⟩)
structure lP(K:J8)(mg:Str->Option Value):Prop where
 all:mg "all"=none
 bool:mg "bool"=none
 enumerate:mg "enumerate"=none
 int:mg "int"=none
 isinstance:mg "isinstance"=none
 len:mg "len"=none
 list:mg "list"=none
 max:mg "max"=none
 range:mg "range"=none
 set:mg "set"=none
 sorted:mg "sorted"=none
 str:mg "str"=none
 tuple:mg "tuple"=none
 zip:mg "zip"=none
 rR:gi K "bool"
 K3:gi K "int"
 EU:gi K "list"
 K2:gi K "str"
 yR:gi K "tuple"
def tw:gs:=λ ds M Q=>∃ns:List Int,ds=[.fl (ns.map D.int)]/\M 31=some (.fm (.lT "first_things.<locals>.<lambda>"))/\∀M',Q (.bl true) M'
section
variable {P:Program}{w:World}{K:J8}{mg:Str->Option Value}{base:Heap}
theorem gC:aM ["_law_flow_here","_law_many","_law_cell","_law_digit"] ["_law_flow_here","_law_many"] (aq (top 11)):=⟨rfl,rfl,rfl,by decide+kernel,rfl,by decide+kernel,by decide+kernel⟩
theorem Ja{f:Addr}{fd:FuncData}(F:jk K "_law_pick" "_law_pick" (top 11) f fd)(T:lP K mg):cw P w K mg base fA 1 f fd ["_law_flow_here","_law_many"] (cV K iR):=by
 refine oU F gC (λ ds M Q h=>?_) (λ dQ A outer s H E ds M Q hr h=>?_)
 ·obtain⟨a,c,n,rfl,_⟩:=h;rfl
 ·obtain⟨a,c,n,rfl,⟨ns,p,b,sd,ct,hf,hc,eZ,hp,hb,Gx,Og⟩,yT,hn1,k⟩:=h;refine⟨_,(ae (cb (qN (aK (df hr.units) (aL aI (ak 0) ai (λ _ _=>rfl)) ai (aH _)) (qM (aK oV (aL aI (ak 0) ai (λ _ _=>rfl)) (aD bO (by rfl) T.len (by decide+kernel) (aa (aL aI (ak 0) ai (λ _ _=>rfl)) ab)) (aH _)))).pt
 (ae (aB (i:=2) gC.nd rfl (Or.inl rfl) (aL aI (aL aI (ak 0) ai (λ _ _=>rfl)) (aL aI (ak 0) ai (λ _ _=>rfl)) (λ _ _=>rfl)))
 (ae (fg (bH bw (aL aI (ak 0) ai (λ _ _=>rfl)) ai) (gw (ak 0) ai ni))
 (aj (cb (aK UD (ak 2) (bH Q9 ai ai) (aH _))
 (aj (fg (ak 2) (gw (ak 0) ai ni)))
 (aj (fg (bH jI (bH bw (bH bw (bH iT (aL aI (ak 0) ai (λ _ _=>rfl)) ai) (bH jI (ak 2) ai)) ai) ai) (gw (ak 0) ai ni)))))))
 aZ)
 (ae (cb (aK Ra (aL aI (ak 0) ai (λ _ _=>rfl)) ai (aH _))
 (ae (aB (i:=3) gC.nd rfl (Or.inl rfl) (bH jI (aL aI (ak 0) ai (λ _ _=>rfl)) (ak 1)))
 (ae (fg (bH wx (aL aI (ak 0) ai (λ _ _=>rfl)) (ak 1)) (gw (ak 0) ai ni))
 (aj (aV (ak 3)))))
 aZ)
 (ae (fg (bH bw (aL aI (ak 0) ai (λ _ _=>rfl)) ai) (gw (ak 0) ai ni))
 (ae (fg (bH jI (bH bw (bH bw (bH iT (aL aI (ak 0) ai (λ _ _=>rfl)) ai) ai) (aL aI (ak 0) ai (λ _ _=>rfl))) ai) (gw (ak 0) ai ni))
 (aj (aV (bH jI (bH wx (bH jI (bH iT (bH bw (bH jI (aL aI (ak 0) ai (λ _ _=>rfl)) ai) ai) (bH bw (bH wx (aL aI (ak 0) ai (λ _ _=>rfl)) ai) ai)) ai) ai) (ak 1)))))))),?_⟩
  refine gG (λ δ' M'=>∃(p b sd ct:Int) (v:Option D),δ'=[some (.ref a),some (.int n),v,none]/\M'=ah M a (.lst (Lf c p b sd ct))/\0<=p/\0<=b/\0<=sd/\sd < 2147483647) (λ N hN=>?_) ?_
  ·walk_at "rd";refine aS (λ Ox=>?_) (λ Ox=>?_)
   ·walk_at "rd";refine aS (λ hpl=>?_) (λ hpl=>?_)
    ·obtain⟨x,hx⟩:∃x:Int,gr (ns.map D.int) p=some (.int x):=by
      have hl:p.toNat < ns.length:=by rw[B4]at hpl;omega
      refine⟨ns[p.toNat],?_⟩;have e:((p.toNat:Nat):Int)=p:=by omega
      have q:gr (ns.map D.int) ((p.toNat:Nat):Int)=some (.int ns[p.toNat]):=bG (by simp[hl]);rw[e]at q;exact q
     walk_at "rd";refine cF hc hx ?_;walk_at "rd";refine Ug ⟨by decide,by decide,by decide⟩ ?_;walk_at "rd";refine aS (λ Ov=>?_) (λ Ov=>?_)
     ·walk_at "rd";rw[dG];refine hN _ _ ⟨p+1,x,sd,ct,_,rfl,rfl,by omega,?_,Gx,Og⟩;have Ov:(10:Int)^(18:Int).toNat<=x:=Ov;have e:(10:Int)^(18:Int).toNat=1000000000000000000:=by decide
      omega
     ·walk_at "rd";rw[dG];refine hN _ _ ⟨p+1,b,_,ct,_,rfl,rfl,by omega,hb,A8 _ (by decide),o8 _ (by decide)⟩
    ·walk_at "rd";exact hN _ _ ⟨p,b,sd,ct,none,rfl,(pN hf).symm,hp,hb,Gx,Og⟩
   ·walk_at "rd";exact hN _ _ ⟨p,b,sd,ct,none,rfl,(pN hf).symm,hp,hb,Gx,Og⟩
  ·rintro δ' M' ⟨p,b,sd,ct,v,rfl,rfl,hp,hb,Gx,Og⟩;walk_at "rd";refine aS (λ Ox=>?_) (λ Ox=>?_)
   ·walk_at "rd";rw[dG];refine az (k _ _ (A8 _ (by omega)) (o8 _ yT) ⟨ns,p,_,sd,ct,af,by rw[av eZ];exact hc,eZ,hp,Int.ediv_nonneg hb (by omega),Gx,Og⟩)
   ·walk_at "rd";refine nB (OQ ?_ ?_) ?_
    ·have:=A8 ((sd*48271+12820163+(ct+1)) % 2147483647) (show(65521:Int)≠0 by decide);omega
    ·have:=o8 ((sd*48271+12820163+(ct+1)) % 2147483647) (show(0:Int) < 65521 by decide);omega
    walk_at "rd";rw[dG,dG];exact az (k _ _ (A8 _ (by omega)) (o8 _ yT) ⟨ns,p,b,_,_,af,by rw[av eZ];exact hc,eZ,hp,hb,A8 _ (by decide),o8 _ (by decide)⟩)
theorem tJ:aM ["_law_script"] ["_law_script"] (aq (top 10)):=⟨rfl,rfl,rfl,by decide+kernel,rfl,by decide+kernel,by decide+kernel⟩
theorem Jg{f:Addr}{fd:FuncData}(F:jk K "_law_flow" "_law_flow" (top 10) f fd)(T:lP K mg):cw P w K mg base fA 1 f fd ["_law_script"] (cV K xS):=by
 refine oU F tJ (λ ds M Q h=>?_) (λ dQ A outer s H E ds M Q hr h=>?_)
 ·obtain⟨a,rfl,_⟩:=h;rfl
 ·obtain⟨ns,rfl,k⟩:=h;refine⟨_,(aj (aV (cz (aa (bR FY (by rfl) T.list (by decide+kernel) (aa (ak 0) ab)) (aa ai (aa ai (aa ai (aa ai ab)))))))),?_⟩;walk_at "rd";refine Dh λ c qq=>?_;walk_at "rd";refine⟨small (by show 5<=10000;decide),λ fl Th=>?_⟩;have eZ:c≠fl:=λ z=>by subst z;rw[af]at Th;cases Th
  exact az (k fl c _ ⟨ns,0,0,1,0,af,by rw[av eZ];exact af,eZ,by decide,by decide,by decide,by decide⟩ (Ext.new (Ext.new Ext.rfl qq _) Th _))
end
section
variable {P:Program}{w:World}{K:J8}{mg:Str->Option Value}{base:Heap}
theorem qZ:aM ["_law_found","_law_due"] ["_law_found","_law_due"] (aq (top 13)):=⟨rfl,rfl,rfl,by decide+kernel,rfl,by decide+kernel,by decide+kernel⟩
theorem NM{f:Addr}{fd:FuncData}(F:jk K "_law_alike" "_law_alike" (top 13) f fd)(T:lP K mg)(Vh:mg "_law_alike"=some (.ref f))(Ox:Binds K fd ["_law_found","_law_due"] []):∀k,cw P w K mg base fA (k+1) f fd ["_law_found","_law_due"] (cV K (Cy k)):=by
 intro k
 induction k with
 |zero=>exact yZ Hh
 |succ k ih=>
 have fb:=bT.of F ih Vh Ox;rw[show k+1+1=k+1+1 by omega];clear ih;refine oU F qZ (λ ds M Q h=>?_) (λ dQ A outer s H E ds M Q hr h=>?_)
 ·obtain⟨x,y,rfl,_⟩:=h;rfl
 ·obtain⟨x,y,rfl,hs,k⟩:=h;refine⟨_,(ae (cb (aK D' (ak 1) sX (aH _))
 (aj (aV (eD D' (ak 0) sX (aH _))))
 aZ)
 (ae (cb (xC (gu (aD (gh T.rR) (by rfl) T.isinstance (by decide+kernel) (aa (ak 1) (aa (lF (n:="bool") (by rfl) T.bool (by decide+kernel)) ab)))) (qL (gu (aD (gh T.rR) (by rfl) T.isinstance (by decide+kernel) (aa (ak 0) (aa (lF (n:="bool") (by rfl) T.bool (by decide+kernel)) ab)))))).pt
 (aj (aV (w_and (aD (gh T.rR) (by rfl) T.isinstance (by decide+kernel) (aa (ak 1) (aa (lF (n:="bool") (by rfl) T.bool (by decide+kernel)) ab))) (w_and (aD (gh T.rR) (by rfl) T.isinstance (by decide+kernel) (aa (ak 0) (aa (lF (n:="bool") (by rfl) T.bool (by decide+kernel)) ab))) (sW (eD (df hr.units) (ak 0) (ak 1) (aH _)))))))
 aZ)
 (ae (cb (gu (aD (gh T.K3) (by rfl) T.isinstance (by decide+kernel) (aa (ak 1) (aa (lF (n:="int") (by rfl) T.int (by decide+kernel)) ab))))
 (aj (aV (w_and (aD (gh T.K3) (by rfl) T.isinstance (by decide+kernel) (aa (ak 0) (aa (lF (n:="int") (by rfl) T.int (by decide+kernel)) ab))) (sW (eD (df hr.units) (ak 0) (ak 1) (aH _))))))
 aZ)
 (ae (cb (gu (aD (gh T.K2) (by rfl) T.isinstance (by decide+kernel) (aa (ak 1) (aa (lF (n:="str") (by rfl) T.str (by decide+kernel)) ab))))
 (aj (aV (w_and (aD (gh T.K2) (by rfl) T.isinstance (by decide+kernel) (aa (ak 0) (aa (lF (n:="str") (by rfl) T.str (by decide+kernel)) ab))) (sW (eD (df hr.units) (ak 0) (ak 1) (aH _))))))
 aZ)
 (ae (cb (xC (aK (nJ hr.units) (aD (gh T.yR) (by rfl) T.isinstance (by decide+kernel) (aa (ak 1) (aa (lF (n:="tuple") (by rfl) T.tuple (by decide+kernel)) ab))) (aD (gh T.yR) (by rfl) T.isinstance (by decide+kernel) (aa (ak 0) (aa (lF (n:="tuple") (by rfl) T.tuple (by decide+kernel)) ab))) (aH _)) (qL (aK (nJ hr.units) (aD (gh T.EU) (by rfl) T.isinstance (by decide+kernel) (aa (ak 1) (aa (lF (n:="list") (by rfl) T.list (by decide+kernel)) ab))) (aD (gh T.EU) (by rfl) T.isinstance (by decide+kernel) (aa (ak 0) (aa (lF (n:="list") (by rfl) T.list (by decide+kernel)) ab))) (aH _)))).pt
 (aj (aV z_))
 aZ)
 (aj (aV (w_and (eD (df hr.units) (aD bO (by rfl) T.len (by decide+kernel) (aa (ak 0) ab)) (aD bO (by rfl) T.len (by decide+kernel) (aa (ak 1) ab)) (aH _)) (sW (Lv (R' rfl) GR (by rfl) T.all (by decide+kernel) (tgs:=["_law_k"]) (fr:=[0,1]) ⟨cp (by kernel_rfl),rfl,(λ _ _ h=>h),(bo rfl T.range (aa (aD bO (by rfl) T.len (by decide+kernel) (aa (ak 1) ab)) ab)),(bB (λ _ _ _ _ _=>(bc (i:=0) (show(["_law_k","_law_found","_law_due"]:List Str).Nodup by decide+kernel) rfl (Or.inl rfl))) (by decide)),(λ _ _ _ _ _=>b_),(λ _ _ _ _ _=>(aJ fb (hr.mono (by omega)) (by rfl) (aa (aL aI (ak 1) (ak 0) (λ _ _=>rfl)) (aa (aL aI (ak 2) (ak 0) (λ _ _=>rfl)) ab))))⟩)))))))))),?_⟩
  rcases hs with⟨rfl,hx⟩|⟨ds,es,rfl,rfl,hl,hz,hs⟩|⟨p,q,ds,es,rfl,rfl,hp,hq,hl,hz,hs⟩
  ·cases x with
   |bx=>walk_at "rx";refine nE ?_;walk_at "rx";refine nE ?_;walk_at "rx";exact az k
   |bl b=>walk_at "rx";refine hX (by simp[mT]) ?_;walk_at "rx";refine br (n:="bool") rfl (b:=true) (by decide) ?_;walk_at "rx";refine br (n:="bool") rfl (b:=true) (by decide) ?_;walk_at "rx";refine br (n:="bool") rfl (b:=true) (by decide) ?_;walk_at "rx";rw[C0 (rfl:b=b)];exact az k
   |int i=>walk_at "rx";refine hX (by simp[mT]) ?_;walk_at "rx";refine br (n:="int") rfl (b:=false) (by decide) ?_;walk_at "rx";refine br (n:="int") rfl (b:=false) (by decide) ?_;walk_at "rx";refine br (n:="int") rfl (b:=true) (by decide) ?_;walk_at "rx";refine br (n:="int") rfl (b:=true) (by decide) ?_;walk_at "rx";rw[C0 (rfl:i=i)];exact az k
   |str z=>walk_at "rx";refine hX (by simp[mT]) ?_;walk_at "rx";refine br (n:="str") rfl (b:=false) (by decide) ?_;walk_at "rx";refine br (n:="str") rfl (b:=false) (by decide) ?_;walk_at "rx";refine br (n:="str") rfl (b:=false) (by decide) ?_;walk_at "rx";refine br (n:="str") rfl (b:=true) (by decide) ?_;walk_at "rx";refine br (n:="str") rfl (b:=true) (by decide) ?_;walk_at "rx";rw[C0 (rfl:z=z)];exact az k
   |_=>cases hx
  ·walk_at "rx";refine hX (by simp[mT]) ?_;walk_at "rx";refine br (n:="tuple") rfl (b:=false) (by decide) ?_;walk_at "rx";refine br (n:="tuple") rfl (b:=false) (by decide) ?_;walk_at "rx";refine br (n:="tuple") rfl (b:=false) (by decide) ?_;walk_at "rx";refine br (n:="tuple") rfl (b:=false) (by decide) ?_;walk_at "rx";refine br (n:="tuple") rfl (b:=true) (by decide) ?_;walk_at "rx";refine br (n:="tuple") rfl (b:=true) (by decide) ?_;walk_at "rx";refine lX (λ h=>absurd rfl h) (λ _=>?_);walk_at "rx";refine br (n:="tuple") rfl (b:=false) (by decide) ?_;walk_at "rx";refine br (n:="tuple") rfl (b:=false) (by decide) ?_;walk_at "rx";refine lX (λ h=>absurd rfl h) (λ _=>?_);walk_at "rx";rw[hl];refine aS (λ _=>?_) (λ hl=>absurd rfl hl);walk_at "rx";refine⟨cG (by omega) (by omega),?_⟩;rw[u7];refine oq (λ i acc M'=>M'=M/\acc=(List.replicate i true).map D.bl) ⟨rfl,rfl⟩ (λ i acc M' hi h=>?_) (λ i d acc M' hd h=>?_) (λ acc M' h=>?_)
   ·obtain⟨_,rfl⟩:=h;rw[bu]at hi;simp only[B4,k5];exact small (by omega)
   ·obtain⟨rfl,rfl⟩:=h;obtain⟨hi,rfl⟩:=de hd;walk_at "rx";refine bI (mG (by omega)) ?_;walk_at "rx";refine bI (mG hi) ?_;refine⟨_,_,rfl,hs i _ _ (i5 (by omega)) (i5 hi),rfl,?_⟩;rw[replicate_succ',B6];rfl
   ·obtain⟨rfl,rfl⟩:=h;unfold zq;rw[ow];show fin2 Q (.bl ((List.replicate _ true).all id)) _;rw[sv];exact az k
  ·have tp:mT M (.ref p)=some "list":=by show(bf M p).map (λ _=>"list")=_;unfold bf;rw[hp];rfl
   have tq:mT M (.ref q)=some "list":=by show(bf M q).map (λ _=>"list")=_;unfold bf;rw[hq];rfl
   walk_at "rx";refine hX (by rw[tq];simp) ?_;walk_at "rx";refine br tq (b:=false) (by decide) ?_;walk_at "rx";refine br tp (b:=false) (by decide) ?_;walk_at "rx";refine br tq (b:=false) (by decide) ?_;walk_at "rx";refine br tq (b:=false) (by decide) ?_;walk_at "rx";refine br tq (b:=false) (by decide) ?_;walk_at "rx";refine br tp (b:=false) (by decide) ?_;walk_at "rx";refine lX (λ h=>absurd rfl h) (λ _=>?_);walk_at "rx";refine br tq (b:=true) (by decide) ?_;walk_at "rx";refine br tp (b:=true) (by decide) ?_;walk_at "rx";refine lX (λ h=>absurd rfl h) (λ _=>?_);walk_at "rx";rw[hl];refine aS (λ _=>?_) (λ hl=>absurd rfl hl);walk_at "rx";refine⟨cG (by omega) (by omega),?_⟩;rw[u7];refine oq (λ i acc M'=>M'=M/\acc=(List.replicate i true).map D.bl) ⟨rfl,rfl⟩ (λ i acc M' hi h=>?_) (λ i d acc M' hd h=>?_) (λ acc M' h=>?_)
   ·obtain⟨_,rfl⟩:=h;rw[bu]at hi;simp only[B4,k5];exact small (by omega)
   ·obtain⟨rfl,rfl⟩:=h;obtain⟨hi,rfl⟩:=de hd;walk_at "rx";refine cF hp (mG (by omega)) ?_;walk_at "rx";refine cF hq (mG hi) ?_;refine⟨_,_,rfl,hs i _ _ (i5 (by omega)) (i5 hi),rfl,?_⟩;rw[replicate_succ',B6];rfl
   ·obtain⟨rfl,rfl⟩:=h;unfold zq;rw[ow];show fin2 Q (.bl ((List.replicate _ true).all id)) _;rw[sv];exact az k
end
def Ct:gs:=λ ds M Q=>∃(v lo w:Nat),ds=[.int v,.int lo,.int w]/\0 < w/\Q (.int (cnt v lo w)) M
def xP(B H:Nat):gs:=λ ds M Q=>∃(f c:Addr),ds=[.ref f]/\Flow M f c/\∀(m h:Nat) (rows:List Row) (ls:Row) (M':Mem),dC m h rows->m<=B->h<=H->iJ m ls->Fl f c M M'->Q (eu rows ls) M'
section
variable {P:Program}{w:World}{K:J8}{mg:Str->Option Value}{base:Heap}
theorem nh:aM ["_law_value","_law_low","_law_wide"] ["_law_value","_law_low","_law_wide"] (aq (top 17)):=⟨rfl,rfl,rfl,by decide+kernel,rfl,by decide+kernel,by decide+kernel⟩
theorem NL{f:Addr}{fd:FuncData}(F:jk K "_law_counted" "_law_counted" (top 17) f fd)(T:lP K mg):cw P w K mg base fA 1 f fd ["_law_value","_law_low","_law_wide"] (cV K Ct):=by
 refine oU F nh (λ ds M Q h=>?_) (λ dQ A outer s H E ds M Q hr h=>?_)
 ·obtain⟨v,lo,w,rfl,_⟩:=h;rfl
 ·obtain⟨v,lo,w,rfl,hw,k⟩:=h;refine⟨_,(ae (cb (aK oV (ak 0) (bH bw (ak 1) (ak 2)) (aH _))
 (aj (aV (ak 0)))
 aZ)
 (aj (aV (bH bw (ak 1) (bH jI (bH DZ (ak 0) (ak 1)) (ak 2)))))),?_⟩
  walk_at "rx";refine aS (λ hl=>?_) (λ hl=>?_)
  ·walk_at "rx";unfold cnt at k;rw[J6 (by omega)]at k;exact az k
  ·have K5:(0:Int) < w:=by omega
   walk_at "rx";unfold cnt at k;rw[J7 (by omega)]at k;rw[show(lo:Int)+((v:Int) - (lo:Int)) % (w:Int)=((lo+(v - lo) % w:Nat):Int) by
    rw[Int.natCast_add,Int.natCast_emod,Int.natCast_sub (by omega)]]
   exact az k
theorem aR:aM ["_law_flow_here","_law_low","_law_wide","_law_weights","_law_states","_law_rows","_law_row","_law_weight","_law_then"] ["_law_flow_here"] (aq (top 19)):=⟨rfl,rfl,rfl,by decide+kernel,rfl,by decide+kernel,by decide+kernel⟩
theorem Je{f:Addr}{fd:FuncData}(F:jk K "_law_long_table" "_law_long_table" (top 19) f fd)(T:lP K mg)(ay:cX P w K mg base 1 "_law_pick" ["_law_flow_here","_law_many"] iR)(fk:cX P w K mg base 1 "_law_counted" ["_law_value","_law_low","_law_wide"] Ct):cw P w K mg base fA 2 f fd ["_law_flow_here"] (cV K (xP 19 2)):=by
 refine oU F aR (λ ds M Q h=>?_) (λ dQ A outer s H E ds M Q hr h=>?_)
 ·obtain⟨f,c,rfl,_⟩:=h;rfl
 ·obtain⟨f,cc,rfl,hF,k⟩:=h;refine⟨_,(ae (aB (i:=1) aR.nd rfl (Or.inl rfl) (aJ ay (hr.mono (by decide)) (by rfl) (aa (ak 0) (aa ai ab))))
 (ae (aB (i:=2) aR.nd rfl (Or.inl rfl) (bH bw ai (aJ ay (hr.mono (by decide)) (by rfl) (aa (ak 0) (aa ai ab)))))
 (ae (cY (i:=3) aR.nd rfl (Or.inl rfl) (tgs:=["_law_h"]) (fr:=[0]) ⟨cp (by kernel_rfl),rfl,(λ _ _ h=>h),(bo rfl T.range (aa (bH bw ai (aJ ay (hr.mono (by decide)) (by rfl) (aa (ak 0) (aa ai ab)))) ab)),(bB (λ _ _ _ _ _=>(bc (i:=0) (show(["_law_h","_law_flow_here"]:List Str).Nodup by decide+kernel) rfl (Or.inl rfl))) (by decide)),(λ _ _ _ _ _=>b_),(λ _ _ _ _ _=>(aJ ay (hr.mono (by decide)) (by rfl) (aa (ak 1) (aa ai ab))))⟩)
 (ae (aB (i:=4) aR.nd rfl (Or.inl rfl) (cz (aa ai ab)))
 (ae (aB (i:=5) aR.nd rfl (Or.inl rfl) (cz ab))
 (ae (dS B0 (aK oV (aD bO (by rfl) T.len (by decide+kernel) (aa (ak 5) ab)) (aD bO (by rfl) T.len (by decide+kernel) (aa (ak 4) ab)) (aH _))
 (ae (aB (i:=6) aR.nd rfl (Or.inl rfl) (cz ab))
 (ae (dF B0 rfl (eh (ak 3)) (bD (i:=7) aR.nd rfl (Or.inl rfl))
 (ae (aB (i:=8) aR.nd rfl (Or.inl rfl) (aJ fk (hr.mono (by decide)) (by rfl) (aa (bH bw (aL aI (ak 4) (aD bO (by rfl) T.len (by decide+kernel) (aa (ak 5) ab)) (λ _ _=>rfl)) (ak 7)) (aa (ak 1) (aa (ak 2) ab)))))
 (ae (cb (aK (gJ hr.units) (ak 8) (ak 4) rfl)
 (aj (bZ (eE i7 i4 i6 bP (ak 4) (aa (ak 8) ab))))
 aZ)
 (aj (bZ (eE i7 i4 i6 bP (ak 6) (aa (eE i7 PySem.F.slot_list_index PySem.F.type_list_index (fT hr.units) (ak 4) (aa (ak 8) ab)) ab)))))))
 (aj (bZ (eE i7 i4 i6 bP (ak 5) (aa (bR bY (by rfl) T.tuple (by decide+kernel) (aa (ak 6) ab)) ab)))))))
 (aj (aV (c_ (aa (bR bY (by rfl) T.tuple (by decide+kernel) (aa (ak 5) ab)) (aa (ki bY eK (by rfl) T.tuple (by decide+kernel) (tgs:=["_law_k"]) (fr:=[0]) ⟨cp (by kernel_rfl),rfl,(λ _ _ h=>h),(bo rfl T.range (aa (aD bO (by rfl) T.len (by decide+kernel) (aa (ak 5) ab)) ab)),(bB (λ _ _ _ _ _=>(bc (i:=0) (show(["_law_k","_law_flow_here"]:List Str).Nodup by decide+kernel) rfl (Or.inl rfl))) (by decide)),(λ _ _ _ _ _=>(lQ (aK (df hr.units) (aJ ay (hr.mono (by decide)) (by rfl) (aa (ak 1) (aa ai ab))) ai (aH _)))),(λ _ _ _ _ _=>(ak 0))⟩) ab))))))))))),?_⟩
  walk_at "rx";refine⟨f,cc,10,rfl,hF,by decide,by decide,λ d1 o1 OC Pp yW=>?_⟩;have F1:Fl f cc M _:=Fl.pick yW;generalize ah M f o1=M1 at*;obtain⟨lo,rfl⟩:∃n:Nat,d1=(n:Int):=⟨d1.toNat,by omega⟩;walk_at "rx";refine⟨f,cc,10,rfl,F1.bp,by decide,by decide,λ d2 o2 Tq Tp GC=>?_⟩;have F2:=F1.trans (Fl.pick GC);generalize ah M1 f o2=M2 at*;obtain⟨w,ew⟩:∃n:Nat,1+d2=(n:Int):=⟨(1+d2).toNat,by omega⟩;walk_at "rx";rw[ew];refine⟨f,cc,2,rfl,F2.bp,by decide,by decide,λ d3 o3 Xb Xa Po=>?_⟩;have F3:=F2.trans (Fl.pick Po);generalize ah M2 f o3=M3 at*;walk_at "rx";refine⟨cG (by omega) (by omega),?_⟩;rw[dM];refine lb nD (λ ys M'=>Fl f cc M M'/\∀y∈ys,y < 3) (by rw[x3];omega) ⟨F3,λ y h=>by cases h⟩ (λ i x ys M' N hx hl hI hN=>?_) (λ ws M4 hl hI=>?_)
  ·walk_at "rx";refine⟨f,cc,3,rfl,hI.1.bp,by decide,by decide,λ d o h0 h1 Bl=>?_⟩;obtain⟨y,rfl⟩:∃n:Nat,d=(n:Int):=⟨d.toNat,by omega⟩;refine hN y _ ⟨hI.1.trans (Fl.pick Bl),λ z hz=>?_⟩;rcases B5.mp hz with e|e
   ·exact hI.2 z e
   ·rw[p7.mp e];omega
  ·obtain⟨F4,hw3⟩:=hI;rw[x3]at hl;intro oI wM;have F5:=F4.trans (Fl.put (o:=.lst (ws.map nD)) F4.bp wM);have K4:ah M4 oI (.lst (ws.map nD)) oI=some (.lst (ws.map nD)):=af;generalize ah M4 oI (.lst (ws.map nD))=M5 at*;walk_at "rx";intro p hp;walk_at "rx";intro q hq;have C:lE (λ _=>True) ws.length (λ i s=>cnt (s+ws.getD i 0) lo w):=⟨λ _ _ _ _=>True.intro,λ s i j _ _ _=>zu (by omega)⟩;have hU:∀i s,cnt (s+ws.getD i 0) lo w∈List.range (lo+w):=λ i s=>mem_range.mpr (FT (by omega));have X0:Sx nD (λ i s=>cnt (s+ws.getD i 0) lo w) 0 ws.length (List.range (lo+w)) p q [0] [] M5 (ah (ah M5 p (.lst [.int 0])) q (.lst [])):=by have jO:p≠q:=bM (show ah M5 p (.lst [.int 0]) p=some _ from af) hq;refine⟨Ext.new (Ext.new Ext.rfl hp _) hq _,hp,Ext.free (Ext.new Ext.rfl hp _) hq,jO,?_,af,qJ.start (mem_range.mpr (by omega)),by simp⟩;rw[av jO,af];rfl
   generalize ah (ah M5 p (.lst [.int 0])) q (.lst [])=M6 at*;have Y0:(List.range (lo+w)).length<=19:=by rw[x3];omega
   generalize List.range (lo+w)=U at*;walk_at "rx";refine dX ⟨λ m δ M'=>∃(v6 v7 v8:Option D) (aO:List Nat) (rows:List Row),δ=[some (.ref f),some (.int lo),some (.int w),some (.ref oI),some (.ref p),some (.ref q),v6,v7,v8]/\Sx nD (λ i s=>cnt (s+ws.getD i 0) lo w) 0 ws.length U p q aO rows M5 M'/\m=20 - rows.length,⟨_,none,none,none,[0],[],rfl,X0,rfl⟩,?_⟩;rintro m δ M' ⟨v6,v7,v8,aO,rows,rfl,X,rfl⟩;have hfew:=X.cI;have hst:=X.st;have oM:=X.gD;walk_at "rx";rw[B4,B4];refine aS (λ iX=>?_) (λ K_=>?_)
   ·obtain⟨s,hs⟩:∃s,aO[rows.length]?=some s:=⟨_,i5 (by omega)⟩;refine⟨λ δ' kh=>∃(v6 v7 v8:Option D) (aO:List Nat) (r:Row),δ'=[some (.ref f),some (.int lo),some (.int w),some (.ref oI),some (.ref p),some (.ref q),v6,v7,v8]/\Sx nD (λ i s=>cnt (s+ws.getD i 0) lo w) 0 ws.length U p q aO (rows++[r]) M5 kh,?_,?_⟩
    ·rintro δ' kh ⟨v6,v7,v8,aO,r,rfl,X⟩;exact⟨_,by rw[o6,j9];omega,v6,v7,v8,aO,_,rfl,X,rfl⟩
    ·walk_at "rx";intro pw EW;have fw:=X.free EW;have X1:=X.new EW (.lst []);have Oe:ah M' pw (.lst []) pw=some (.lst (([]:Row).map D.int)):=af;generalize ah M' pw (.lst [])=M7 at*;have Yl:=X1.ext _ _ K4;walk_at "rx";refine zd (ds:=ws.map nD) (λ i δ M8=>∃(v7 v8:Option D) (aO:List Nat) (r:Row),δ=[some (.ref f),some (.int lo),some (.int w),some (.ref oI),some (.ref p),some (.ref q),some (.ref pw),v7,v8]/\Sx nD (λ i s=>cnt (s+ws.getD i 0) lo w) 0 ws.length U p q aO rows M5 M8/\M8 pw=some (.lst (r.map D.int))/\cD (λ i s=>cnt (s+ws.getD i 0) lo w) aO s i r/\aO[rows.length]?=some s) ⟨v7,v8,aO,[],rfl,X1,Oe,cD.nil _ _ _,hs⟩ (λ i δ M8 _ h=>?_) (λ i d δ M8 hd h=>?_) (λ δ M8 h=>?_)
     ·obtain⟨_,_,_,_,_,X,_⟩:=h;exact X.ext _ _ K4
     ·obtain⟨v7,v8,aO,r,rfl,X,hw,hr,hs⟩:=h;rw[s9]at hd;obtain⟨y,hy,rfl⟩:=Option.map_eq_some_iff.mp hd;have Gy:i < ws.length:=(g9.mp hy).1;have ey:ws.getD i 0=y:=by rw[c8,hy];rfl
      have hst:=X.st;have oM:=X.gD;walk_at "rx";rw[B4];refine cF X.st (d:=.int s) (bG (by rw[s9,hs];rfl)) ?_;walk_at "rx";refine⟨s+y,lo,w,rfl,by omega,dq ?_⟩;have OB:(0:Nat)<=60:=by decide
      have Of:U.length<=300:=by omega
      have wO:ws.length<=12:=by omega
      with_reducible refine lU eC OB X Of wO fw hw hr hs Gy (hU i s) ?_ ?_ ?_ (λ fO r' M' X' K5 EV jN=>?_)
      ·show some (some (D.int (cnt (s+y) lo w:Nat)))=some (some (nD (cnt (s+ws.getD i 0) lo w)));rw[ey]
      ·rfl
      ·rfl
      ·exact⟨_,_,fO,r',rfl,X',K5,EV,jN⟩
     ·obtain⟨v7,v8,aO,r,rfl,X,hw,hr,hs⟩:=h;rw[B4]at hr;have hfew:=X.cI;have oM:=X.gD;walk_at "rx";refine⟨⟨rfl,_,oM⟩,?_⟩;walk_at "rx";refine cj hw ?_;walk_at "rx";refine fS oM (by rw[B4];exact p5 (show rows.length<=300 by omega) (by decide)) ?_;exact⟨_,_,_,aO,r,rfl,X.next hs hr⟩
   ·have el:rows.length=aO.length:=by have:=X.le;omega
    have TG:=X.ex.tb C True.intro el (by omega) (by omega);have F6:=F5.trans (i_ X.ext F5.bp);have Zd:rows.length<=19:=by omega
    walk_at "rx";refine cj oM ?_;walk_at "rx";rw[B4];refine⟨cG (by omega) (by omega),?_⟩;rw[u7];refine oq (λ i acc M7=>∃ls:Row,acc=ls.map D.int/\iJ i ls/\Fl f cc M M7) ⟨[],rfl,iJ.nil 0,F6⟩ (λ i acc M7 hi h=>?_) (λ i d acc M7 hd h=>?_) (λ acc M7 h=>?_)
    ·obtain⟨ls,rfl,L,_⟩:=h;rw[bu]at hi;have:=L.cI;rw[B4];exact small (by omega)
    ·obtain⟨ls,rfl,L,F7⟩:=h;obtain⟨hi,rfl⟩:=de hd;walk_at "rx";refine⟨f,cc,4,rfl,F7.bp,by decide,by decide,λ d o _ _ Bl=>?_⟩;have F8:=F7.trans (Fl.pick Bl);generalize ah M7 f o=M8 at*;walk_at "rx";refine aS (λ _=>?_) (λ _=>?_)
     ·walk_at "rx";exact⟨ls++[(i:Int)],by rw[B6,D3];rfl,L.add,F8⟩
     ·exact⟨ls,rfl,L.up,F8⟩
    ·obtain⟨ls,rfl,L,F7⟩:=h;rw[bu]at L;walk_at "rx";exact az (k _ _ rows ls _ TG Zd (by omega) L F7)
end
def Cw:gs:=λ ds M Q=>∃(f c:Addr) (n:Nat),ds=[.ref f,.int n]/\Flow M f c/\n<=6/\∀(m:Nat) (rows:List Row) (ls:Row) (M':Mem),dC m n rows->m<=16->iJ m ls->Fl f c M M'->Q (eu rows ls) M'
section
variable {P:Program}{w:World}{K:J8}{mg:Str->Option Value}{base:Heap}
theorem aN:aM ["_law_flow_here","_law_many","_law_counters","_law_weights","_law_states","_law_rows","_law_row","_law_h","_law_trios","_law_then"] ["_law_flow_here","_law_many"] (aq (top 18)):=⟨rfl,rfl,rfl,by decide+kernel,rfl,by decide+kernel,by decide+kernel⟩
theorem Jj{f:Addr}{fd:FuncData}(F:jk K "_law_any_table" "_law_any_table" (top 18) f fd)(T:lP K mg)(ay:cX P w K mg base 1 "_law_pick" ["_law_flow_here","_law_many"] iR)(fk:cX P w K mg base 1 "_law_counted" ["_law_value","_law_low","_law_wide"] Ct):cw P w K mg base fA 2 f fd ["_law_flow_here","_law_many"] (cV K Cw):=by
 refine oU F aN (λ ds M Q h=>?_) (λ dQ A outer s H E ds M Q hr h=>?_)
 ·obtain⟨f,c,n,rfl,_⟩:=h;rfl
 ·obtain⟨f,cc,n,rfl,hF,hn,k⟩:=h;refine⟨_,(ae (aB (i:=2) aN.nd rfl (Or.inr rfl) (cz (aa (c_ (aa (aJ ay (hr.mono (by decide)) (by rfl) (aa (ak 0) (aa ai ab))) (aa (bH bw ai (aJ ay (hr.mono (by decide)) (by rfl) (aa (ak 0) (aa ai ab)))) ab))) ab)))
 (ae (cb (aK (df hr.units) (aJ ay (hr.mono (by decide)) (by rfl) (aa (ak 0) (aa ai ab))) ai (aH _))
 (aj (aB (i:=2) aN.nd rfl (Or.inr rfl) (kj (tgs:=["_law_k"]) (fr:=[0]) ⟨cp (by kernel_rfl),rfl,(λ _ _ h=>h),(bo rfl T.range (aa ai ab)),(bB (λ _ _ _ _ _=>(bc (i:=0) (show(["_law_k","_law_flow_here"]:List Str).Nodup by decide+kernel) rfl (Or.inl rfl))) (by decide)),(λ _ _ _ _ _=>b_),(λ _ _ _ _ _=>(c_ (aa (aJ ay (hr.mono (by decide)) (by rfl) (aa (ak 1) (aa ai ab))) (aa (bH bw ai (aJ ay (hr.mono (by decide)) (by rfl) (aa (ak 1) (aa ai ab)))) ab))))⟩)))
 aZ)
 (ae (cY (i:=3) aN.nd rfl (Or.inl rfl) (tgs:=["_law_h"]) (fr:=[0,2]) ⟨cp (by kernel_rfl),rfl,(λ _ _ h=>h),(bo rfl T.range (aa (ak 1) ab)),(bB (λ _ _ _ _ _=>(bc (i:=0) (show(["_law_h","_law_flow_here","_law_counters"]:List Str).Nodup by decide+kernel) rfl (Or.inl rfl))) (by decide)),(λ _ _ _ _ _=>b_),(λ _ _ _ _ _=>(kj (tgs:=["_law_counter"]) (fr:=[1]) ⟨cp (by kernel_rfl),rfl,(λ _ _ h=>h),(eh (ak 2)),(bB (λ _ _ _ _ _=>(bc (i:=0) (show(["_law_counter","_law_flow_here"]:List Str).Nodup by decide+kernel) rfl (Or.inl rfl))) (by decide)),(λ _ _ _ _ _=>b_),(λ _ _ _ _ _=>(aJ ay (hr.mono (by decide)) (by rfl) (aa (ak 1) (aa ai ab))))⟩))⟩)
 (ae (aB (i:=4) aN.nd rfl (Or.inl rfl) (cz (aa (bH iT (c_ (aa ai ab)) (aD bO (by rfl) T.len (by decide+kernel) (aa (ak 2) ab))) ab)))
 (ae (aB (i:=5) aN.nd rfl (Or.inl rfl) (cz ab))
 (ae (dS B0 (aK oV (aD bO (by rfl) T.len (by decide+kernel) (aa (ak 5) ab)) (aD bO (by rfl) T.len (by decide+kernel) (aa (ak 4) ab)) (aH _))
 (ae (aB (i:=6) aN.nd rfl (Or.inl rfl) (cz ab))
 (ae (dF B0 rfl (bo rfl T.range (aa (ak 1) ab)) (bD (i:=7) aN.nd rfl (Or.inl rfl))
 (ae (aB (i:=8) aN.nd rfl (Or.inl rfl) (Lx rfl (by rfl) T.list (by rfl) T.zip (aa (aL aI (ak 4) (aD bO (by rfl) T.len (by decide+kernel) (aa (ak 5) ab)) (λ _ _=>rfl)) (aa (aL aI (ak 3) (ak 7) (λ _ _=>rfl)) (aa (ak 2) ab)))))
 (ae (aB (i:=9) aN.nd rfl (Or.inl rfl) (ki bY eK (by rfl) T.tuple (by decide+kernel) (tgs:=["_law_value","_law_weight","_law_pair"]) (fr:=[]) ⟨cp (by kernel_rfl),rfl,(λ _ _ h=>h),(eh (ak 8)),(BU (λ _ _ _ _ _=>(rp rfl (dY (bc (i:=0) (show(["_law_value","_law_weight","_law_pair"]:List Str).Nodup by decide+kernel) rfl (Or.inl rfl)) (dY (bc (i:=1) (show(["_law_value","_law_weight","_law_pair"]:List Str).Nodup by decide+kernel) rfl (Or.inl rfl)) (dY (bc (i:=2) (show(["_law_value","_law_weight","_law_pair"]:List Str).Nodup by decide+kernel) rfl (Or.inl rfl)) l_))))) (by decide) (by decide) (by decide)),(λ _ _ _ _ _=>b_),(λ _ _ _ _ _=>(aJ fk (hr.mono (by decide)) (by rfl) (aa (bH bw (ak 0) (ak 1)) (aa (aL aI (ak 2) ai (λ _ _=>rfl)) (aa (aL aI (ak 2) ai (λ _ _=>rfl)) ab)))))⟩))
 (ae (cb (aK (gJ hr.units) (ak 9) (ak 4) rfl)
 (aj (bZ (eE i7 i4 i6 bP (ak 4) (aa (ak 9) ab))))
 aZ)
 (aj (bZ (eE i7 i4 i6 bP (ak 6) (aa (eE i7 PySem.F.slot_list_index PySem.F.type_list_index (fT hr.units) (ak 4) (aa (ak 9) ab)) ab))))))))
 (aj (bZ (eE i7 i4 i6 bP (ak 5) (aa (bR bY (by rfl) T.tuple (by decide+kernel) (aa (ak 6) ab)) ab)))))))
 (aj (aV (c_ (aa (bR bY (by rfl) T.tuple (by decide+kernel) (aa (ak 5) ab)) (aa (ki bY eK (by rfl) T.tuple (by decide+kernel) (tgs:=["_law_k"]) (fr:=[0]) ⟨cp (by kernel_rfl),rfl,(λ _ _ h=>h),(bo rfl T.range (aa (aD bO (by rfl) T.len (by decide+kernel) (aa (ak 5) ab)) ab)),(bB (λ _ _ _ _ _=>(bc (i:=0) (show(["_law_k","_law_flow_here"]:List Str).Nodup by decide+kernel) rfl (Or.inl rfl))) (by decide)),(λ _ _ _ _ _=>(lQ (aK (df hr.units) (aJ ay (hr.mono (by decide)) (by rfl) (aa (ak 1) (aa ai ab))) ai (aH _)))),(λ _ _ _ _ _=>(ak 0))⟩) ab))))))))))),?_⟩
  refine gG (λ δ' M'=>∃(pc:Addr) (cs:List (Nat×Nat)),δ'=[some (.ref f),some (.int n),some (.ref pc),none,none,none,none,none,none,none]/\lC cs/\M' pc=some (.lst (cs.map pD))/\pc≠f/\Fl f cc M M') (λ N hN=>?_) ?_
  ·walk_at "rx";refine⟨f,cc,4,rfl,hF,by decide,by decide,λ d1 o1 OC Pp yW=>?_⟩;have F1:Fl f cc M _:=Fl.pick yW;generalize ah M f o1=M1 at*;walk_at "rx";refine⟨f,cc,4,rfl,F1.bp,by decide,by decide,λ d2 o2 Tq Tp GC=>?_⟩;have F2:=F1.trans (Fl.pick GC);generalize ah M1 f o2=M2 at*;walk_at "rx";intro p hp;refine hN _ _ ⟨p,[(d1.toNat,(1+d2).toNat)],rfl,.inl ⟨_,_,rfl,by omega,by omega,by omega⟩,?_,(F2.bp.ne hp).1,F2.trans (Fl.put F2.bp hp)⟩;rw[af];show _=some (MO.lst [.tup [.int (d1.toNat:Int),.int ((1+d2).toNat:Int)]]);rw[show((d1.toNat:Nat):Int)=d1 by omega,show(((1+d2).toNat:Nat):Int)=1+d2 by omega]
  rintro δ' M' ⟨pc,cs,rfl,hc,sM,eZ,F2⟩;refine gG (λ δ' M'=>∃(pc:Addr) (cs:List (Nat×Nat)),δ'=[some (.ref f),some (.int n),some (.ref pc),none,none,none,none,none,none,none]/\lC cs/\M' pc=some (.lst (cs.map pD))/\pc≠f/\Fl f cc M M') (λ N hN=>?_) ?_
  ·walk_at "rx";refine⟨f,cc,2,rfl,F2.bp,by decide,by decide,λ d1 o1 OC Pp yW=>?_⟩;have P1:=Fl.pick yW;have F3:=F2.trans P1;have sM:=P1.mv _ _ eZ sM;generalize ah M' f o1=M3 at*;walk_at "rx";refine aS (λ _=>?_) (λ _=>?_)
   ·walk_at "rx";refine⟨cG (by omega) (by omega),?_⟩;rw[dM];refine lb pD (λ ys M'=>Fl f cc M M'/\∀y∈ys,y.1<=2/\1<=y.2/\y.2<=2) (by decide) ⟨F3,λ y h=>by cases h⟩ (λ i x ys M' N hx hl hI hN=>?_) (λ cs M4 hl hI=>?_)
    ·walk_at "rx";refine⟨f,cc,3,rfl,hI.1.bp,by decide,by decide,λ d1 o1 OC Pp yW=>?_⟩;have F4:=hI.1.trans (Fl.pick yW);generalize ah M' f o1=M5 at*;walk_at "rx";refine⟨f,cc,2,rfl,F4.bp,by decide,by decide,λ d2 o2 Tq Tp GC=>?_⟩;have F5:=F4.trans (Fl.pick GC);generalize ah M5 f o2=M6 at*;walk_at "rx";have:=hN (d1.toNat,(1+d2).toNat) M6 ⟨F5,λ y hy=>?_⟩
     ·unfold pD at this;dsimp only at this;rw[show((d1.toNat:Nat):Int)=d1 by omega,show(((1+d2).toNat:Nat):Int)=1+d2 by omega]at this;exact this
     ·rcases B5.mp hy with e|e
      ·exact hI.2 y e
      ·rw[p7.mp e];dsimp only;omega
    ·obtain⟨F4,h4⟩:=hI;intro p hp;walk_at "rx";have hl:cs.length=2:=hl;obtain⟨a,b,rfl⟩:∃a b,cs=[a,b]:=by
      match cs,hl with
      |[a,b],_=>exact⟨a,b,rfl⟩
     have ha:=h4 a (by simp);have hb:=h4 b (by simp);exact hN _ _ ⟨p,[a,b],rfl,.inr ⟨_,_,_,_,rfl,ha.1,ha.2.1,ha.2.2,hb.1,hb.2.1,hb.2.2⟩,af,(F4.bp.ne hp).1,F4.trans (Fl.put F4.bp hp)⟩
   ·walk_at "rx";exact hN _ _ ⟨pc,cs,rfl,hc,sM,eZ,F3⟩
  clear sM eZ F2 hc M' pc cs;rintro δ' M1 ⟨pc,cs,rfl,hc,sM,eZ,F1⟩;have hbx:=hc.box;walk_at "rx";refine⟨cG (by omega) (by omega),?_⟩;rw[u7,dM];refine lb (β:=Addr×Cs) (λ y=>.ref y.1) (λ ys M'=>Fl f cc M M'/\M' pc=some (.lst (cs.map pD))/\∀y∈ys,y.1≠f/\M' y.1=some (.lst (y.2.map nD))/\y.2.length=cs.length) (by rw[x3];omega) ⟨F1,sM,λ y h=>by cases h⟩ (λ i x ys M' N hx hl hI hN=>?_) (λ ys M4 hl hI=>?_)
  ·obtain⟨F2,sM,vq⟩:=hI;walk_at "rx";refine uW pD nD (λ zs M'=>Fl f cc M M'/\M' pc=some (.lst (cs.map pD))/\∀y∈ys,y.1≠f/\M' y.1=some (.lst (y.2.map nD))/\y.2.length=cs.length) (by omega) ⟨F2,sM,vq⟩ (λ _ _ h=>h.2.1) (λ i x zs M' N hx hl hI hN=>?_) (λ zs M4 hl hI=>?_)
   ·obtain⟨F3,sM,vq⟩:=hI;walk_at "rx";refine⟨f,cc,3,rfl,F3.bp,by decide,by decide,λ d o h0 h1 Bl=>?_⟩;have P:=Fl.pick Bl;have:=hN d.toNat _ ⟨F3.trans P,P.mv _ _ eZ sM,λ y hy=>⟨(vq y hy).1,P.mv _ _ (vq y hy).1 (vq y hy).2.1,(vq y hy).2.2⟩⟩;unfold nD at this;rw[show((d.toNat:Nat):Int)=d by omega]at this;exact this
   ·obtain⟨F3,sM,vq⟩:=hI;intro p hp;refine hN (p,zs) _ ⟨F3.trans (Fl.put F3.bp hp),by rw[av (bM sM hp)];exact sM,λ y hy=>?_⟩;rcases B5.mp hy with e|e
    ·have:=vq y e;exact⟨this.1,by rw[av (bM this.2.1 hp)];exact this.2.1,this.2.2⟩
    ·rw[p7.mp e];exact⟨(F3.bp.ne hp).1,af,hl⟩
  ·obtain⟨F4,sM,vq⟩:=hI;rw[x3]at hl;intro oI wM;have F5:=F4.trans (Fl.put (o:=.lst (ys.map λ y=>.ref y.1)) F4.bp wM);have sM:ah M4 oI (.lst (ys.map λ y=>.ref y.1)) pc=some (.lst (cs.map pD)):=by rw[av (bM sM wM)];exact sM
   have vq:∀y∈ys,ah M4 oI (.lst (ys.map λ y=>.ref y.1)) y.1=some (.lst (y.2.map nD))/\y.2.length=cs.length:=λ y hy=>⟨by rw[av (bM (vq y hy).2.1 wM)];exact(vq y hy).2.1,(vq y hy).2.2⟩;have K4:ah M4 oI (.lst (ys.map λ y=>.ref y.1)) oI=some (.lst (ys.map λ y=>.ref y.1)):=af;generalize ah M4 oI (.lst (ys.map λ y=>.ref y.1))=M5 at*;have el:(ys.map (·.2)).length=n:=by rw[B4];exact hl
   have C:=hc.gq (ws:=ys.map (·.2)) λ w hw=>by obtain⟨y,hy,rfl⟩:=D6.mp hw;exact(vq y hy).2
   rw[el]at C;have hz:f_ cs.length∈sj cs:=xy hc.pos;have hU:∀i s,i < n->s.length=cs.length->stC cs ((ys.map (·.2)).getD i []) s∈sj cs:=λ i s hi hs=>xN hc.pos (by rw[c8,s9,i5 (by omega)];exact(vq _ (y9 _)).2) hs;generalize W5:(λ i s=>stC cs ((ys.map (·.2)).getD i []) s)=F at C;walk_at "rx";rw[B4];refine tP (by omega) (by omega) ?_;rw[u7];walk_at "rx";intro p hp;walk_at "rx";intro q hq;have X0:Sx fV F (f_ cs.length) n (sj cs) p q [f_ cs.length] [] M5 (ah (ah M5 p (.lst [.tup (List.replicate cs.length (.int 0))])) q (.lst [])):=by have jO:p≠q:=bM (show ah M5 p (.lst [.tup (List.replicate cs.length (.int 0))]) p=some _ from af) hq;refine⟨Ext.new (Ext.new Ext.rfl hp _) hq _,hp,Ext.free (Ext.new Ext.rfl hp _) hq,jO,?_,af,qJ.start hz,by simp⟩;rw[av jO,af];show _=some (MO.lst [fV (f_ cs.length)]);unfold fV f_;rw[map_replicate];rfl
   generalize ah (ah M5 p (.lst [.tup (List.replicate cs.length (.int 0))])) q (.lst [])=M6 at*;walk_at "rx";refine dX ⟨λ m δ M'=>∃(v6 v7 v8 v9:Option D) (aO:List Cs) (rows:List Row),δ=[some (.ref f),some (.int n),some (.ref pc),some (.ref oI),some (.ref p),some (.ref q),v6,v7,v8,v9]/\Sx fV F (f_ cs.length) n (sj cs) p q aO rows M5 M'/\m=20 - rows.length,⟨_,none,none,none,none,_,[],rfl,X0,rfl⟩,?_⟩;rintro m δ M' ⟨v6,v7,v8,v9,aO,rows,rfl,X,rfl⟩;have hfew:=X.cI;have hst:=X.st;have oM:=X.gD;walk_at "rx";rw[B4,B4];refine aS (λ iX=>?_) (λ K_=>?_)
   ·obtain⟨s,hs⟩:∃s,aO[rows.length]?=some s:=⟨_,i5 (by omega)⟩;have Pc:s.length=cs.length:=(X.ex.BI s (k9 hs)).ok C (by simp[f_]);refine⟨λ δ' kh=>∃(v6 v7 v8 v9:Option D) (aO:List Cs) (r:Row),δ'=[some (.ref f),some (.int n),some (.ref pc),some (.ref oI),some (.ref p),some (.ref q),v6,v7,v8,v9]/\Sx fV F (f_ cs.length) n (sj cs) p q aO (rows++[r]) M5 kh,?_,?_⟩
    ·rintro δ' kh ⟨v6,v7,v8,v9,aO,r,rfl,X⟩;exact⟨_,by rw[o6,j9];omega,v6,v7,v8,v9,aO,_,rfl,X,rfl⟩
    ·walk_at "rx";intro pw EW;have fw:=X.free EW;have X1:=X.new EW (.lst []);have Oe:ah M' pw (.lst []) pw=some (.lst (([]:Row).map D.int)):=af;generalize ah M' pw (.lst [])=M7 at*;walk_at "rx";refine⟨cG (by omega) (by omega),?_⟩;rw[u7];refine fU (λ i δ M8=>∃(v7 v8 v9:Option D) (aO:List Cs) (r:Row),δ=[some (.ref f),some (.int n),some (.ref pc),some (.ref oI),some (.ref p),some (.ref q),some (.ref pw),v7,v8,v9]/\Sx fV F (f_ cs.length) n (sj cs) p q aO rows M5 M8/\M8 pw=some (.lst (r.map D.int))/\cD F aO s i r/\aO[rows.length]?=some s) ⟨v7,v8,v9,aO,[],rfl,X1,Oe,cD.nil _ _ _,hs⟩ (λ i d δ M8 hd h=>?_) (λ δ M8 h=>?_)
     ·obtain⟨v7,v8,v9,aO,r,rfl,X,hw,hr,hs⟩:=h;obtain⟨hi,rfl⟩:=de hd;obtain⟨y,hy⟩:∃y,ys[i]?=some y:=⟨_,i5 (by omega)⟩;have Bf:=vq y (k9 hy);have eF:F i s=stC cs y.2 s:=by rw[<- W5];show stC cs ((ys.map (·.2)).getD i []) s=_;rw[c8,s9,hy];rfl
      have RN:F i s∈sj cs:=by rw[<- W5];exact hU i s hi Pc
      have tz:=xG (ws:=y.2) (s:=s) Bf.2 Pc;have hst:=X.st;have oM:=X.gD;walk_at "rx";rw[B4];refine cF X.st (d:=fV s) (bG (by rw[s9,hs];rfl)) ?_;walk_at "rx";refine cF (X.ext _ _ K4) (d:=.ref y.1) (by rw[D3];exact bG (by rw[s9,hy];rfl)) ?_;walk_at "rx";refine⟨fV s,.ref y.1,.ref pc,s.map nD,y.2.map nD,cs.map pD,cs.length,rfl,rfl,dU (X.ext _ _ Bf.1),dU (X.ext _ _ sM),by rw[B4];exact Pc,by rw[B4];exact Bf.2,by rw[B4],by omega,by omega,λ pt Ww=>?_⟩;rw[tz.1];have hw:ah M8 pt (.lst ((vM cs y.2 s).map Cb)) pw=some (.lst (r.map D.int)):=by rw[av (bM hw Ww)];exact hw
      have X:=X.new Ww (.lst ((vM cs y.2 s).map Cb));have ht:ah M8 pt (.lst ((vM cs y.2 s).map Cb)) pt=some (.lst ((vM cs y.2 s).map Cb)):=af;generalize ah M8 pt (.lst ((vM cs y.2 s).map Cb))=M9 at*;walk_at "rx";have htl:=xI (cs:=cs) (ws:=y.2) (s:=s);refine k_ Cb (λ t=>nD (cnt (t.1+t.2.1) t.2.2.1 t.2.2.2)) (by omega) ht (λ j t N hj hN=>?_) ?_
      ·obtain⟨a,b,lo,w⟩:=t;have hm:=hc.pos _ (xH (k9 hj));unfold Cb pD;walk_at "rx";exact⟨a+b,lo,w,rfl,hm,hN⟩
      ·have e9:(vM cs y.2 s).map (λ t=>nD (cnt (t.1+t.2.1) t.2.2.1 t.2.2.2))=(F i s).map nD:=by rw[eF,tz.2,D7];rfl
       rw[e9];refine dq ?_;have OB:(1:Nat)<=60:=by decide
       have Of:(sj cs).length<=300:=by omega
       have wO:n<=12:=by omega
       with_reducible refine lU JX OB X Of wO fw hw hr hs hi RN ?_ ?_ ?_ (λ fO r' M' X' K5 EV jN=>?_)
       ·rfl
       ·rfl
       ·rfl
       ·exact⟨_,_,_,fO,r',rfl,X',K5,EV,jN⟩
     ·obtain⟨v7,v8,v9,aO,r,rfl,X,hw,hr,hs⟩:=h;rw[bu]at hr;have hfew:=X.cI;have oM:=X.gD;walk_at "rx";refine⟨⟨rfl,_,oM⟩,?_⟩;walk_at "rx";refine cj hw ?_;walk_at "rx";refine fS oM (by rw[B4];exact p5 (show rows.length<=300 by omega) (by decide)) ?_;exact⟨_,_,_,_,aO,r,rfl,X.next hs hr⟩
   ·have el:rows.length=aO.length:=by have:=X.le;omega
    have TG:=X.ex.tb C (by simp[f_]) el (by omega) (by omega);have F6:=F5.trans (i_ X.ext F5.bp);have Ze:rows.length<=16:=by omega
    walk_at "rx";refine cj oM ?_;walk_at "rx";rw[B4];refine⟨cG (by omega) (by omega),?_⟩;rw[u7];refine oq (λ i acc M7=>∃ls:Row,acc=ls.map D.int/\iJ i ls/\Fl f cc M M7) ⟨[],rfl,iJ.nil 0,F6⟩ (λ i acc M7 hi h=>?_) (λ i d acc M7 hd h=>?_) (λ acc M7 h=>?_)
    ·obtain⟨ls,rfl,L,_⟩:=h;rw[bu]at hi;have:=L.cI;rw[B4];exact small (by omega)
    ·obtain⟨ls,rfl,L,F7⟩:=h;obtain⟨hi,rfl⟩:=de hd;walk_at "rx";refine⟨f,cc,2,rfl,F7.bp,by decide,by decide,λ d o _ _ Bl=>?_⟩;have F8:=F7.trans (Fl.pick Bl);generalize ah M7 f o=M8 at*;walk_at "rx";refine aS (λ _=>?_) (λ _=>?_)
     ·walk_at "rx";exact⟨ls++[(i:Int)],by rw[B6,D3];rfl,L.add,F8⟩
     ·exact⟨ls,rfl,L.up,F8⟩
    ·obtain⟨ls,rfl,L,F7⟩:=h;rw[bu]at L;walk_at "rx";exact az (k _ rows ls _ TG Ze L F7)
end
def Co:gs:=λ ds M Q=>∃(a:Addr) (sz:Cs) (l:Str),ds=[.ref a,.str l]/\M a=some (.lst (sz.map nD))/\(∀x∈sz,x < 5)/\sz.length<=6/\∀(m:Nat) (rows:List Row) (ls:Row) (M':Mem),dC m sz.length rows->m<=16->iJ m ls->Ext M M'->Q (eu rows ls) M'
section
variable {P:Program}{w:World}{K:J8}{mg:Str->Option Value}{base:Heap}
theorem aW:aM ["_law_sizes","_law_last","_law_states","_law_rows","_law_losing","_law_row","_law_size","_law_number","_law_great","_law_then"] ["_law_sizes","_law_last"] (aq (top 14)):=⟨rfl,rfl,rfl,by decide+kernel,rfl,by decide+kernel,by decide+kernel⟩
theorem Jc{f:Addr}{fd:FuncData}(F:jk K "_law_nim_table" "_law_nim_table" (top 14) f fd)(T:lP K mg):cw P w K mg base fA 1 f fd ["_law_sizes","_law_last"] (cV K Co):=by
 refine oU F aW (λ ds M Q h=>?_) (λ dQ A outer s H E ds M Q hr h=>?_)
 ·obtain⟨a,sz,l,rfl,_⟩:=h;rfl
 ·obtain⟨a,sz,l,rfl,ha,h5,h6,k⟩:=h;obtain⟨L,eL,hL⟩:∃L:Nat,(if decide (l=Str.ofString "loses")=true then(1:Int)else 0)=(L:Int)/\L<=1:=by
   by_cases z:l=Str.ofString "loses"
   ·exact⟨1,by simp[z],by omega⟩
   ·exact⟨0,by simp[z],by omega⟩
  have C:=Hb (h:=sz.length) hL h5;have hz:((0,0):Nat×Nat)∈Ga:=yy.mpr ⟨by decide,by decide⟩;have Tj:Ga.length=16:=by decide
  refine⟨_,(ae (aB (i:=2) aW.nd rfl (Or.inl rfl) (cz (aa (c_ (aa ai (aa ai ab))) ab)))
 (ae (aB (i:=3) aW.nd rfl (Or.inl rfl) (cz ab))
 (ae (dS B0 (aK oV (aD bO (by rfl) T.len (by decide+kernel) (aa (ak 3) ab)) (aD bO (by rfl) T.len (by decide+kernel) (aa (ak 2) ab)) (aH _))
 (ae (fg (aL aI (ak 2) (aD bO (by rfl) T.len (by decide+kernel) (aa (ak 3) ab)) (λ _ _=>rfl)) (mK (n:=2) rfl (cU (bD (i:=7) aW.nd rfl (Or.inl rfl)) (cU (bD (i:=8) aW.nd rfl (Or.inl rfl)) jn))))
 (ae (aB (i:=5) aW.nd rfl (Or.inl rfl) (cz ab))
 (ae (dF B0 rfl (eh (ak 0)) (bD (i:=6) aW.nd rfl (Or.inl rfl))
 (ae (aB (i:=9) aW.nd rfl (Or.inl rfl) (c_ (aa (bH Q8 (ak 7) (ak 6)) (aa (bH iT (aD (R_ rfl) (by rfl) T.max (by decide+kernel) (aa (ak 8) (aa (bR ou (by rfl) T.int (by decide+kernel) (aa (eD Ra (ak 6) ai (aH _)) ab)) ab))) (bR ou (by rfl) T.int (by decide+kernel) (aa (eD (df hr.units) (ak 1) xE (aH _)) ab))) ab))))
 (ae (cb (aK (gJ hr.units) (ak 9) (ak 2) rfl)
 (aj (bZ (eE i7 i4 i6 bP (ak 2) (aa (ak 9) ab))))
 aZ)
 (aj (bZ (eE i7 i4 i6 bP (ak 5) (aa (eE i7 PySem.F.slot_list_index PySem.F.type_list_index (fT hr.units) (ak 2) (aa (ak 9) ab)) ab)))))))
 (aj (bZ (eE i7 i4 i6 bP (ak 3) (aa (bR bY (by rfl) T.tuple (by decide+kernel) (aa (ak 5) ab)) ab))))))))
 (ae (cY (i:=4) aW.nd rfl (Or.inl rfl) (tgs:=["_law_k","_law_state"]) (fr:=[1]) ⟨cp (by kernel_rfl),rfl,(λ _ _ h=>h),(lR rfl T.enumerate (aa (ak 2) ab)),(sV (λ _ _ _ _ _=>(rp rfl (dY (bc (i:=0) (show(["_law_k","_law_state","_law_last"]:List Str).Nodup by decide+kernel) rfl (Or.inl rfl)) (dY (bc (i:=1) (show(["_law_k","_law_state","_law_last"]:List Str).Nodup by decide+kernel) rfl (Or.inl rfl)) l_)))) (by decide) (by decide)),(λ _ _ _ _ _=>(lQ (aK (df hr.units) (aL aI (ak 1) ai (λ _ _=>rfl)) (bR ou (by rfl) T.int (by decide+kernel) (aa (w_and (eD (df hr.units) (ak 2) xE (aH _)) (sW (eD (df hr.units) (aL aI (ak 1) ai (λ _ _=>rfl)) ai (aH _)))) ab)) (aH _)))),(λ _ _ _ _ _=>(ak 0))⟩)
 (aj (aV (c_ (aa (bR bY (by rfl) T.tuple (by decide+kernel) (aa (ak 3) ab)) (aa (bR bY (by rfl) T.tuple (by decide+kernel) (aa (ak 4) ab)) ab))))))))),?_⟩
  walk_at "rx";intro p hp;walk_at "rx";intro q hq;have X0:Sx pD (stN L sz) (0,0) sz.length Ga p q [(0,0)] [] M (ah (ah M p (.lst [.tup [.int 0,.int 0]])) q (.lst [])):=by have jO:p≠q:=bM (show ah M p (.lst [.tup [.int 0,.int 0]]) p=some _ from af) hq;refine⟨Ext.new (Ext.new Ext.rfl hp _) hq _,hp,Ext.free (Ext.new Ext.rfl hp _) hq,jO,?_,af,qJ.start hz,by simp⟩;rw[av jO,af];rfl
  generalize ah (ah M p (.lst [.tup [.int 0,.int 0]])) q (.lst [])=M6 at*;walk_at "rx";refine dX ⟨λ m δ M'=>∃(v5 v6 v7 v8 v9:Option D) (aO:List (Nat×Nat)) (rows:List Row),δ=[some (.ref a),some (.str l),some (.ref p),some (.ref q),none,v5,v6,v7,v8,v9]/\Sx pD (stN L sz) (0,0) sz.length Ga p q aO rows M M'/\m=20 - rows.length,⟨_,none,none,none,none,none,_,[],rfl,X0,rfl⟩,?_⟩;rintro m δ M' ⟨v5,v6,v7,v8,v9,aO,rows,rfl,X,rfl⟩;have hfew:=X.cI;rw[Tj]at hfew;have hst:=X.st;have oM:=X.gD;walk_at "rx";rw[B4,B4];refine aS (λ iX=>?_) (λ K_=>?_)
  ·obtain⟨s,hs⟩:∃s,aO[rows.length]?=some s:=⟨_,i5 (by omega)⟩;have JJ:s∈Ga:=X.ex.sub s (k9 hs);refine⟨λ δ' kh=>∃(v5 v6 v7 v8 v9:Option D) (aO:List (Nat×Nat)) (r:Row),δ'=[some (.ref a),some (.str l),some (.ref p),some (.ref q),none,v5,v6,v7,v8,v9]/\Sx pD (stN L sz) (0,0) sz.length Ga p q aO (rows++[r]) M kh,?_,?_⟩
   ·rintro δ' kh ⟨v5,v6,v7,v8,v9,aO,r,rfl,X⟩;exact⟨_,by rw[o6,j9];omega,v5,v6,v7,v8,v9,aO,_,rfl,X,rfl⟩
   ·walk_at "rx";rw[B4];refine cF X.st (d:=.tup [.int (s.1:Int),.int (s.2:Int)]) (bG (by rw[s9,hs];rfl)) ?_;walk_at "rx";intro pw EW;have fw:=X.free EW;have X1:=X.new EW (.lst []);have Oe:ah M' pw (.lst []) pw=some (.lst (([]:Row).map D.int)):=af;generalize ah M' pw (.lst [])=M7 at*;have ha7:=X1.ext _ _ ha;walk_at "rx";refine zd (ds:=sz.map nD) (λ i δ M8=>∃(v6 v9:Option D) (aO:List (Nat×Nat)) (r:Row),δ=[some (.ref a),some (.str l),some (.ref p),some (.ref q),none,some (.ref pw),v6,some (.int (s.1:Int)),some (.int (s.2:Int)),v9]/\Sx pD (stN L sz) (0,0) sz.length Ga p q aO rows M M8/\M8 pw=some (.lst (r.map D.int))/\cD (stN L sz) aO s i r/\aO[rows.length]?=some s) ⟨v6,v9,aO,[],rfl,X1,Oe,cD.nil _ _ _,hs⟩ (λ i δ M8 _ h=>?_) (λ i d δ M8 hd h=>?_) (λ δ M8 h=>?_)
    ·obtain⟨_,_,_,_,_,X,_⟩:=h;exact X.ext _ _ ha
    ·obtain⟨v6,v9,aO,r,rfl,X,hw,hr,hs⟩:=h;rw[s9]at hd;obtain⟨y,hy,rfl⟩:=Option.map_eq_some_iff.mp hd;have Gy:i < sz.length:=(g9.mp hy).1;have ey:sz.getD i 0=y:=by rw[c8,hy];rfl
     have e1:max (s.2:Int) (if decide (1 < (y:Int))=true then 1 else 0)=((max s.2 (if 1 < y then 1 else 0):Nat):Int):=by
      by_cases z:1 < y
      ·rw[J6 z,J6 (by rw[decide_eq_true_iff];omega)];omega
      ·rw[J7 z,J7 (by rw[decide_eq_true_iff];omega)];omega
     walk_at "rx";rw[e1];rw[show(if decide (l="loses")=true then(1:Int)else 0)=(L:Int)from eL];have h0:((max s.2 (if 1 < y then 1 else 0):Nat):Int)*(L:Int)=((max s.2 (if 1 < y then 1 else 0)*L:Nat):Int):=by rw[Int.natCast_mul]
     refine nB (FU (by omega) (by omega)) ?_;rw[h0,xq];refine iS ⟨by show 2<=sizeLine;decide,dq ?_⟩;have OB:(1:Nat)<=60:=by decide
     have Of:Ga.length<=300:=by rw[Tj];decide
     have wO:sz.length<=12:=by omega
     have RN:=C.cl s i Gy JJ
     with_reducible refine lU FC OB X Of wO fw hw hr hs Gy RN ?_ ?_ ?_ (λ fO r' M' X' K5 EV jN=>?_)
     ·show some (some (pD (s.1^^^y,max s.2 (if 1 < y then 1 else 0)*L)))=some (some (pD (stN L sz i s)));unfold stN;rw[ey]
     ·rfl
     ·rfl
     ·exact⟨_,_,fO,r',rfl,X',K5,EV,jN⟩
    ·obtain⟨v6,v9,aO,r,rfl,X,hw,hr,hs⟩:=h;rw[B4]at hr;have hfew:=X.cI;rw[Tj]at hfew;have oM:=X.gD;walk_at "rx";refine⟨⟨rfl,_,oM⟩,?_⟩;walk_at "rx";refine cj hw ?_;walk_at "rx";refine fS oM (by rw[B4];exact p5 (show rows.length<=300 by omega) (by decide)) ?_;exact⟨_,_,_,_,_,aO,r,rfl,X.next hs hr⟩
  ·have el:rows.length=aO.length:=by have:=X.le;omega
   have TG:=X.ex.tb C hz el (by omega) (by omega);walk_at "rx";refine FV (ds:=e_ (aO.map pD)) (λ i acc M7=>M7=M'/\∃ls:Row,acc=ls.map D.int/\iJ i ls) ⟨rfl,[],rfl,iJ.nil 0⟩ (λ i acc M7 _ h=>?_) (λ i acc M7 hi h=>?_) (λ i d acc M7 hd h=>?_) (λ acc M7 h=>?_)
   ·obtain⟨rfl,_⟩:=h;show iO (.ref p) M7=_;unfold iO;rw[dU hst];rfl
   ·obtain⟨rfl,ls,rfl,L⟩:=h;rw[dh,B4]at hi;have:=L.cI;rw[B4];exact small (by omega)
   ·obtain⟨rfl,ls,rfl,L⟩:=h;obtain⟨hi,rfl⟩:=mr hd;rw[B4]at hi;obtain⟨x,hx⟩:∃x,aO[i]?=some x:=⟨_,i5 hi⟩;rw[show(aO.map pD).getD i .bx=.tup [.int (x.1:Int),.int (x.2:Int)] by rw[c8,s9,hx];rfl];have y1:∃Ek:Row,ls.map D.int++[.int (i:Int)]=Ek.map D.int/\iJ (i+1) Ek:=⟨ls++[(i:Int)],by rw[B6];rfl,L.add⟩;have y2:∃Ek:Row,ls.map D.int=Ek.map D.int/\iJ (i+1) Ek:=⟨ls,rfl,L.up⟩;walk_at "rx";refine aS (λ _=>?_) (λ _=>?_)
    ·walk_at "rx";refine aS (λ _=>?_) (λ _=>?_)
     ·walk_at "rx";exact⟨rfl,y1⟩
     ·exact⟨rfl,y2⟩
    ·walk_at "rx";refine aS (λ _=>?_) (λ _=>?_)
     ·walk_at "rx";exact⟨rfl,y1⟩
     ·exact⟨rfl,y2⟩
   ·obtain⟨rfl,ls,rfl,L⟩:=h;rw[dh,B4]at L;intro pl hpl;walk_at "rx";refine cj (by rw[av (bM oM hpl)];exact oM) ?_;walk_at "rx";refine cj af ?_;walk_at "rx";exact az (k _ rows ls _ TG (by omega) (by rw[el];exact L) (X.ext.new hpl _))
end
def xU:gs:=λ ds M Q=>∃(f c:Addr) (m h:Nat) (rows:List Row) (ls:Row),ds=[.ref f,eu rows ls]/\Flow M f c/\dC m h rows/\m<=6/\h<=3/\(∀(m:Nat) (rows:List Row) (ls:Row) (M':Mem),dC m h rows->m<=18->iJ m ls->Fl f c M M'->Q (eu rows ls) M')
theorem L9{m h:Nat}{rows:List Row}(G:Tb m h rows):gr (rows.map row) 0=some (.tup ((rows.getD 0 []).map D.int))/\(rows.getD 0 []).length=h:=by
 have h0:0 < rows.length:=by rw[G.len];exact G.pos
 rw[c8,i5 h0];exact⟨bG (j:=0) (by rw[s9,i5 h0];rfl),(G.row _ (y9 h0)).1⟩
section
variable {P:Program}{w:World}{K:J8}{mg:Str->Option Value}{base:Heap}
theorem bj:aM ["_law_flow_here","_law_table_here","_law_many","_law_wide","_law_weights","_law_states","_law_rows","_law_row","_law_h","_law_thing","_law_count","_law_then"] ["_law_flow_here","_law_table_here"] (aq (top 15)):=⟨rfl,rfl,rfl,by decide+kernel,rfl,by decide+kernel,by decide+kernel⟩
theorem DY{f:Addr}{fd:FuncData}(F:jk K "_law_blown" "_law_blown" (top 15) f fd)(T:lP K mg)(ay:cX P w K mg base 1 "_law_pick" ["_law_flow_here","_law_many"] iR):cw P w K mg base fA 2 f fd ["_law_flow_here","_law_table_here"] (cV K xU):=by
 refine oU F bj (λ ds M Q h=>?_) (λ dQ A outer s H E ds M Q hr h=>?_)
 ·obtain⟨f,c,m,h,rows,ls,rfl,_⟩:=h;rfl
 ·obtain⟨f,cc,m,h,fB,LD,rfl,hF,G,hm,hh,k⟩:=h;have K7:=L9 G.tb;have uD:eu fB LD=.tup [.tup (fB.map row),row LD]:=rfl;rw[uD];refine⟨_,(ae (aB (i:=2) bj.nd rfl (Or.inl rfl) (aD bO (by rfl) T.len (by decide+kernel) (aa (aL aI (aL aI (ak 1) ai (λ _ _=>rfl)) ai (λ _ _=>rfl)) ab)))
 (ae (aB (i:=3) bj.nd rfl (Or.inr rfl) (bH bw ai (aJ ay (hr.mono (by decide)) (by rfl) (aa (ak 0) (aa ai ab)))))
 (ae (cY (i:=4) bj.nd rfl (Or.inl rfl) (tgs:=["_law_h"]) (fr:=[0,3]) ⟨cp (by kernel_rfl),rfl,(λ _ _ h=>h),(bo rfl T.range (aa (ak 2) ab)),(bB (λ _ _ _ _ _=>(bc (i:=0) (show(["_law_h","_law_flow_here","_law_wide"]:List Str).Nodup by decide+kernel) rfl (Or.inl rfl))) (by decide)),(λ _ _ _ _ _=>b_),(λ _ _ _ _ _=>(aJ ay (hr.mono (by decide)) (by rfl) (aa (ak 1) (aa (ak 2) ab))))⟩)
 (ae (aB (i:=5) bj.nd rfl (Or.inl rfl) (cz (aa (c_ (aa ai (aa ai ab))) ab)))
 (ae (aB (i:=6) bj.nd rfl (Or.inl rfl) (cz ab))
 (ae (dS B0 (aK oV (aD bO (by rfl) T.len (by decide+kernel) (aa (ak 6) ab)) (aD bO (by rfl) T.len (by decide+kernel) (aa (ak 5) ab)) (aH _))
 (ae (fg (aL aI (ak 5) (aD bO (by rfl) T.len (by decide+kernel) (aa (ak 6) ab)) (λ _ _=>rfl)) (mK (n:=2) rfl (cU (bD (i:=9) bj.nd rfl (Or.inl rfl)) (cU (bD (i:=10) bj.nd rfl (Or.inl rfl)) jn))))
 (ae (aB (i:=7) bj.nd rfl (Or.inl rfl) (cz ab))
 (ae (dF B0 rfl (bo rfl T.range (aa (ak 2) ab)) (bD (i:=8) bj.nd rfl (Or.inl rfl))
 (ae (aB (i:=11) bj.nd rfl (Or.inl rfl) (c_ (aa (aL aI (aL aI (aL aI (ak 1) ai (λ _ _=>rfl)) (ak 9) (λ _ _=>rfl)) (ak 8) (λ _ _=>rfl)) (aa (bH jI (bH bw (ak 10) (aL aI (ak 4) (ak 8) (λ _ _=>rfl))) (ak 3)) ab))))
 (ae (cb (aK (gJ hr.units) (ak 11) (ak 5) rfl)
 (aj (bZ (eE i7 i4 i6 bP (ak 5) (aa (ak 11) ab))))
 aZ)
 (aj (bZ (eE i7 i4 i6 bP (ak 7) (aa (eE i7 PySem.F.slot_list_index PySem.F.type_list_index (fT hr.units) (ak 5) (aa (ak 11) ab)) ab)))))))
 (aj (bZ (eE i7 i4 i6 bP (ak 6) (aa (bR bY (by rfl) T.tuple (by decide+kernel) (aa (ak 7) ab)) ab))))))))
 (aj (aV (c_ (aa (bR bY (by rfl) T.tuple (by decide+kernel) (aa (ak 6) ab)) (aa (ki bY eK (by rfl) T.tuple (by decide+kernel) (tgs:=["_law_k","_law_state"]) (fr:=[1]) ⟨cp (by kernel_rfl),rfl,(λ _ _ h=>h),(lR rfl T.enumerate (aa (ak 5) ab)),(sV (λ _ _ _ _ _=>(rp rfl (dY (bc (i:=0) (show(["_law_k","_law_state","_law_table_here"]:List Str).Nodup by decide+kernel) rfl (Or.inl rfl)) (dY (bc (i:=1) (show(["_law_k","_law_state","_law_table_here"]:List Str).Nodup by decide+kernel) rfl (Or.inl rfl)) l_)))) (by decide) (by decide)),(λ _ _ _ _ _=>(lQ (aK (t_ hr.units) (aL aI (ak 1) ai (λ _ _=>rfl)) (aL aI (ak 2) ai (λ _ _=>rfl)) rfl))),(λ _ _ _ _ _=>(ak 0))⟩) ab))))))))))),?_⟩
  walk_at "rx";refine bI K7.1 ?_;walk_at "rx";rw[B4,K7.2];refine⟨f,cc,2,rfl,hF,by decide,by decide,λ d1 o1 OC Pp yW=>?_⟩;have F1:Fl f cc M _:=Fl.pick yW;generalize ah M f o1=M1 at*;obtain⟨w,ew⟩:∃n:Nat,2+d1=(n:Int):=⟨(2+d1).toNat,by omega⟩;walk_at "rx";rw[ew];refine⟨cG (by omega) (by omega),?_⟩;rw[u7,dM];refine lb nD (λ ys M'=>Fl f cc M M') (by rw[x3];omega) F1 (λ i x ys M' N hx hl hI hN=>?_) (λ ws M4 hl F4=>?_)
  ·walk_at "rx";refine⟨f,cc,w,rfl,hI.bp,by omega,by omega,λ d o h0 h1 Bl=>?_⟩;obtain⟨y,rfl⟩:∃n:Nat,d=(n:Int):=⟨d.toNat,by omega⟩;exact hN y _ (hI.trans (Fl.pick Bl))
  rw[x3]at hl;intro oI wM;have F5:=F4.trans (Fl.put (o:=.lst (ws.map nD)) F4.bp wM);have K4:ah M4 oI (.lst (ws.map nD)) oI=some (.lst (ws.map nD)):=af;generalize ah M4 oI (.lst (ws.map nD))=M5 at*;have Ws:0 < w:=by omega
  have C:=Hd (ws:=ws) G Ws;have hz:((0,0):Nat×Nat)∈By m w:=mf.mpr ⟨G.tb.pos,Ws⟩;have Tj:(By m w).length<=18:=by rw[Km];exact D8 (Nat.mul_le_mul hm (show w<=3 by omega)) (by decide)
  walk_at "rx";intro p hp;walk_at "rx";intro q hq;have X0:Sx pD (O8 fB w ws) (0,0) h (By m w) p q [(0,0)] [] M5 (ah (ah M5 p (.lst [.tup [.int 0,.int 0]])) q (.lst [])):=by have jO:p≠q:=bM (show ah M5 p (.lst [.tup [.int 0,.int 0]]) p=some _ from af) hq;refine⟨Ext.new (Ext.new Ext.rfl hp _) hq _,hp,Ext.free (Ext.new Ext.rfl hp _) hq,jO,?_,af,qJ.start hz,by simp⟩;rw[av jO,af];rfl
  generalize ah (ah M5 p (.lst [.tup [.int 0,.int 0]])) q (.lst [])=M6 at*;walk_at "rx";refine dX ⟨λ m' δ M'=>∃(v7 v8 v9 v10 v11:Option D) (aO:List (Nat×Nat)) (rows:List Row),δ=[some (.ref f),some (.tup [.tup (fB.map row),row LD]),some (.int h),some (.int w),some (.ref oI),some (.ref p),some (.ref q),v7,v8,v9,v10,v11]/\Sx pD (O8 fB w ws) (0,0) h (By m w) p q aO rows M5 M'/\m'=20 - rows.length,⟨_,none,none,none,none,none,_,[],rfl,X0,rfl⟩,?_⟩;rintro m' δ M' ⟨v7,v8,v9,v10,v11,aO,rows,rfl,X,rfl⟩;have hfew:=X.cI;have hst:=X.st;have oM:=X.gD;walk_at "rx";rw[B4,B4];refine aS (λ iX=>?_) (λ K_=>?_)
  ·obtain⟨s,hs⟩:∃s,aO[rows.length]?=some s:=⟨_,i5 (by omega)⟩;have JJ:s∈By m w:=X.ex.sub s (k9 hs);have Og:=(mf.mp JJ).1;refine⟨λ δ' kh=>∃(v7 v8 v9 v10 v11:Option D) (aO:List (Nat×Nat)) (r:Row),δ'=[some (.ref f),some (.tup [.tup (fB.map row),row LD]),some (.int h),some (.int w),some (.ref oI),some (.ref p),some (.ref q),v7,v8,v9,v10,v11]/\Sx pD (O8 fB w ws) (0,0) h (By m w) p q aO (rows++[r]) M5 kh,?_,?_⟩
   ·rintro δ' kh ⟨v7,v8,v9,v10,v11,aO,r,rfl,X⟩;exact⟨_,by rw[o6,j9];omega,v7,v8,v9,v10,v11,aO,_,rfl,X,rfl⟩
   ·walk_at "rx";rw[B4];refine cF X.st (d:=.tup [.int (s.1:Int),.int (s.2:Int)]) (bG (by rw[s9,hs];rfl)) ?_;walk_at "rx";intro pw EW;have fw:=X.free EW;have X1:=X.new EW (.lst []);have Oe:ah M' pw (.lst []) pw=some (.lst (([]:Row).map D.int)):=af;generalize ah M' pw (.lst [])=M7 at*;walk_at "rx";refine⟨cG (by omega) (by omega),?_⟩;rw[u7];refine fU (λ i δ M8=>∃(v8 v11:Option D) (aO:List (Nat×Nat)) (r:Row),δ=[some (.ref f),some (.tup [.tup (fB.map row),row LD]),some (.int h),some (.int w),some (.ref oI),some (.ref p),some (.ref q),some (.ref pw),v8,some (.int (s.1:Int)),some (.int (s.2:Int)),v11]/\Sx pD (O8 fB w ws) (0,0) h (By m w) p q aO rows M5 M8/\M8 pw=some (.lst (r.map D.int))/\cD (O8 fB w ws) aO s i r/\aO[rows.length]?=some s) ⟨v8,v11,aO,[],rfl,X1,Oe,cD.nil _ _ _,hs⟩ (λ i d δ M8 hd h=>?_) (λ δ M8 h=>?_)
    ·obtain⟨v8,v11,aO,r,rfl,X,hw,hr,hs⟩:=h;obtain⟨hi,rfl⟩:=de hd;have ta:=qR G.tb Og hi;walk_at "rx";refine bI (d:=.tup ((fB.getD s.1 []).map D.int)) ta.1 ?_;walk_at "rx";rw[D3];refine bI ta.2 ?_;walk_at "rx";refine cF (X.ext _ _ K4) (d:=.int (ws.getD i 0:Nat)) (bG (by rw[s9,i5 (by omega),c8,i5 (by omega)];rfl)) ?_;have U2:(0:Int) < (w:Int):=by omega
     refine tS (fi rfl (Df U2 (iS ⟨by show 2<=sizeLine;decide,dq ?_⟩)));have OB:(1:Nat)<=60:=by decide
     have Of:(By m w).length<=300:=by omega
     have wO:h<=12:=by omega
     have RN:=C.cl s i hi JJ
     with_reducible refine lU FC OB X Of wO fw hw hr hs hi RN ?_ ?_ ?_ (λ fO r' M' X' K5 EV jN=>?_)
     ·show some (some (D.tup [.int (a_ fB i s.1:Nat),.int (((s.2:Int)+(ws.getD i 0:Nat)) % (w:Int))]))=some (some (D.tup [.int (a_ fB i s.1:Nat),.int (((s.2+ws.getD i 0) % w:Nat):Int)]));rw[Int.natCast_emod,Int.natCast_add]
     ·rfl
     ·rfl
     ·exact⟨_,_,fO,r',rfl,X',K5,EV,jN⟩
    ·obtain⟨v8,v11,aO,r,rfl,X,hw,hr,hs⟩:=h;rw[bu]at hr;have hfew:=X.cI;have oM:=X.gD;walk_at "rx";refine⟨⟨rfl,_,oM⟩,?_⟩;walk_at "rx";refine cj hw ?_;walk_at "rx";refine fS oM (by rw[B4];exact p5 (show rows.length<=300 by omega) (by decide)) ?_;exact⟨_,_,_,_,_,aO,r,rfl,X.next hs hr⟩
  ·have el:rows.length=aO.length:=by have:=X.le;omega
   have TG:=X.ex.tb C hz el (by omega) (by omega);have F6:=F5.trans (i_ X.ext F5.bp);walk_at "rx";refine cj oM ?_;walk_at "rx";refine FV (ds:=e_ (aO.map pD)) (λ i acc M7=>M7=M'/\∃ls:Row,acc=ls.map D.int/\iJ i ls) ⟨rfl,[],rfl,iJ.nil 0⟩ (λ i acc M7 _ h=>?_) (λ i acc M7 hi h=>?_) (λ i d acc M7 hd h=>?_) (λ acc M7 h=>?_)
   ·obtain⟨rfl,_⟩:=h;show iO (.ref p) M7=_;unfold iO;rw[dU hst];rfl
   ·obtain⟨rfl,ls,rfl,L⟩:=h;rw[dh,B4]at hi;have:=L.cI;rw[B4];exact small (by omega)
   ·obtain⟨rfl,ls,rfl,L⟩:=h;obtain⟨hi,rfl⟩:=mr hd;rw[B4]at hi;obtain⟨x,hx⟩:∃x,aO[i]?=some x:=⟨_,i5 hi⟩;rw[show(aO.map pD).getD i .bx=.tup [.int (x.1:Int),.int (x.2:Int)] by rw[c8,s9,hx];rfl];have y1:∃Ek:Row,ls.map D.int++[.int (i:Int)]=Ek.map D.int/\iJ (i+1) Ek:=⟨ls++[(i:Int)],by rw[B6];rfl,L.add⟩;have y2:∃Ek:Row,ls.map D.int=Ek.map D.int/\iJ (i+1) Ek:=⟨ls,rfl,L.up⟩;walk_at "rx";refine rh (k:=0) (b:=decide ((x.1:Int)∈LD)) (ds:=LD.map D.int) rfl (dN 0 _) (gH λ x _=>dN 0 _) (by decide) (by rw[decide_eq_true_iff];exact(yw (enc:=D.int) (λ a b z=>D.int.inj z) _).symm) ?_;refine aS (λ _=>?_) (λ _=>?_)
    ·walk_at "rx";exact⟨rfl,y1⟩
    ·exact⟨rfl,y2⟩
   ·obtain⟨rfl,ls,rfl,L⟩:=h;rw[dh,B4]at L;walk_at "rx";exact az (k _ rows ls _ TG (by omega) (by rw[el];exact L) F6)
end
def Cn:gs:=λ ds M Q=>∃(f c a:Addr) (ns:List Nat),ds=[.ref f,.ref a]/\Flow M f c/\M a=some (.lst (ns.map nD))/\ns.length<=300/\∀(p:Addr) (iU:List Nat) (M':Mem),iU.Perm ns->M p=none->M' p=some (.lst (iU.map nD))->Fl f c M M'->Q (.ref p) M'
def KG:gs:=λ ds M Q=>∃(f c:Addr) (m h:Nat) (rows:List Row) (ls:Row),ds=[.ref f,eu rows ls]/\Flow M f c/\dC m h rows/\m<=60/\iJ m ls/\∀(rows:List Row) (ls:Row) (M':Mem),dC m h rows->iJ m ls->Fl f c M M'->Q (eu rows ls) M'
section
variable {P:Program}{w:World}{K:J8}{mg:Str->Option Value}{base:Heap}
theorem eA:aM ["_law_flow_here","_law_things","_law_left","_law_told"] ["_law_flow_here","_law_things"] (aq (top 12)):=⟨rfl,rfl,rfl,by decide+kernel,rfl,by decide+kernel,by decide+kernel⟩
theorem I_{f:Addr}{fd:FuncData}(F:jk K "_law_shuffled" "_law_shuffled" (top 12) f fd)(T:lP K mg)(ay:cX P w K mg base 1 "_law_pick" ["_law_flow_here","_law_many"] iR):cw P w K mg base fA 2 f fd ["_law_flow_here","_law_things"] (cV K Cn):=by
 refine oU F eA (λ ds M Q h=>?_) (λ dQ A outer s H E ds M Q hr h=>?_)
 ·obtain⟨f,c,a,ns,rfl,_⟩:=h;rfl
 ·obtain⟨f,cc,a,ns,rfl,hF,ha,hl,k⟩:=h;refine⟨_,(ae (aB (i:=2) eA.nd rfl (Or.inl rfl) (bR FY (by rfl) T.list (by decide+kernel) (aa (ak 1) ab)))
 (ae (aB (i:=3) eA.nd rfl (Or.inl rfl) (cz ab))
 (ae (dS B0 (aK (nJ hr.units) (ak 2) (cz ab) (aH _))
 (aj (bZ (eE i7 i4 i6 bP (ak 3) (aa (eE i7 PySem.F.slot_list_pop PySem.F.type_list_pop KY (ak 2) (aa (aJ ay (hr.mono (by decide)) (by rfl) (aa (ak 0) (aa (aD bO (by rfl) T.len (by decide+kernel) (aa (ak 2) ab)) ab))) ab)) ab)))))
 (aj (aV (ak 3)))))),?_⟩
  walk_at "rx";refine Dg ha λ p hp=>?_;walk_at "rx";intro q hq;have jO:p≠q:=bM (show ah M p (.lst (ns.map nD)) p=some _ from af) hq;have Rx:M q=none:=Ext.free (Ext.new Ext.rfl hp _) hq;have pf:=(hF.ne hp).1;have qf:=(hF.ne Rx).1;have F0:Fl f cc M (ah (ah M p (.lst (ns.map nD))) q (.lst [])):=i_ (Ext.new (Ext.new Ext.rfl hp _) hq _) hF;have h1:ah (ah M p (.lst (ns.map nD))) q (.lst []) p=some (.lst (ns.map nD)):=by rw[av jO,af]
  have h2:ah (ah M p (.lst (ns.map nD))) q (.lst []) q=some (.lst (([]:List Nat).map nD)):=af;generalize ah (ah M p (.lst (ns.map nD))) q (.lst [])=M2 at*;walk_at "rx";refine dX ⟨λ m δ M'=>∃(xs ys:List Nat),δ=[some (.ref f),some (.ref a),some (.ref p),some (.ref q)]/\M' p=some (.lst (xs.map nD))/\M' q=some (.lst (ys.map nD))/\(ys++xs).Perm ns/\Fl f cc M M'/\m=xs.length,⟨_,ns,[],rfl,h1,h2,.refl _,F0,rfl⟩,?_⟩;rintro m δ M' ⟨xs,ys,rfl,h1,h2,qm,F1,rfl⟩;have hlen:=qm.length_eq;rw[o6]at hlen;walk_at "rx";intro e he;refine x' (k:=0) (b:=decide (xs=[])) (by rw[av (bM h1 he)];exact h1) af (gH λ x _=>dN 0 _) (λ e he=>by cases he) (by decide) (Eg (by rw[decide_eq_true_iff])) ?_;have h1:ah M' e (.lst []) p=some (.lst (xs.map nD)):=by rw[av (bM h1 he)];exact h1
  have h2:ah M' e (.lst []) q=some (.lst (ys.map nD)):=by rw[av (bM h2 he)];exact h2
  have F1:=F1.trans (Fl.put (o:=.lst []) F1.bp he);generalize ah M' e (.lst [])=M3 at*;refine h_ (λ hn=>?_) (λ hn=>?_)
  ·have hn:xs≠[]:=by simpa using hn
   have Rz:0 < xs.length:=length_pos_iff.mpr hn;refine⟨λ δ' M'=>∃(Kw Sv:List Nat),δ'=[some (.ref f),some (.ref a),some (.ref p),some (.ref q)]/\M' p=some (.lst (Kw.map nD))/\M' q=some (.lst (Sv.map nD))/\(Sv++Kw).Perm ns/\Fl f cc M M'/\Kw.length < xs.length,?_,?_⟩
   ·rintro δ' M' ⟨Kw,Sv,rfl,a1,a2,a3,a4,a5⟩;exact⟨_,a5,Kw,Sv,rfl,a1,a2,a3,a4,rfl⟩
   ·walk_at "rx";refine⟨⟨rfl,_,h2⟩,?_⟩;walk_at "rx";refine⟨⟨rfl,_,h1⟩,?_⟩;walk_at "rx";rw[B4];refine⟨f,cc,xs.length,rfl,F1.bp,by omega,by omega,λ d o h0 OC Bl=>?_⟩;have P:=Fl.pick Bl;have F2:=F1.trans P;have h1:=P.mv _ _ pf h1;have h2:=P.mv _ _ qf h2;generalize ah M3 f o=M4 at*;obtain⟨j,rfl⟩:∃n:Nat,d=(n:Int):=⟨d.toNat,by omega⟩;have hj:j < xs.length:=by omega
    walk_at "rx";refine C' h1 (y:=nD xs[j]) (by rw[s9,i5 hj];rfl) (by rw[B4];omega) ?_;walk_at "rx";refine fS (ds:=ys.map nD) (by rw[av (J5 jO)];exact h2) (by rw[B4];exact p5 (show ys.length<=300 by omega) (by decide)) ?_;refine⟨xs.eraseIdx j,ys++[xs[j]],rfl,?_,?_,?_,(F2.own hF hp).own hF Rx,?_⟩
    ·rw[av jO,af,yz]
    ·rw[af,B6];rfl
    ·refine List.Perm.trans ?_ qm;rw[w9];refine List.Perm.append_left _ ?_;exact tW hj
    ·rw[length_eraseIdx_of_lt hj];omega
  ·have hn:xs=[]:=by simpa using hn
   subst hn;rw[A4]at qm;walk_at "rx";exact az (k q ys _ qm Rx h2 F1)
theorem dk:aM ["_law_flow_here","_law_table_here","_law_order","_law_rows"] ["_law_flow_here","_law_table_here"] (aq (top 16)):=⟨rfl,rfl,rfl,by decide+kernel,rfl,by decide+kernel,by decide+kernel⟩
theorem NH{f:Addr}{fd:FuncData}(F:jk K "_law_renumbered" "_law_renumbered" (top 16) f fd)(T:lP K mg)(oj:cX P w K mg base 2 "_law_shuffled" ["_law_flow_here","_law_things"] Cn):cw P w K mg base fA 3 f fd ["_law_flow_here","_law_table_here"] (cV K KG):=by
 refine oU F dk (λ ds M Q h=>?_) (λ dQ A outer s H E ds M Q hr h=>?_)
 ·obtain⟨f,c,m,h,rows,ls,rfl,_⟩:=h;rfl
 ·obtain⟨f,cc,m,h,rows,ls,rfl,hF,G,hm,L,k⟩:=h;have uD:eu rows ls=.tup [.tup (rows.map row),row ls]:=rfl;rw[uD];have BL:=G.tb.len;have Rz:=G.tb.pos;refine⟨_,(ae (aB (i:=2) dk.nd rfl (Or.inr rfl) (bH bw (cz (aa ai ab)) (aJ oj (hr.mono (by decide)) (by rfl) (aa (ak 0) (aa (Ly rfl (by rfl) T.list (by rfl) T.range (aa ai (aa (aD bO (by rfl) T.len (by decide+kernel) (aa (aL aI (ak 1) ai (λ _ _=>rfl)) ab)) ab))) ab)))))
 (ae (cY (i:=3) dk.nd rfl (Or.inl rfl) (tgs:=["_law_x"]) (fr:=[2,1]) ⟨cp (by kernel_rfl),rfl,(λ _ _ h=>h),(eh (ak 2)),(bB (λ _ _ _ _ _=>(bc (i:=0) (show(["_law_x","_law_order","_law_table_here"]:List Str).Nodup by decide+kernel) rfl (Or.inl rfl))) (by decide)),(λ _ _ _ _ _=>b_),(λ _ _ _ _ _=>(ki bY eK (by rfl) T.tuple (by decide+kernel) (tgs:=["_law_y"]) (fr:=[1]) ⟨cp (by kernel_rfl),rfl,(λ _ _ h=>h),(eh (aL aI (aL aI (ak 2) ai (λ _ _=>rfl)) (ak 0) (λ _ _=>rfl))),(bB (λ _ _ _ _ _=>(bc (i:=0) (show(["_law_y","_law_order"]:List Str).Nodup by decide+kernel) rfl (Or.inl rfl))) (by decide)),(λ _ _ _ _ _=>b_),(λ _ _ _ _ _=>(eE i7 PySem.F.slot_list_index PySem.F.type_list_index (fT hr.units) (ak 1) (aa (ak 0) ab)))⟩))⟩)
 (aj (aV (c_ (aa (bR bY (by rfl) T.tuple (by decide+kernel) (aa (ak 3) ab)) (aa (bR bY (by rfl) T.tuple (by decide+kernel) (aa (aD (Kl rfl) (by rfl) T.sorted (by decide+kernel) (aa (kj (tgs:=["_law_x"]) (fr:=[2]) ⟨cp (by kernel_rfl),rfl,(λ _ _ h=>h),(eh (aL aI (ak 1) ai (λ _ _=>rfl))),(bB (λ _ _ _ _ _=>(bc (i:=0) (show(["_law_x","_law_order"]:List Str).Nodup by decide+kernel) rfl (Or.inl rfl))) (by decide)),(λ _ _ _ _ _=>b_),(λ _ _ _ _ _=>(eE i7 PySem.F.slot_list_index PySem.F.type_list_index (fT hr.units) (ak 1) (aa (ak 0) ab)))⟩) ab)) ab)) ab))))))),?_⟩
  walk_at "rx";intro p0 K9;have F0:=Fl.put (o:=.lst [.int 0]) hF K9;have h0:ah M p0 (.lst [.int 0]) p0=some (.lst [.int 0]):=af;have n0:=(hF.ne K9).1;generalize ah M p0 (.lst [.int 0])=M0 at*;walk_at "rx";rw[B4,BL];refine⟨1,(m:Int),rfl,⟨by omega,by omega⟩,⟨by omega,by omega⟩,by omega,λ p1 rS=>?_⟩;have e1:cR 1 ((m:Int) - 1).toNat=((List.range (m - 1)).map (·+1)).map nD:=by unfold cR;rw[D7,show((m:Int) - 1).toNat=m - 1 by omega];refine map_congr_left λ x _=>?_;show D.int (1+(x:Int))=D.int ((x+1:Nat):Int);rw[show(1:Int)+(x:Int)=((x+1:Nat):Int) by omega]
  rw[e1];have F1:=F0.trans (Fl.put (o:=.lst (((List.range (m - 1)).map (·+1)).map nD)) F0.bp rS);have h0:ah M0 p1 (.lst (((List.range (m - 1)).map (·+1)).map nD)) p0=some (.lst [.int 0]):=by rw[av (bM h0 rS)];exact h0
  have h1:ah M0 p1 (.lst (((List.range (m - 1)).map (·+1)).map nD)) p1=some (.lst (((List.range (m - 1)).map (·+1)).map nD)):=af;generalize ah M0 p1 (.lst (((List.range (m - 1)).map (·+1)).map nD))=M1 at*;refine⟨f,cc,p1,_,rfl,F1.bp,h1,by simp;omega,λ p2 ns M2 qm eT h2 F2=>?_⟩;have F3:=F1.trans F2;have h0:=F2.mv _ _ n0 h0;have wN:=DS Rz qm;have hz:(0::ns)[0]?=some 0:=rfl;have Pg:(0::ns).length=m:=by rw[wN.length_eq,x3]
  refine Ds h0 h2 (by rw[B4];rw[y3]at Pg;exact small (by show 1+ns.length<=10000;omega)) λ po Yy=>?_;have e2:[D.int 0]++ns.map nD=(0::ns).map nD:=rfl;rw[e2];generalize 0::ns=ord at*;have F4:=F3.trans (Fl.put (o:=.lst (ord.map nD)) F3.bp Yy);have ho:ah M2 po (.lst (ord.map nD)) po=some (.lst (ord.map nD)):=af;generalize ah M2 po (.lst (ord.map nD))=M3 at*;have Wz:∀x∈ord,x < m:=λ x hx=>mem_range.mp (wN.mem_iff.mp hx);walk_at "rx";refine k_ nD (λ x=>row (eB ord (rows.getD x []))) (by omega) ho (λ i x N hx hN=>?_) ?_
  ·have hxm:=Wz x (k9 hx);have sL:x < rows.length:=by omega
   have Yu:gr (rows.map row) (x:Int)=some (.tup ((rows.getD x []).map D.int)):=bG (by rw[s9,i5 sL,c8,i5 sL];rfl);have Yv:(rows.getD x []).length=h/\∀y∈rows.getD x [],0<=y/\y < (m:Int):=by rw[c8,i5 sL];exact G.tb.row _ (y9 sL)
   have:=G.tb.Bn;walk_at "rx";refine bI Yu ?_;walk_at "rx";refine jV (enc:=D.int) (λ y=>.int (ord.idxOf y.toNat:Nat)) (by omega) (λ j y N hy hN=>?_) ?_
   ·have Bf:=Yv.2 y (k9 hy);walk_at "rx";refine⟨⟨rfl,_,ho⟩,?_⟩;walk_at "rx";rw[show D.int y=nD y.toNat by show _=D.int (y.toNat:Int);rw[show((y.toNat:Nat):Int)=y by omega]];refine jz nD eC.inj ho (wN.mem_iff.mpr (mem_range.mpr (by omega))) eC.pl (by decide) ?_;exact hN
   ·walk_at "rx";have e3:(rows.getD x []).map (λ y=>D.int (ord.idxOf y.toNat:Nat))=(eB ord (rows.getD x [])).map D.int:=by unfold eB;rw[D7];rfl
    rw[e3];exact hN
  ·intro pr Tc;have F5:=F4.trans (Fl.put (o:=.lst (ord.map λ x=>row (eB ord (rows.getD x [])))) F4.bp Tc);have ho:ah M3 pr (.lst (ord.map λ x=>row (eB ord (rows.getD x [])))) po=some (.lst (ord.map nD)):=by rw[av (bM ho Tc)];exact ho
   have e4:(ord.map λ x=>row (eB ord (rows.getD x [])))=(ord.map λ x=>eB ord (rows.getD x [])).map row:=by rw[D7];rfl
   have Rw:ah M3 pr (.lst (ord.map λ x=>row (eB ord (rows.getD x [])))) pr=some (.lst ((ord.map λ x=>eB ord (rows.getD x [])).map row)):=by rw[af,e4]
   generalize ah M3 pr (.lst (ord.map λ x=>row (eB ord (rows.getD x []))))=M4 at*;have TG:dC m h (ord.map λ x=>eB ord (rows.getD x [])):=Qd G wN hz (by rw[B4];exact Pg) λ d r hd=>by rw[s9]at hd;obtain⟨x,hx,rfl⟩:=Option.map_eq_some_iff.mp hd;exact⟨x,hx,Ht G wN (Wz x (k9 hx))⟩
   generalize(ord.map λ x=>eB ord (rows.getD x []))=pZ at*;have hll:=L.cI;walk_at "rx";refine cj Rw ?_;walk_at "rx";refine jV (enc:=D.int) (λ y=>.int (ord.idxOf y.toNat:Nat)) (by omega) (λ j y N hy hN=>?_) ?_
   ·have Bf:=L.2 y (k9 hy);walk_at "rx";refine⟨⟨rfl,_,ho⟩,?_⟩;walk_at "rx";rw[show D.int y=nD y.toNat by show _=D.int (y.toNat:Int);rw[show((y.toNat:Nat):Int)=y by omega]];refine jz nD eC.inj ho (wN.mem_iff.mpr (mem_range.mpr (by omega))) eC.pl (by decide) ?_;exact hN
   ·intro pl hpl;have e5:ls.map (λ y=>D.int (ord.idxOf y.toNat:Nat))=(eB ord ls).map D.int:=by unfold eB;rw[D7];rfl
    rw[e5];have F6:=F5.trans (Fl.put (o:=.lst ((eB ord ls).map D.int)) F5.bp hpl);have h6:ah M4 pl (.lst ((eB ord ls).map D.int)) pl=some (.lst ((eB ord ls).map D.int)):=af;generalize ah M4 pl (.lst ((eB ord ls).map D.int))=M5 at*;walk_at "rx";refine Ay (eB ord ls) h6 (by unfold eB;rw[B4];omega) λ xs ps Yi UZ K8=>?_;walk_at "rx";refine cj af ?_;walk_at "rx";exact az (k pZ xs _ TG (CW wN L Yi UZ) (F6.trans (Fl.put F6.bp K8)))
end
section
variable {P:Program}{w:World}{K:J8}{mg:Str->Option Value}{base:Heap}
theorem bV:aM ["_law_flow_here","_law_many","_law_table_here","_law_sizes"] ["_law_flow_here"] (aq (top 20)):=⟨rfl,rfl,rfl,by decide+kernel,rfl,by decide+kernel,by decide+kernel⟩
theorem DT{f:Addr}{fd:FuncData}(F:jk K "_law_table" "_law_table" (top 20) f fd)(T:lP K mg)(ay:cX P w K mg base 1 "_law_pick" ["_law_flow_here","_law_many"] iR)(kY:cX P w K mg base 2 "_law_long_table" ["_law_flow_here"] (xP 19 2))(lL:cX P w K mg base 2 "_law_any_table" ["_law_flow_here","_law_many"] Cw)(lK:cX P w K mg base 1 "_law_nim_table" ["_law_sizes","_law_last"] Co)(uR:cX P w K mg base 2 "_law_blown" ["_law_flow_here","_law_table_here"] xU)(kX:cX P w K mg base 3 "_law_renumbered" ["_law_flow_here","_law_table_here"] KG):cw P w K mg base fA 4 f fd ["_law_flow_here"] (cV K (xP 19 6)):=by
 refine oU F bV (λ ds M Q h=>?_) (λ dQ A outer s H E ds M Q hr h=>?_)
 ·obtain⟨f,c,rfl,_⟩:=h;rfl
 ·obtain⟨f,cc,rfl,hF,k⟩:=h;refine⟨_,(ae (cb (aK (df hr.units) (aJ ay (hr.mono (by decide)) (by rfl) (aa (ak 0) (aa ai ab))) ai (aH _))
 (aj (aV (aJ kY (hr.mono (by decide)) (by rfl) (aa (ak 0) ab))))
 aZ)
 (ae (aB (i:=1) bV.nd rfl (Or.inl rfl) (aJ ay (hr.mono (by decide)) (by rfl) (aa (ak 0) (aa ai ab))))
 (ae (cb (aK (df hr.units) (aJ ay (hr.mono (by decide)) (by rfl) (aa (ak 0) (aa ai ab))) ai (aH _))
 (aj (aB (i:=1) bV.nd rfl (Or.inl rfl) (aJ ay (hr.mono (by decide)) (by rfl) (aa (ak 0) (aa ai ab)))))
 aZ)
 (ae (aB (i:=2) bV.nd rfl (Or.inl rfl) (aJ lL (hr.mono (by decide)) (by rfl) (aa (ak 0) (aa (ak 1) ab))))
 (ae (cb (aK (df hr.units) (aJ ay (hr.mono (by decide)) (by rfl) (aa (ak 0) (aa ai ab))) ai (aH _))
 (ae (cY (i:=3) bV.nd rfl (Or.inl rfl) (tgs:=["_law_h"]) (fr:=[0]) ⟨cp (by kernel_rfl),rfl,(λ _ _ h=>h),(bo rfl T.range (aa (ak 1) ab)),(bB (λ _ _ _ _ _=>(bc (i:=0) (show(["_law_h","_law_flow_here"]:List Str).Nodup by decide+kernel) rfl (Or.inl rfl))) (by decide)),(λ _ _ _ _ _=>b_),(λ _ _ _ _ _=>(aJ ay (hr.mono (by decide)) (by rfl) (aa (ak 1) (aa ai ab))))⟩)
 (aj (aB (i:=2) bV.nd rfl (Or.inl rfl) (aJ lK (hr.mono (by decide)) (by rfl) (aa (ak 3) (aa (aL aI (cz (aa xE (aa xE ab))) (aJ ay (hr.mono (by decide)) (by rfl) (aa (ak 0) (aa ai ab))) (λ _ _=>rfl)) ab))))))
 aZ)
 (ae (cb (qN (aK (df hr.units) (aJ ay (hr.mono (by decide)) (by rfl) (aa (ak 0) (aa ai ab))) ai (aH _)) (qN (aK oV (aD bO (by rfl) T.len (by decide+kernel) (aa (aL aI (ak 2) ai (λ _ _=>rfl)) ab)) ai (aH _)) (qM (aK oV (ak 1) ai (aH _))))).pt
 (aj (aB (i:=2) bV.nd rfl (Or.inl rfl) (aJ uR (hr.mono (by decide)) (by rfl) (aa (ak 0) (aa (ak 2) ab)))))
 aZ)
 (ae (cb (aK (df hr.units) (aJ ay (hr.mono (by decide)) (by rfl) (aa (ak 0) (aa ai ab))) ai (aH _))
 (aj (aB (i:=2) bV.nd rfl (Or.inl rfl) (aJ kX (hr.mono (by decide)) (by rfl) (aa (ak 0) (aa (ak 2) ab)))))
 aZ)
 (aj (aV (ak 2)))))))))),?_⟩
  walk_at "rx";refine⟨f,cc,4,rfl,hF,by decide,by decide,λ d1 o1 OC Pp yW=>?_⟩;have F1:Fl f cc M _:=Fl.pick yW;generalize ah M f o1=M1 at*;walk_at "rx";refine aS (λ _=>?_) (λ _=>?_)
  ·walk_at "rx";refine⟨f,cc,rfl,F1.bp,λ m h rows ls M2 G hm hh L F2=>?_⟩;walk_at "rx";exact az (k m h rows ls _ G hm (by omega) L (F1.trans F2))
  ·walk_at "rx";refine⟨f,cc,4,rfl,F1.bp,by decide,by decide,λ d2 o2 Tq Tp GC=>?_⟩;have F2:=F1.trans (Fl.pick GC);generalize ah M1 f o2=M2 at*;refine dq ?_
   with_reducible refine gG (λ δ' M'=>∃n:Nat,δ'=[some (.ref f),some (.int n),none,none]/\n<=6/\Fl f cc M M') (λ N hN=>?_) ?_
   ·walk_at "rx";refine⟨f,cc,6,rfl,F2.bp,by decide,by decide,λ d3 o3 Xb Xa Po=>?_⟩;have F3:=F2.trans (Fl.pick Po);generalize ah M2 f o3=M3 at*;walk_at "rx";refine aS (λ _=>?_) (λ _=>?_)
    ·walk_at "rx";refine⟨f,cc,7,rfl,F3.bp,by decide,by decide,λ d4 o4 h40 h41 Y8=>?_⟩;have F4:=F3.trans (Fl.pick Y8);generalize ah M3 f o4=M4 at*;walk_at "rx";obtain⟨n,rfl⟩:∃n:Nat,d4=(n:Int):=⟨d4.toNat,by omega⟩;exact hN _ _ ⟨n,rfl,by omega,F4⟩
    ·walk_at "rx";obtain⟨n,rfl⟩:∃n:Nat,d2=(n:Int):=⟨d2.toNat,by omega⟩;exact hN _ _ ⟨n,rfl,by omega,F3⟩
   rintro δ' M3 ⟨n,rfl,hn,F3⟩;walk_at "rx";refine⟨f,cc,n,rfl,F3.bp,hn,λ m rows ls M4 G hm L F4=>?_⟩;have Xt:=F3.trans F4;clear F4;have F4:=Xt;clear Xt;refine dq ?_
   with_reducible refine gG (λ δ' M'=>∃(v:Option D) (m:Nat) (rows:List Row) (ls:Row),δ'=[some (.ref f),some (.int n),some (eu rows ls),v]/\dC m n rows/\m<=16/\iJ m ls/\Fl f cc M M') (λ N hN=>?_) ?_
   ·walk_at "rx";refine⟨f,cc,3,rfl,F4.bp,by decide,by decide,λ d5 o5 W' W_ RO=>?_⟩;have F5:=F4.trans (Fl.pick RO);generalize ah M4 f o5=M5 at*;walk_at "rx";refine aS (λ _=>?_) (λ _=>?_)
    ·walk_at "rx";refine⟨cG (by omega) (by omega),?_⟩;rw[u7,dM];refine lb nD (λ ys M'=>Fl f cc M M'/\∀y∈ys,y < 5) (by rw[x3];omega) ⟨F5,λ y h=>by cases h⟩ (λ i x ys M' N hx hl hI hN=>?_) (λ sz M6 hl hI=>?_)
     ·walk_at "rx";refine⟨f,cc,5,rfl,hI.1.bp,by decide,by decide,λ d o h0 h1 Bl=>?_⟩;obtain⟨y,rfl⟩:∃n:Nat,d=(n:Int):=⟨d.toNat,by omega⟩;refine hN y _ ⟨hI.1.trans (Fl.pick Bl),λ z hz=>?_⟩;rcases B5.mp hz with e|e
      ·exact hI.2 z e
      ·rw[p7.mp e];omega
     ·obtain⟨F6,h5⟩:=hI;rw[x3]at hl;intro ps K8;have nf:=(F6.bp.ne K8).1;have F7:=F6.trans (Fl.put (o:=.lst (sz.map nD)) F6.bp K8);have h7:ah M6 ps (.lst (sz.map nD)) ps=some (.lst (sz.map nD)):=af;generalize ah M6 ps (.lst (sz.map nD))=M7 at*;walk_at "rx";intro pl hpl;have h8:ah M7 pl (.lst [.str "loses",.str "wins"]) pl=some (.lst [.str "loses",.str "wins"]):=af;have h7:ah M7 pl (.lst [.str "loses",.str "wins"]) ps=some (.lst (sz.map nD)):=by rw[av (bM h7 hpl)];exact h7
      have F8:=F7.trans (Fl.put (o:=.lst [.str "loses",.str "wins"]) F7.bp hpl);have nl:=(F7.bp.ne hpl).1;generalize ah M7 pl (.lst [.str "loses",.str "wins"])=M8 at*;walk_at "rx";refine⟨f,cc,2,rfl,F8.bp,by decide,by decide,λ d9 o9 h90 h91 Y7=>?_⟩;have P:=Fl.pick Y7;have F9:=F8.trans P;have h7:=P.mv _ _ nf h7;have h8:=P.mv _ _ nl h8;generalize ah M8 f o9=M9 at*;obtain⟨l,Vk⟩:∃l:Str,gr [D.str "loses",D.str "wins"] d9=some (.str l):=by
       rcases(show d9=0\/d9=1 by omega)with rfl|rfl
       ·exact⟨_,rfl⟩
       ·exact⟨_,rfl⟩
      refine cF h8 Vk ?_;walk_at "rx";refine⟨ps,sz,l,rfl,h7,h5,by omega,λ m rows ls M' G hm L hE=>?_⟩;refine dq ?_;rw[hl]at G;exact hN _ _ ⟨_,m,rows,ls,rfl,G,hm,L,F9.trans (i_ hE F9.bp)⟩
    ·walk_at "rx";exact hN _ _ ⟨_,m,rows,ls,rfl,G,hm,L,F5⟩
   clear L hm G rows ls m F4 M4;rintro δ' M4 ⟨v,m,rows,ls,rfl,G,hm,L,F4⟩
   with_reducible refine gG (λ δ' M'=>∃(v:Option D) (m:Nat) (rows:List Row) (ls:Row),δ'=[some (.ref f),some (.int n),some (eu rows ls),v]/\dC m n rows/\m<=19/\iJ m ls/\Fl f cc M M') (λ N hN=>?_) ?_
   ·have BL:=G.tb.len;have Pj:∀M',Fl f cc M M'->N [some (.ref f),some (.int n),some (eu rows ls),v] M':=λ M' F'=>hN _ _ ⟨_,m,rows,ls,rfl,G,by omega,L,F'⟩;have uD:eu rows ls=.tup [.tup (rows.map row),row ls]:=rfl;rw[uD]at Pj ⊢;walk_at "rx";refine⟨f,cc,3,rfl,F4.bp,by decide,by decide,λ d5 o5 W' W_ RO=>?_⟩;have F5:=F4.trans (Fl.pick RO);generalize ah M4 f o5=M5 at*;walk_at "rx";refine aS (λ _=>?_) (λ _=>?_)
    ·walk_at "rx";rw[B4,BL];refine aS (λ hm7=>?_) (λ _=>?_)
     ·walk_at "rx";refine aS (λ WD=>?_) (λ _=>?_)
      ·walk_at "rx";refine⟨f,cc,m,n,rows,ls,rfl,F5.bp,G,by omega,by omega,λ m rows ls M6 G hm L F6=>?_⟩;refine dq ?_;exact hN _ _ ⟨_,m,rows,ls,rfl,G,by omega,L,F5.trans F6⟩
      ·walk_at "rx";exact Pj _ F5
     ·walk_at "rx";exact Pj _ F5
    ·walk_at "rx";exact Pj _ F5
   clear L hm G rows ls m F4 M4 v;rintro δ' M4 ⟨v,m,rows,ls,rfl,G,hm,L,F4⟩;walk_at "rx";refine⟨f,cc,2,rfl,F4.bp,by decide,by decide,λ d5 o5 W' W_ RO=>?_⟩;have F5:=F4.trans (Fl.pick RO);generalize ah M4 f o5=M5 at*;walk_at "rx";refine aS (λ _=>?_) (λ _=>?_)
   ·walk_at "rx";refine⟨f,cc,m,n,rows,ls,rfl,F5.bp,G,by omega,L,λ rows ls M6 G L F6=>?_⟩;walk_at "rx";exact az (k m n rows ls _ G hm hn L (F5.trans F6))
   ·walk_at "rx";exact az (k m n rows ls _ G hm hn L F5)
end
def vO(k:Nat):gs:=λ ds M Q=>∃(n t:Nat),ds=[.int n,.int t]/\n < k/\n<=6/\t<=19/\∀(p:Addr) (M':Mem),M p=none->M' p=some (.lst ((bE n t).map fV))->Ext M M'->Q (.ref p) M'
theorem Cm:∀ds M Q,¬vO 0 ds M Q:=λ ds M Q ⟨n,t,_,h,_⟩=>by omega
section
variable {P:Program}{w:World}{K:J8}{mg:Str->Option Value}{base:Heap}
theorem gB:aM ["_law_many","_law_total","_law_found","_law_n"] ["_law_many","_law_total"] (aq (top 21)):=⟨rfl,rfl,rfl,by decide+kernel,rfl,by decide+kernel,by decide+kernel⟩
theorem DU{f:Addr}{fd:FuncData}(F:jk K "_law_sums" "_law_sums" (top 21) f fd)(T:lP K mg)(Vh:mg "_law_sums"=some (.ref f))(Ox:Binds K fd ["_law_many","_law_total"] []):∀k,cw P w K mg base fA (k+1) f fd ["_law_many","_law_total"] (cV K (vO k)):=by
 intro k
 induction k with
 |zero=>exact yZ Cm
 |succ k ih=>
 have jd:=bT.of F ih Vh Ox;rw[show k+1+1=k+1+1 by omega];clear ih;refine oU F gB (λ ds M Q h=>?_) (λ dQ A outer s H E ds M Q hr h=>?_)
 ·obtain⟨n,t,rfl,_⟩:=h;rfl
 ·obtain⟨n,t,rfl,hnk,hn,ht,kk⟩:=h;refine⟨_,(ae (cb (aK (df hr.units) (ak 0) ai (aH _))
 (aj (aV (bH iT (cz (aa (c_ ab) ab)) (bR ou (by rfl) T.int (by decide+kernel) (aa (eD (df hr.units) (ak 1) ai (aH _)) ab)))))
 aZ)
 (ae (cb (aK (df hr.units) (ak 0) ai (aH _))
 (aj (aV (cz (aa (c_ (aa (ak 1) ab)) ab))))
 aZ)
 (ae (aB (i:=2) gB.nd rfl (Or.inl rfl) (cz ab))
 (ae (dF B0 rfl (zY rfl T.range (aa (ak 1) (aa (PD Ky ai) (aa (PD Ky ai) ab)))) (bD (i:=3) gB.nd rfl (Or.inr rfl))
 (aj (bZ (eE i7 PySem.F.slot_list_extend PySem.F.type_list_extend Ej (ak 2) (aa (kj (tgs:=["_law_rest"]) (fr:=[3]) ⟨cp (by kernel_rfl),rfl,(λ _ _ h=>h),(eh (aJ jd (hr.mono (by omega)) (by rfl) (aa (bH DZ (ak 0) ai) (aa (bH DZ (ak 1) (ak 3)) ab)))),(bB (λ _ _ _ _ _=>(bc (i:=0) (show(["_law_rest","_law_n"]:List Str).Nodup by decide+kernel) rfl (Or.inl rfl))) (by decide)),(λ _ _ _ _ _=>b_),(λ _ _ _ _ _=>(bH bw (c_ (aa (ak 1) ab)) (ak 0)))⟩) ab)))))
 (aj (aV (ak 2))))))),?_⟩
  walk_at "rx";refine aS (λ h0=>?_) (λ h0=>?_)
  ·have h0:n=0:=by omega
   subst h0;walk_at "rx";intro p hp;walk_at "rx";have hE:Ext M (ah M p (.lst [.tup []])):=Ext.new Ext.rfl hp _;have h2:ah M p (.lst [.tup []]) p=some (.lst [.tup []]):=af;generalize ah M p (.lst [.tup []])=M1 at*;have e:∃j:Nat,(if decide ((t:Int)=0)=true then(1:Int)else 0)=(j:Int)/\j<=1/\List.replicate j (D.tup [])=(bE 0 t).map fV:=by
    by_cases z:t=0
    ·subst z;exact⟨1,rfl,by omega,rfl⟩
    ·refine⟨0,by rw[J7];rfl;rw[decide_eq_true_iff];omega,by omega,?_⟩;unfold bE;rw[J7 z];rfl
   obtain⟨j,ej,hj,e2⟩:=e;rw[ej];refine Dc h2 (by omega) (by omega) λ r hr=>?_;rw[u7,e2];exact az (kk r _ (hE.free hr) af (hE.new hr _))
  ·walk_at "rx";refine aS (λ h1=>?_) (λ h1=>?_)
   ·have h1:n=1:=by omega
    subst h1;walk_at "rx";intro p hp;refine az (kk p _ hp ?_ (Ext.new Ext.rfl hp _));rw[af,xJ];rfl
   ·obtain⟨q,rfl⟩:∃q,n=q+1:=⟨n - 1,by omega⟩;walk_at "rx";intro p hp;have hE:Ext M (ah M p (.lst [])):=Ext.new Ext.rfl hp _;have h2:ah M p (.lst []) p=some (.lst ((gc q t 0).map fV)):=af;generalize ah M p (.lst [])=M1 at*;walk_at "rx";refine HL ?_;walk_at "rx";refine⟨(t:Int),-1,rfl,⟨by omega,by omega,by omega,by omega⟩,?_⟩;rw[show((t:Int) - -1).toNat=t+1 by omega];refine fU (λ i δ M'=>∃v:Option D,δ=[some (.int ((q+1:Nat):Int)),some (.int t),some (.ref p),v]/\M' p=some (.lst ((gc q t i).map fV))/\Ext M M') ⟨none,rfl,h2,hE⟩ (λ i d δ M' hd h=>?_) (λ δ M' h=>?_)
    ·obtain⟨v,rfl,h2,hE⟩:=h;obtain⟨hi,rfl⟩:=FD hd;have Y6:=hp;walk_at "rx";refine⟨⟨rfl,_,h2⟩,?_⟩;walk_at "rx";refine⟨q,t - (t - i),?_,by omega,by omega,by omega,λ r M2 hr BM W7=>?_⟩
     ·rw[show((q+1:Nat):Int) - 1=(q:Int) by omega,show(t:Int) - ((t:Int) - (i:Int))=((t - (t - i):Nat):Int) by omega]
     ·have hsz:=vN (q:=q) (t:=t - (t - i)) (by omega) (by omega);refine lY BM ?_;refine xh fV (λ c=>fV ((t - i)::c)) hsz BM (λ j c N hc hN=>?_) ?_
      ·walk_at "rx";have vB:=(bU.mp (k9 hc)).1;unfold fV;refine jB (by rw[B4,vB];exact small (by show 1+q<=10000;omega)) ?_;rw[show[D.int ((t:Int) - (i:Int))]++c.map nD=((t - i)::c).map nD by rw[show(t:Int) - (i:Int)=((t - i:Nat):Int) by omega];rfl];exact hN
      ·intro u hu;have h2:=W7 _ _ h2;have e3:(bE q (t - (t - i))).map (λ c=>fV ((t - i)::c))=((bE q (t - (t - i))).map ((t - i)::·)).map fV:=by rw[D7];rfl
       rw[e3];have hL:=pT (q:=q) (t:=t) (i:=i+1) (by omega) (by omega) (by omega);rw[mW hi,o6]at hL;walk_at "rx";refine Mn (ds:=(gc q t i).map fV) (by rw[av (bM h2 hu)];exact h2) af (by rw[B4,B4];exact hL) ?_;refine⟨_,rfl,?_,?_⟩
       ·rw[af,mW hi,B6]
       ·exact((hE.trans W7).new hu _).own Y6
    ·obtain⟨v,rfl,h2,hE⟩:=h;rw[kU,hV]at h2;walk_at "rx";exact az (kk p _ hp h2 hE)
end
def Cr:gs:=λ ds M Q=>∃(m h x:Nat) (rows:List Row) (ls:Row) (p:Cs),ds=[eu rows ls,.int x,fV p]/\dC m h rows/\x < m/\p.length=h/\(∀c∈p,c<=1000)/\Q (.int (dj (a_ rows) 0 x p:Nat)) M
section
variable {P:Program}{w:World}{K:J8}{mg:Str->Option Value}{base:Heap}
theorem dW:aM ["_law_table_here","_law_x","_law_counts","_law_h","_law_n","_law_k"] ["_law_table_here","_law_x","_law_counts"] (aq (top 22)):=⟨rfl,rfl,rfl,by decide+kernel,rfl,by decide+kernel,by decide+kernel⟩
theorem Jf{f:Addr}{fd:FuncData}(F:jk K "_law_from" "_law_from" (top 22) f fd)(T:lP K mg):cw P w K mg base fA 1 f fd ["_law_table_here","_law_x","_law_counts"] (cV K Cr):=by
 refine oU F dW (λ ds M Q h=>?_) (λ dQ A outer s H E ds M Q hr h=>?_)
 ·obtain⟨m,h,x,rows,ls,p,rfl,_⟩:=h;rfl
 ·obtain⟨m,h,x,rows,ls,p,rfl,G,hx,hp,hc,k⟩:=h;refine⟨_,(ae (dF B0 rfl (lR rfl T.enumerate (aa (ak 2) ab)) (mK (n:=2) rfl (cU (bD (i:=3) dW.nd rfl (Or.inl rfl)) (cU (bD (i:=4) dW.nd rfl (Or.inl rfl)) jn)))
 (aj (dF B0 rfl (bo rfl T.range (aa (ak 4) ab)) (bD (i:=5) dW.nd rfl (Or.inl rfl))
 (aj (aB (i:=1) dW.nd rfl (Or.inl rfl) (aL aI (aL aI (aL aI (ak 0) ai (λ _ _=>rfl)) (ak 1) (λ _ _=>rfl)) (ak 3) (λ _ _=>rfl)))))))
 (aj (aV (ak 1)))),?_⟩
  have hh:=G.tb.Bn;unfold fV;have uD:eu rows ls=.tup [.tup (rows.map row),row ls]:=rfl;rw[uD];walk_at "rx";refine fU (λ i δ M'=>M'=M/\∃v3 v4 v5:Option D,δ=[some (.tup [.tup (rows.map row),row ls]),some (.int (dj (a_ rows) 0 x (p.take i):Nat)),some (.tup (p.map nD)),v3,v4,v5]) ⟨rfl,none,none,none,rfl⟩ (λ i d δ M' hd h=>?_) (λ δ M' h=>?_)
  ·obtain⟨rfl,v3,v4,v5,rfl⟩:=h;obtain⟨hi,rfl⟩:=mr hd;rw[B4]at hi;have Pe:p[i]?=some p[i]:=i5 hi;rw[show(p.map nD).getD i .bx=.int (p[i]:Nat) by rw[c8,s9,Pe];rfl];have hci:=hc _ (k9 Pe);have hy:dj (a_ rows) 0 x (p.take i) < m:=G.gq.dj _ 0 x (by rw[y8];omega) hx;have hst:dj (a_ rows) 0 x (p.take (i+1))=iq (a_ rows i) p[i] (dj (a_ rows) 0 x (p.take i)):=by rw[take_one Pe,uE,y8,Nat.min_eq_left (by omega),E4]
   generalize p[i]=c at*;generalize dj (a_ rows) 0 x (p.take i)=y at*;walk_at "rx";refine⟨cG (by omega) (by omega),?_⟩;rw[u7];refine fU (λ j δ kh=>kh=M'/\∃v5:Option D,δ=[some (.tup [.tup (rows.map row),row ls]),some (.int (iq (a_ rows i) j y:Nat)),some (.tup (p.map nD)),some (.int (i:Int)),some (.int (c:Int)),v5]) ⟨rfl,_,rfl⟩ (λ j d δ kh hd h=>?_) (λ δ kh h=>?_)
   ·obtain⟨rfl,v5,rfl⟩:=h;obtain⟨hj,rfl⟩:=de hd;have hz:iq (a_ rows i) j y < m:=G.gq.iq (by omega) j y hy;have ta:=qR G.tb hz (i:=i) (by omega);have hs:=nT (a_ rows i) j y;generalize iq (a_ rows i) j y=z at*;walk_at "rx";refine bI (d:=.tup ((rows.getD z []).map D.int)) ta.1 ?_;walk_at "rx";refine bI ta.2 ?_;walk_at "rx";exact⟨rfl,_,by rw[hs];rfl⟩
   ·obtain⟨rfl,v5,rfl⟩:=h;rw[bu];exact⟨rfl,_,_,_,by rw[hst]⟩
  ·obtain⟨rfl,v3,v4,v5,rfl⟩:=h;rw[dh,B4,y4];walk_at "rx";exact az k
end
def Cp:gs:=λ ds M Q=>∃(p:Cs) (i:Nat),ds=[fV p,.int i]/\i < p.length/\p.length<=1000/\Q (fV (inc p i)) M
def NT:Option Nat->D
 |none=>.bx
 |some m=>.int m
def xT(P:Program)(w:World)(K:J8)(mg:Str->Option Value)(base:Heap):gs:=λ ds M Q=>∃(α:Type) (_:DecidableEq α) (enc:α->D) (t:Bool) (S:α->Prop) (F:Nat->α->α) (s0:α) (h m:Nat) (mo:Option Nat) (f:Addr) (U:List α) (L:lB) (ps fv:List Str) (sp:vh) (cs:List D) (C:CM),
 ds=[.int h,enc s0,.ref f,NT mo]/\(mo=some m\/(mo=none/\U.length < m))/\(∀a b,enc a=enc b->a=b)/\(∀s,gX t (enc s))/\lE S h F/\S s0/\(∀s,S s->s∈U)/\U.length<=1000/\h<=12/\BF P w K mg base 5 L ps fv sp/\BE M f L fv cs C/\
 (∀M1 s i Q',Ext M M1->S s->i < h->(∀M',Ext (gT M1 C) M'->Q' (enc (F i s)) M')->sp [enc s,.int i] cs (gT M1 C) Q')/\
 ∀(p:Addr) (told:List (Cs×α)) (M':Mem),M p=none->M' p=some (.lst ((told.take m).map (kS enc)))->vk F s0 h m told->Ext M M'->Q (.ref p) M'
theorem AA{δ:cS}{M:Mem}{Q:Bool->Mem->Prop}{mo:Option Nat}{m:Nat}{p:Addr}{ds:List D}(h3:δ[3]?=some (some (NT mo)))(h4:δ[4]?=some (some (.ref p)))(hp:M p=some (.lst ds))(hm:mo=some m\/(mo=none/\ds.length < m))(q:Q (decide ((ds.length:Int) < (m:Int))) M):SW (lh (Ar (Kc false) (fF 3) (sC D.bx))) (lh (Ar (Ke λ i j=>D.bl (decide (i < j))) (LZ FO (nk (fF 4) vT)) (fF 3))) δ M Q:=by
 refine KN (lW (x_ (fi h3 (Ms ?_))));rcases hm with rfl|⟨rfl,lt⟩
 ·refine hX (by simp[mT,NT]) ?_;refine lW (x_ (KQ (jA (fi h4 (iS (tQ (rf hp ?_)))))));exact fi h3 (KP q)
 ·refine nE ?_;rw[show decide ((ds.length:Int) < (m:Int))=true from C0 (by omega)]at q;exact q
theorem qd{δ:cS}{M:Mem}{Q:bK}{mo:Option Nat}{m:Nat}{p:Addr}{ds:List D}(h3:δ[3]?=some (some (NT mo)))(h4:δ[4]?=some (some (.ref p)))(hp:M p=some (.lst ds))(hm:mo=some m\/(mo=none/\ds.length < m))(q:∀r,M r=none->Q (.ref r) (ah M r (.lst (ds.take m)))):SV xc (fF 4) lV (q_ (fF 3)) δ M Q:=by
 refine KL (fi h4 (qc (tO (fi h3 ?_))));rcases hm with rfl|⟨rfl,lt⟩
 ·refine Az hp (by omega) ?_;rw[u7];exact q
 ·refine vX hp ?_;rw[j2 (by omega)]at q;exact q
section
variable {P:Program}{w:World}{K:J8}{mg:Str->Option Value}{base:Heap}
theorem tI:aM ["counts","heap"] ["counts","heap"] (aq (top 1)):=⟨rfl,rfl,rfl,by decide+kernel,rfl,by decide+kernel,by decide+kernel⟩
theorem Jd{f:Addr}{fd:FuncData}(F:jk K "one_more" "one_more" (top 1) f fd)(T:lP K mg):cw P w K mg base fA 1 f fd ["counts","heap"] (cV K Cp):=by
 refine oU F tI (λ ds M Q h=>?_) (λ dQ A outer s H E ds M Q hr h=>?_)
 ·obtain⟨p,i,rfl,_⟩:=h;rfl
 ·obtain⟨p,i,rfl,hi,hp,k⟩:=h;have Pe:p[i]?=some p[i]:=i5 hi;refine⟨_,(aj (aV (bH bw (bH bw (qP CC (ak 0) qO (xD (ak 1))) (c_ (aa (bH bw (aL aI (ak 0) (ak 1) (λ _ _=>rfl)) ai) ab))) (qP CC (ak 0) (xD (bH bw (ak 1) ai)) qO)))),?_⟩;unfold fV at k ⊢;walk_at "rx";refine CZ (by omega) ?_;walk_at "rx";refine bI (d:=.int (p[i]:Nat)) (bG (by rw[s9,Pe];rfl)) ?_;walk_at "rx";refine jB (small (by simp;omega)) ?_;walk_at "rx";refine vY (by omega) ?_;refine jB (small (by simp;omega)) ?_;refine az ?_;rw[show((i:Int)).toNat=i by omega,show((i:Int)+1).toNat=i+1 by omega];rw[<- EM Pe,B6,B6,map_take,map_drop]at k;exact k
theorem bL:aM ["heaps","start","gone","most","told","known","done","counts","heap","there"] ["heaps","start","gone","most"] (aq (top 2)):=⟨rfl,rfl,rfl,by decide+kernel,rfl,by decide+kernel,by decide+kernel⟩
theorem DX{f:Addr}{fd:FuncData}(F:kb K "first_sums" "first_sums" (top 2) (.ref 22) 28 f fd)(T:lP K mg)(w_:cX P w K mg base 1 "one_more" ["counts","heap"] Cp):cw P w K mg base fA 7 f fd ["heaps","start","gone","most"] (cV K (xT P w K mg base)):=by
 refine Wf F bL (λ ds M Q h=>?_) (λ A outer s H E ds M Q hr h=>?_)
 ·obtain⟨α,_,enc,t,S,F,s0,h,m,mo,f,U,L,ps,fv,sp,cs,C,rfl,_⟩:=h;rfl
 ·obtain⟨α,_,enc,t,S,F,s0,h,m,mo,f,U,L,ps,fv,sp,cs,C,rfl,Vg,inj,Fc,CM,Gx,hU,Y0,hh,hL,VC,YL,k⟩:=h;refine⟨_,(ae (aB (i:=4) bL.nd rfl (Or.inl rfl) (cz (aa (c_ (aa (bH iT (c_ (aa ai ab)) (ak 0)) (aa (ak 1) ab))) ab)))
 (ae (aB (i:=5) bL.nd rfl (Or.inl rfl) (xF hr.units (ak 1) z_))
 (ae (aB (i:=6) bL.nd rfl (Or.inl rfl) ai)
 (ae (dS B0 (qN (aK oV (ak 6) (aD FZ (by rfl) T.len (by decide+kernel) (aa (ak 4) ab)) (aH _)) (qM (xC (aK D' (ak 3) sX (aH _)) (qL (aK oV (aD FZ (by rfl) T.len (by decide+kernel) (aa (ak 4) ab)) (ak 3) (aH _)))).pt)).pt
 (ae (aB (i:=7) bL.nd rfl (Or.inl rfl) (aL (eX hr.units) (aL (eX hr.units) (ak 4) (ak 6) (λ _ _=>rfl)) ai (λ _ _=>rfl)))
 (ae (dF B0 rfl (bo rfl T.range (aa (ak 0) ab)) (bD (i:=8) bL.nd rfl (Or.inl rfl))
 (ae (aB (i:=9) bL.nd rfl (Or.inl rfl) (GP (k:=5) (i:=2) (hr.mono (by decide)) (by rfl) (by first|exact Or.inl rfl|exact Or.inr (Or.inl rfl)|exact Or.inr (Or.inr rfl)) (aa (aL (eX hr.units) (aL (eX hr.units) (ak 4) (ak 6) (λ _ _=>rfl)) ai (λ _ _=>rfl)) (aa (ak 8) ab))))
 (aj (cb (aK (tZ hr.units) (ak 9) (ak 5) rfl)
 (ae (fg z_ (gw (ak 5) (ak 9) (CD hr.units)))
 (aj (bZ (eE i7 i4 i6 bP (ak 4) (aa (c_ (aa (aJ w_ (hr.mono (by decide)) (by rfl) (aa (ak 7) (aa (ak 8) ab))) (aa (ak 9) ab))) ab)))))
 aZ))))
 (aj (GO (i:=6) bL.nd rfl (Or.inl rfl) ai)))))
 (aj (aV (qP CC (ak 4) qO (BX (ak 3))))))))),?_⟩
  walk_at "rx";refine tP (by omega) (by omega) ?_;rw[u7];walk_at "rx";intro p hp;have W8:Ext M (ah M p (.lst [.tup [.tup (List.replicate h (.int 0)),enc s0]])):=Ext.new Ext.rfl hp _;have K9:ah M p (.lst [.tup [.tup (List.replicate h (.int 0)),enc s0]]) p=some (.lst ([(f_ h,s0)].map (kS enc))):=by rw[af];show _=some (MO.lst [.tup [fV (f_ h),enc s0]]);unfold fV f_;rw[map_replicate];rfl
  generalize ah M p (.lst [.tup [.tup (List.replicate h (.int 0)),enc s0]])=M0 at*;walk_at "rx";refine tR t λ q hq=>?_;have Rx:M q=none:=W8.free hq;have jO:p≠q:=bM K9 hq;walk_at "rx";refine⟨af,Fc s0,?_⟩;rw[dG];have Y':Ext M (ah M0 q (.cL t [(enc s0,.bl true)])):=W8.new hq _;have rS:ah M0 q (.cL t [(enc s0,.bl true)]) p=some (.lst ([(f_ h,s0)].map (kS enc))):=by rw[av jO];exact K9
  have Ry:ah M0 q (.cL t [(enc s0,.bl true)]) q=some (.cL t (oQ enc ([(f_ h,s0)].map λ e=>(e.2,.bl true)))):=af;generalize ah M0 q (.cL t [(enc s0,.bl true)])=M1 at*;have YH:∀{told:List (Cs×α)},(oQ enc (told.map λ e=>(e.2,D.bl true))).length=told.length:=λ{told}=>by simp[oQ]
  have Vn:∀{told:List (Cs×α)},(told.map λ e=>(e.2,D.bl true)).map (·.1)=told.map (·.2):=λ{told}=>by rw[D7];rfl
  have hS:∀{told:List (Cs×α)},O4 F s0 h told->(∀e∈told,S e.2)/\told.length<=U.length:=λ{told} hi=>by
   have h1:∀e∈told,S e.2:=λ e he=>by have:=hi.ent e he;rw[<- this.2];exact CM.dj e.1 0 s0 (by rw[this.1.1];omega) Gx
   refine⟨h1,?_⟩;have:=List.Nodup.length_le_of_subset hi.nd (l₂:=U) λ x hx=>by obtain⟨e,he,rfl⟩:=D6.mp hx;exact hU _ (h1 e he)
   rwa [B4]at this
  walk_at "rx";refine dX ⟨λ m' δ M'=>∃(v7 v8 v9:Option D) (told:List (Cs×α)) (d:Nat),δ=[some (.int h),some (enc s0),some (.ref f),some (NT mo),some (.ref p),some (.ref q),some (.int d),v7,v8,v9]/\Ext M M'/\M' p=some (.lst (told.map (kS enc)))/\M' q=some (.cL t (oQ enc (told.map λ e=>(e.2,.bl true))))/\sI F s0 h told d 0/\d<=told.length/\m'=U.length+1 - d,⟨_,none,none,none,_,0,rfl,Y',rS,Ry,sI.start F s0 h,by omega,rfl⟩,?_⟩;rintro m' δ M' ⟨v7,v8,v9,told,d,rfl,hE,eT,Pd,hB,Pn,rfl⟩;have hlen:=(hS hB.iF).2;have fin:vk F s0 h m told->∀(r:Addr),M' r=none->fin2 Q (.ref r) (ah M' r (.lst ((told.take m).map (kS enc)))):=λ hf r hr=>az (k r told _ (hE.free hr) af hf (hE.new hr _));walk_at "rx";refine tQ (rf eT ?_);rw[B4];walk_at "rx";refine aS (λ iX=>?_) (λ K_=>?_)
  ·refine AA rfl rfl eT (m:=m) (by rw[B4];exact Vg.imp id λ z=>⟨z.1,by have:=z.2;omega⟩) ?_;rw[B4];refine aS (λ YF=>?_) (λ hgm=>?_)
   ·obtain⟨⟨a,s⟩,hs⟩:∃e,told[d]?=some e:=⟨_,i5 (by omega)⟩;have Oy:gr (told.map (kS enc)) (d:Int)=some (.tup [fV a,enc s]):=bG (by rw[s9,hs];rfl);refine⟨λ δ' M'=>∃(v7 v8 v9:Option D) (told:List (Cs×α)),δ'=[some (.int h),some (enc s0),some (.ref f),some (NT mo),some (.ref p),some (.ref q),some (.int ((d:Int)+1)),v7,v8,v9]/\Ext M M'/\M' p=some (.lst (told.map (kS enc)))/\M' q=some (.cL t (oQ enc (told.map λ e=>(e.2,.bl true))))/\sI F s0 h told (d+1) 0/\d+1<=told.length,?_,?_⟩
    ·rintro δ' M2 ⟨v7,v8,v9,PL,rfl,a1,a2,a3,a4,a5⟩;exact⟨_,by omega,v7,v8,v9,PL,d+1,rfl,a1,a2,a3,a4,a5,rfl⟩
    ·walk_at "rx";refine du (cF eT Oy ?_);walk_at "rx";refine du (bI (d:=fV a) rfl ?_);walk_at "rx";refine⟨cG (by omega) (by omega),?_⟩;rw[u7];refine fU (λ i δ M2=>∃(v8 v9:Option D) (told:List (Cs×α)),δ=[some (.int h),some (enc s0),some (.ref f),some (NT mo),some (.ref p),some (.ref q),some (.int d),some (fV a),v8,v9]/\Ext M M2/\M2 p=some (.lst (told.map (kS enc)))/\M2 q=some (.cL t (oQ enc (told.map λ e=>(e.2,.bl true))))/\sI F s0 h told d i/\told[d]?=some (a,s)) ⟨v8,v9,told,rfl,hE,eT,Pd,hB,hs⟩ (λ i y δ M2 hd2 RH=>?_) (λ δ M2 RH=>?_)
     ·clear eT Pd hE hB hs Oy fin iX YF hlen Pn;obtain⟨v8,v9,told,rfl,hE,eT,Pd,hB,hs⟩:=RH;obtain⟨hi,rfl⟩:=de hd2;have Oy:gr (told.map (kS enc)) (d:Int)=some (.tup [fV a,enc s]):=bG (by rw[s9,hs];rfl);obtain⟨Y2,hlen⟩:=hS hB.iF;have Y1:S s:=Y2 _ (k9 hs);have Tn:a.length=h:=(hB.iF.ent _ (k9 hs)).1.1;have Th:M2 f=M2 f:=rfl;walk_at "rx";have Oz:=Eu VC hE;obtain⟨cl,vB,_⟩:=Oz.ex;refine Qh rfl ⟨L,cl,vB⟩ ?_;walk_at "rx";refine du (cF eT Oy ?_);walk_at "rx";refine du (bI (d:=enc s) rfl ?_);walk_at "rx";refine⟨L,ps,fv,sp,cs,C,hL,Oz,?_⟩;rw[D3];refine YL M2 s i _ hE Y1 hi λ M3 Y_=>?_;have VE:=Ext.zC Oz.zC Y_;have RA:=VE _ _ eT;have U9:=VE _ _ Pd;have W6:=hE.trans VE;generalize iI M3 C=M4 at*;walk_at "rx";refine qb U9 (Fc _) ?_;by_cases qo:F i s∈told.map (·.2)
      ·rw[show(!(dg (oQ enc (told.map λ e=>(e.2,D.bl true))) (enc (F i s))).isSome)=false by
        obtain⟨e,he,ee⟩:=D6.mp qo;rw[<- ee,qe (x:=e.2) (d:=.bl true) inj (by rw[Vn];exact hB.iF.nd) (D6.mpr ⟨e,he,rfl⟩)];rfl]
       walk_at "rx";exact⟨_,_,told,rfl,W6,RA,U9,hB.old CM Gx hi hs qo,hs⟩
      ·rw[show(!(dg (oQ enc (told.map λ e=>(e.2,D.bl true))) (enc (F i s))).isSome)=true by
        rw[kI inj (by rw[Vn];exact qo)];rfl]
       walk_at "rx";refine xZ U9 (Fc _) (by rw[YH];exact p5 (show told.length<=1000 by omega) (by decide)) ?_;rw[yh inj _ (by rw[Vn];exact qo)];have Pf:ah M4 q (.cL t (oQ enc (told.map (λ e=>(e.2,D.bl true))++[(F i s,.bl true)]))) p=some (.lst (told.map (kS enc))):=by rw[av jO];exact RA
       have Yx:ah M4 q (.cL t (oQ enc (told.map (λ e=>(e.2,D.bl true))++[(F i s,.bl true)]))) q=some (.cL t (oQ enc ((told++[(inc a i,F i s)]).map λ e=>(e.2,.bl true)))):=by rw[af,B6];rfl
       have Y9:Ext M (ah M4 q (.cL t (oQ enc (told.map (λ e=>(e.2,D.bl true))++[(F i s,.bl true)])))):=W6.own Rx;generalize ah M4 q (.cL t (oQ enc (told.map (λ e=>(e.2,D.bl true))++[(F i s,.bl true)])))=M5 at*;walk_at "rx";refine⟨⟨rfl,_,Pf⟩,?_⟩;walk_at "rx";refine⟨a,i,rfl,by omega,by omega,?_⟩;walk_at "rx";refine fS Pf (by rw[B4];exact p5 (show told.length<=1000 by omega) (by decide)) ?_;refine⟨_,_,told++[(inc a i,F i s)],rfl,Y9.own hp,?_,?_,hB.new CM Gx hi hs qo,?_⟩
       ·rw[af,B6];rfl
       ·rw[av (J5 jO)];exact Yx
       ·rw[c9 (g9.mp hs).1];exact hs
     ·obtain⟨v8,v9,told,rfl,hE,eT,Pd,hB,hs⟩:=RH;rw[bu]at hB;have:=(g9.mp hs).1;walk_at "rx";exact⟨1,rfl,_,_,_,told,rfl,hE,eT,Pd,hB.turn,by omega⟩
   ·with_reducible refine vZ ?_
    refine qd rfl rfl eT (m:=m) (by rw[B4];exact Vg.imp id λ z=>⟨z.1,by have:=z.2;omega⟩) λ r hr=>?_;rw[<- map_take];exact fin ⟨hB.iF,.inl (by omega)⟩ r hr
  ·with_reducible refine ya ?_
   with_reducible refine vZ ?_
   refine qd rfl rfl eT (m:=m) (by rw[B4];exact Vg.imp id λ z=>⟨z.1,by have:=z.2;omega⟩) λ r hr=>?_;rw[<- map_take];exact fin ⟨hB.iF,.inr λ x hx=>hB.all CM Gx (by omega) _ x (Nat.lt_succ_self _) hx⟩ r hr
end
theorem Fz{cs:Row}{i:Nat}{d:D}(h:(e_ (cs.map D.int))[i]?=some d):i < cs.length/\cs[i]?=some (cs.getD i 0)/\cs.take (i+1)=cs.take i++[cs.getD i 0]/\d=.tup [.int (i:Int),.int (cs.getD i 0)]:=by
 obtain⟨hi,e⟩:=mr h;rw[B4]at hi;have e1:cs[i]?=some (cs.getD i 0):=by rw[c8,i5 hi];rfl
 refine⟨hi,e1,by rw[take_add_one,e1];rfl,?_⟩;rw[e,c8,s9,e1];rfl
abbrev oJ(kv:List (Nat×Nat)):List (D×D):=oQ nD (kv.map λ e=>(e.1,nD e.2))
theorem Jy(kv:List (Nat×Nat)):(oJ kv).length=kv.length:=by simp[oQ]
theorem wD(kv:List (Nat×Nat)):(kv.map λ e=>(e.1,nD e.2)).map (·.1)=kv.map (·.1):=by rw[D7];rfl
theorem rH{kv:List (Nat×Nat)}{y v:Nat}(nd:(kv.map (·.1)).Nodup)(h:(y,v)∈kv):dg (oJ kv) (nD y)=some (nD v):=qe eC.inj (by rw[wD];exact nd) (D6.mpr ⟨_,h,rfl⟩)
theorem Rl{kv:List (Nat×Nat)}{y:Nat}(h:y∉kv.map (·.1)):dg (oJ kv) (nD y)=none:=kI eC.inj (by rw[wD];exact h)
theorem NZ{kv:List (Nat×Nat)}{y v:Nat}(h:y∉kv.map (·.1)):putD (oJ kv) (nD y) (nD v)=oJ (kv++[(y,v)]):=by unfold oJ;rw[yh eC.inj _ (by rw[wD];exact h),B6];rfl
def Cv:gs:=λ ds M Q=>∃(m h m2 x:Nat) (r q:List Row),ds=[.tup (r.map row),.tup (q.map row),.int x]/\dC m h r/\Tb m2 h q/\x < m2/\∀(p:Addr) (kv:List (Nat×Nat)) (M':Mem),M p=none->M' p=some (.cL false (oJ kv))->V8 m r q h x kv->Ext M M'->Q (.ref p) M'
def xQ:gs:=λ ds M Q=>∃(m h x:Nat) (r:List Row),ds=[.tup (r.map row),.int x]/\dC m h r/\x < m/\∀(p:Addr) (kv:List (Nat×Nat)) (M':Mem),M p=none->M' p=some (.cL false (oJ kv))->V8 m r r h x kv->Ext M M'->Q (.ref p) M'
section
variable {P:Program}{w:World}{K:J8}{mg:Str->Option Value}{base:Heap}
theorem dJ:aM ["steps","others","start","told","waiting","thing","heap","later"] ["steps","others","start"] (aq (top 5)):=⟨rfl,rfl,rfl,by decide+kernel,rfl,by decide+kernel,by decide+kernel⟩
theorem Ji{f:Addr}{fd:FuncData}(F:jk K "carried" "carried" (top 5) f fd)(T:lP K mg):cw P w K mg base fA 1 f fd ["steps","others","start"] (cV K Cv):=by
 refine oU F dJ (λ ds M Q h=>?_) (λ dQ A outer s H E ds M Q hr h=>?_)
 ·obtain⟨m,h,m2,x,r,q,rfl,_⟩:=h;rfl
 ·obtain⟨m,h,m2,x,r,q,rfl,G,T2,hx,k⟩:=h;have hm:=G.tb.cI;have hh:=G.tb.Bn;refine⟨_,(ae (aB (i:=3) dJ.nd rfl (Or.inl rfl) (xF hr.units ai (ak 2)))
 (ae (aB (i:=4) dJ.nd rfl (Or.inl rfl) (cz (aa ai ab)))
 (ae (dS B0 (aK (nJ hr.units) (ak 4) (cz ab) (aH _))
 (ae (aB (i:=5) dJ.nd rfl (Or.inl rfl) (PH i7 PySem.F.slot_list_pop PySem.F.type_list_pop KY (ak 4)))
 (aj (dF B0 rfl (lR rfl T.enumerate (aa (aL (eX hr.units) (ak 0) (ak 5) (λ _ _=>rfl)) ab)) (mK (n:=2) rfl (cU (bD (i:=6) dJ.nd rfl (Or.inl rfl)) (cU (bD (i:=7) dJ.nd rfl (Or.inl rfl)) jn)))
 (aj (cb (aK (tZ hr.units) (ak 7) (ak 3) rfl)
 (ae (fg (aL (eX hr.units) (aL (eX hr.units) (ak 1) (aL (eX hr.units) (ak 3) (ak 5) (λ _ _=>rfl)) (λ _ _=>rfl)) (ak 6) (λ _ _=>rfl)) (gw (ak 3) (ak 7) (CD hr.units)))
 (aj (bZ (eE i7 i4 i6 bP (ak 4) (aa (ak 7) ab)))))
 aZ))))))
 (aj (aV (ak 3)))))),?_⟩
  walk_at "rx";refine tR false λ p hp=>?_;walk_at "rx";refine⟨af,iV 0,?_⟩;rw[dG];have E1:Ext M (ah M p (.cL false [(.int 0,.int x)])):=Ext.new Ext.rfl hp _;have h1:ah M p (.cL false [(.int 0,.int x)]) p=some (.cL false (oJ [(0,x)])):=af;generalize ah M p (.cL false [(.int 0,.int x)])=M1 at*;walk_at "rx";intro w hw;have Wr:=E1.free hw;have pw:p≠w:=bM h1 hw;have E2:=E1.new hw (.lst [.int 0]);have h2:ah M1 w (.lst [.int 0]) p=some (.cL false (oJ [(0,x)])):=by rw[av pw];exact h1
  have w2:ah M1 w (.lst [.int 0]) w=some (.lst ([0].map nD)):=af;generalize ah M1 w (.lst [.int 0])=M2 at*;clear E1 h1 M1 hw;walk_at "rx";refine dX ⟨λ me δ M'=>∃(v5 v6 v7:Option D) (kv:List (Nat×Nat)) (ws:List Nat),δ=[some (.tup (r.map row)),some (.tup (q.map row)),some (.int x),some (.ref p),some (.ref w),v5,v6,v7]/\M' p=some (.cL false (oJ kv))/\M' w=some (.lst (ws.map nD))/\zL r q h x kv ws/\Ext M M'/\ws.length<=kv.length/\me=2*(m - kv.length)+ws.length,⟨_,none,none,none,[(0,x)],[0],rfl,h2,w2,zL.start r q h x,E2,G5 _,rfl⟩,?_⟩;clear h2 w2 E2 M2;rintro me δ M1 ⟨v5,v6,v7,kv,ws,rfl,h1,w1,C,E1,lw,rfl⟩;have kf:=C.cI G T2 hx;walk_at "rx";intro e he;refine x' (k:=0) (b:=decide (ws=[])) (by rw[av (bM w1 he)];exact w1) af (gH λ x _=>dN 0 _) (λ e he=>by cases he) (by decide) (Eg (by rw[decide_eq_true_iff])) ?_;have h1:ah M1 e (.lst []) p=some (.cL false (oJ kv)):=by rw[av (bM h1 he)];exact h1
  have w1:ah M1 e (.lst []) w=some (.lst (ws.map nD)):=by rw[av (bM w1 he)];exact w1
  have E1:=E1.new he (.lst []);generalize ah M1 e (.lst [])=M2 at*;refine h_ (λ hn=>?_) (λ hn=>?_)
  ·have hn:ws≠[]:=by simpa using hn
   obtain⟨BW,y,rfl⟩:∃BW y,ws=BW++[y]:=⟨_,_,(dropLast_concat_getLast hn).symm⟩;obtain⟨v,CI⟩:=C.pop;have hy:=yi G T2 hx (C.pr _ CI.at');refine⟨λ δ' M'=>∃(v5 v6 v7:Option D) (lq:List (Nat×Nat)) (vn:List Nat),δ'=[some (.tup (r.map row)),some (.tup (q.map row)),some (.int x),some (.ref p),some (.ref w),v5,v6,v7]/\M' p=some (.cL false (oJ lq))/\M' w=some (.lst (vn.map nD))/\zL r q h x lq vn/\Ext M M'/\kv.length+vn.length=lq.length+BW.length/\kv.length<=lq.length,?_,?_⟩
   ·rintro δ' M' ⟨v5,v6,v7,lq,vn,rfl,a1,a2,a3,a4,a5,a6⟩;have:=a3.cI G T2 hx;rw[o6,j9]at lw;exact⟨_,by rw[o6,j9];omega,v5,v6,v7,lq,vn,rfl,a1,a2,a3,a4,by omega,rfl⟩
   walk_at "rx";refine⟨⟨rfl,_,w1⟩,?_⟩;walk_at "rx";refine Mf (ds:=BW.map nD) (y:=nD y) (by rw[w1,B6];rfl) ?_;have h1:ah M2 w (.lst (BW.map nD)) p=some (.cL false (oJ kv)):=by rw[av pw];exact h1
   have w1:ah M2 w (.lst (BW.map nD)) w=some (.lst (BW.map nD)):=af;have E1:Ext M (ah M2 w (.lst (BW.map nD))):=E1.own Wr;generalize ah M2 w (.lst (BW.map nD))=M3 at*;obtain⟨r1,r2,r3⟩:=CT G.tb hy.1;obtain⟨q1,q2,q3⟩:=CT T2 hy.2;walk_at "rx";refine du (bI r1 ?_);walk_at "rx";refine fU (λ i δ M'=>∃(v6 v7:Option D) (lq:List (Nat×Nat)) (vn:List Nat),δ=[some (.tup (r.map row)),some (.tup (q.map row)),some (.int x),some (.ref p),some (.ref w),some (nD y),v6,v7]/\M' p=some (.cL false (oJ lq))/\M' w=some (.lst (vn.map nD))/\pI r q h x lq vn y v i/\Ext M M'/\kv.length+vn.length=lq.length+BW.length/\kv.length<=lq.length/\lq.length<=m) ⟨v6,v7,kv,BW,rfl,h1,w1,CI,E1,rfl,G5 _,kf⟩ (λ i d δ M' hd hI=>?_) (λ δ M' hI=>?_)
   ·clear h1 w1 CI E1;obtain⟨v6,v7,lq,vn,rfl,h1,w1,CI,E1,l1,l2,l3⟩:=hI;obtain⟨hi,e1,_,rfl⟩:=Fz hd;rw[r2]at hi;have ex:(r.getD y []).getD i 0=(a_ r i y:Int):=(G.tb.at hy.1 hi).2.1;rw[ex];have ez:D.int (a_ r i y:Int)=nD (a_ r i y):=rfl;rw[ez];walk_at "rx";refine qb h1 (iV _) ?_;by_cases qo:a_ r i y∈lq.map (·.1)
    ·obtain⟨en,he,ee⟩:=D6.mp qo;rw[show(!(dg (oJ lq) (nD (a_ r i y))).isSome)=false by rw[<- ee,rH CI.nd (v:=en.2) he];rfl];walk_at "rx";exact⟨_,_,lq,vn,rfl,h1,w1,CI.old qo,E1,l1,l2,l3⟩
    ·rw[show(!(dg (oJ lq) (nD (a_ r i y))).isSome)=true by rw[Rl qo];rfl];walk_at "rx";refine wa h1 (iV _) (rH CI.nd CI.at') ?_;walk_at "rx";refine du (bI q1 ?_);walk_at "rx";refine du (bI (d:=nD (a_ q i v)) ?_ ?_)
     ·exact(qR T2 hy.2 hi).2
     walk_at "rx";refine xZ h1 (iV _) (by rw[Jy];exact p5 (show lq.length<=300 by omega) (by decide)) ?_;rw[NZ qo];have w2:ah M' p (.cL false (oJ (lq++[(a_ r i y,a_ q i v)]))) w=some (.lst (vn.map nD)):=by rw[av (J5 pw)];exact w1
     have h2:ah M' p (.cL false (oJ (lq++[(a_ r i y,a_ q i v)]))) p=some (.cL false (oJ (lq++[(a_ r i y,a_ q i v)]))):=af;have E2:Ext M (ah M' p (.cL false (oJ (lq++[(a_ r i y,a_ q i v)])))):=E1.own hp;generalize ah M' p (.cL false (oJ (lq++[(a_ r i y,a_ q i v)])))=M4 at*;have CN:=CI.new hi qo;have nf:=CN.nd;have l4:(lq++[(a_ r i y,a_ q i v)]).length<=m:=by
      have:=List.Nodup.length_le_of_subset nf (l₂:=List.range m) λ z hz=>by obtain⟨e,he,rfl⟩:=D6.mp hz;exact mem_range.mpr (yi G T2 hx (CN.pr e he)).1
      rwa [B4,x3]at this
     walk_at "rx";refine⟨⟨rfl,_,w2⟩,?_⟩;walk_at "rx";refine fS w2 (by rw[B4];exact p5 (show vn.length<=700 by rw[o6,j9]at lw;omega) (by decide)) ?_;refine⟨_,_,_,vn++[a_ r i y],rfl,by rw[av pw];exact h2,by rw[af,B6];rfl,CN,E2.own Wr,?_,?_,l4⟩
     ·rw[o6,o6,j9,j9];omega
     ·rw[o6];omega
   ·obtain⟨v6,v7,lq,vn,rfl,h1,w1,CI,E1,l1,l2,l3⟩:=hI;rw[dh,B4,r2]at CI;exact⟨_,_,_,lq,vn,rfl,h1,w1,CI.done,E1,l1,l2⟩
  ·have hn:ws=[]:=by simpa using hn
   subst hn;walk_at "rx";exact az (k p kv _ hp h1 (C.ZL G T2 hx) E1)
theorem Ao:aM ["steps","x"] ["steps","x"] (aq (top 6)):=⟨rfl,rfl,rfl,by decide+kernel,rfl,by decide+kernel,by decide+kernel⟩
theorem DV{f:Addr}{fd:FuncData}(F:jk K "put_to" "put_to" (top 6) f fd)(T:lP K mg)(Br:cX P w K mg base 1 "carried" ["steps","others","start"] Cv):cw P w K mg base fA 2 f fd ["steps","x"] (cV K xQ):=by
 refine oU F Ao (λ ds M Q h=>?_) (λ dQ A outer s H E ds M Q hr h=>?_)
 ·obtain⟨m,h,x,r,rfl,_⟩:=h;rfl
 ·obtain⟨m,h,x,r,rfl,G,hx,k⟩:=h;refine⟨_,(aj (aV (aJ Br (hr.mono (by decide)) (by rfl) (aa (ak 0) (aa (ak 0) (aa (ak 1) ab)))))),?_⟩;walk_at "rx";refine⟨m,h,m,x,r,r,rfl,G,G.tb,hx,λ p kv M' hp h1 C E1=>?_⟩;exact az (k p kv M' hp h1 C E1)
end
theorem EK(ls:Row)(x:Nat):gP ls x=true↔D.int (x:Int)∈ls.map D.int:=by
 unfold gP;rw[decide_eq_true_iff];constructor
 ·intro h;exact D6.mpr ⟨_,h,rfl⟩
 ·intro h;obtain⟨y,hy,e⟩:=D6.mp h;rw[<- D.int.inj e];exact hy
theorem yb{M:Mem}{Q:bK}{ls:Row}{x:Nat}(q:Q (.bl (gP ls x)) M):R0 (.int (x:Int)) (row ls) M Q:=.inl (rh (k:=0) (ds:=ls.map D.int) rfl (dN 0 _) (gH λ x _=>dN 0 _) (by decide) (EK ls x) q)
theorem rg{M:Mem}{Q:bK}{ls:Row}{x:Nat}(q:Q (.bl (gP ls x)) M):Kd (.int (x:Int)) (row ls) M Q:=rh (k:=0) (ds:=ls.map D.int) rfl (dN 0 _) (gH λ x _=>dN 0 _) (by decide) (EK ls x) q
def Cq:vh:=λ ds cs M Q=>∃(m h x i:Nat) (rows:List Row),ds=[.int x,.int i]/\cs=[.tup (rows.map row)]/\Tb m h rows/\x < m/\i < h/\Q (.int (a_ rows i x:Nat)) M
def GF(M:Mem):Prop:=M 31=some (.fm (.lT "first_things.<locals>.<lambda>"))
def tu:gs:=λ ds M Q=>∃(m h:Nat) (rows:List Row),ds=[.tup (rows.map row)]/\GF M/\dC m h rows/\∀(p:Addr) (told:List (Cs×Nat)) (M':Mem),M p=none->M' p=some (.lst (told.map (kS nD)))->vk (a_ rows) 0 h m told->told.length=m->Ext M M'->Q (.ref p) M'
section
variable {P:Program}{w:World}{K:J8}{mg:Str->Option Value}{base:Heap}
theorem wB(T:lP K mg):BF P w K mg base 1 (Et (top 3) 2 "first_things.<locals>.<lambda>" mg) ["thing","heap"] ["steps"] Cq:=by
 refine UO (Rh (by kernel_rfl) (by decide+kernel)) (λ ds cs M Q h=>?_) (λ _ _ _=>ln2 λ _ _=>rfl) (λ A outer s H f c cl ds cs M Q hr h=>?_)
 ·obtain⟨m,h,x,i,rows,rfl,_⟩:=h;rfl
 ·obtain⟨m,h,x,i,rows,rfl,rfl,T,hx,hi,k⟩:=h;have ta:=qR T hx hi;refine⟨_,(aL aI (aL aI (ak 2) (ak 0) (λ _ _=>rfl)) (ak 1) (λ _ _=>rfl)),?_⟩;walk_at "rx";refine bI (d:=.tup ((rows.getD x []).map D.int)) ta.1 ?_;walk_at "rx";refine bI ta.2 ?_;exact k
theorem gf:aM ["steps"] ["steps"] (aq (top 3)):=⟨rfl,rfl,rfl,by decide+kernel,rfl,by decide+kernel,by decide+kernel⟩
theorem AL{f:Addr}{fd:FuncData}(F:kb K "first_things" "first_things" (top 3) .none 35 f fd)(T:lP K mg)(B:Ku mg base 35 31)(rW:cX P w K mg base 7 "first_sums" ["heaps","start","gone","most"] (xT P w K mg base)):cw P w K mg base fA 8 f fd ["steps"] (cV K tu):=by
 refine Wf F gf (λ ds M Q h=>?_) (λ A outer s H E ds M Q hr h=>?_)
 ·obtain⟨m,h,rows,rfl,_⟩:=h;rfl
 ·obtain⟨m,h,rows,rfl,hT,G,k⟩:=h;have K7:=L9 G.tb;have BL:=G.tb.len;have YE:jK ["thing","heap"] ["steps"] ((Et (top 3) 2 "first_things.<locals>.<lambda>" mg)).scope=true:=by kernel_rfl
  have VB:=(wB (P:=P) (w:=w) (base:=base) T).mono (show 1<=5 by decide);refine⟨_,(aj (aV (GQ (cn:=[("steps",0)]) rW (hr.mono (by decide)) (by rfl) (R6 (by kernel_rfl)) gf.nd (aa (aD bO (by rfl) T.len (by decide+kernel) (aa (aL aI (ak 0) ai (λ _ _=>rfl)) ab)) (aa ai (aa (PF (L:=Et (top 3) 2 "first_things.<locals>.<lambda>" mg) rfl B rfl rfl (by kernel_rfl) (RR (by kernel_rfl))) (aa (aD bO (by rfl) T.len (by decide+kernel) (aa (ak 0) ab)) ab))))))),?_⟩;walk_at "rx";refine bI K7.1 ?_;walk_at "rx";rw[B4,K7.2];refine Ml hT λ lf Te vB=>?_;walk_at "rx";rw[B4,BL];refine⟨λ x j hx=>?_,λ C hC hn=>?_⟩
  ·rw[p7]at hx;cases hx;exact⟨_,rfl⟩
  have VC:=Jv (cs:=[.tup (rows.map row)]) YE rfl rfl (λ i x j d h1 h2=>?_) hC af hn
  ·refine⟨Nat,inferInstance,nD,false,(· < m),a_ rows,0,h,m,some m,lf,List.range m,_,_,_,Cq,[.tup (rows.map row)],C,rfl,.inl rfl,eC.inj,iV,G.gq,G.tb.pos,λ s hs=>mem_range.mpr hs,by rw[x3];have:=G.tb.cI;omega,G.tb.Bn,VB,VC,λ M1 s i Q' hE hs hi hq=>?_,λ p told M' hp eT hF hE=>?_⟩
   ·exact⟨m,h,s,i,rows,rfl,rfl,G.tb,hs,hi,hq _ Ext.rfl⟩
   ·have hl:=hF.len G;rw[j2 (by omega)]at eT;have W9:C p=none:=by
     rcases dB C p with z|⟨d,z⟩
     ·exact z
     ·rw[mH z]at hp;cases hp
    rw[jW W9]at hp;refine az (k p told _ ((Ext.new Ext.rfl Te _).free hp) (OJ eT W9) hF hl ((Ext.new Ext.rfl Te _).trans (Ext.PK hE hn)))
  ·cases i with
   |zero=>cases h1;cases h2;rfl
   |succ i=>cases h1
end
def vP:gs:=λ ds M Q=>∃(m h x y:Nat) (r:List Row) (ls:Row),ds=[eu r ls,.int x,.int y]/\GF M/\dC m h r/\x < m/\y < m/\(∀p M',LP h r ls x y p->Ext M M'->Q (fV p) M')/\((∀q:Cs,q.length=h->¬jF r ls x y q)->∀M',Ext M M'->Q .bx M')
section
variable {P:Program}{w:World}{K:J8}{mg:Str->Option Value}{base:Heap}
theorem dH:aM ["table","x","y","losing","with_x","with_y","counts","thing"] ["table","x","y"] (aq (top 8)):=⟨rfl,rfl,rfl,by decide+kernel,rfl,by decide+kernel,by decide+kernel⟩
theorem Jb{f:Addr}{fd:FuncData}(F:jk K "parting" "parting" (top 8) f fd)(T:lP K mg)(oo:cX P w K mg base 8 "first_things" ["steps"] tu)(uO:cX P w K mg base 2 "put_to" ["steps","x"] xQ):cw P w K mg base fA 9 f fd ["table","x","y"] (cV K vP):=by
 refine oU F dH (λ ds M Q h=>?_) (λ dQ A outer s H E ds M Q hr h=>?_)
 ·obtain⟨m,h,x,y,r,ls,rfl,_⟩:=h;rfl
 ·obtain⟨m,h,x,y,r,ls,rfl,hT,G,hx,hy,kp,kn⟩:=h;have uD:eu r ls=.tup [.tup (r.map row),row ls]:=rfl;rw[uD];have hm:=G.tb.cI;refine⟨_,(ae (aB (i:=3) dH.nd rfl (Or.inl rfl) (aL (eX hr.units) (ak 0) ai (λ _ _=>rfl)))
 (ae (aB (i:=4) dH.nd rfl (Or.inl rfl) (aJ uO (hr.mono (by decide)) (by rfl) (aa (aL (eX hr.units) (ak 0) ai (λ _ _=>rfl)) (aa (ak 1) ab))))
 (ae (aB (i:=5) dH.nd rfl (Or.inl rfl) (aJ uO (hr.mono (by decide)) (by rfl) (aa (aL (eX hr.units) (ak 0) ai (λ _ _=>rfl)) (aa (ak 2) ab))))
 (ae (dF B0 rfl (eh (aJ oo (hr.mono (by decide)) (by rfl) (aa (aL (eX hr.units) (ak 0) ai (λ _ _=>rfl)) ab))) (mK (n:=2) rfl (cU (bD (i:=6) dH.nd rfl (Or.inl rfl)) (cU (bD (i:=7) dH.nd rfl (Or.inl rfl)) jn)))
 (aj (cb (aK (nJ hr.units) (eD (KW hr.units) (aL (eX hr.units) (ak 4) (ak 7) (λ _ _=>rfl)) (ak 3) rfl) (eD (KW hr.units) (aL (eX hr.units) (ak 5) (ak 7) (λ _ _=>rfl)) (ak 3) rfl) (aH _))
 (aj (aV (ak 6)))
 aZ)))
 (aj (aV sX)))))),?_⟩
  walk_at "rx";refine du (bI (d:=row ls) rfl ?_);walk_at "rx";refine du (bI (d:=.tup (r.map row)) rfl ?_);walk_at "rx";refine⟨m,h,x,r,rfl,G,hx,λ p1 kv1 M1 rS h1 C1 E1=>?_⟩;walk_at "rx";refine du (bI (d:=.tup (r.map row)) rfl ?_);walk_at "rx";refine⟨m,h,y,r,rfl,G,hy,λ p2 kv2 M2 eT h2 C2 E2=>?_⟩;have Zg:=E2 _ _ h1;have E2:=E1.trans E2;walk_at "rx";refine du (bI (d:=.tup (r.map row)) rfl ?_);walk_at "rx";refine⟨m,h,r,rfl,E2 _ _ hT,G,λ a told M3 ha h3 FS len E3=>?_⟩;have Zf:=E3 _ _ Zg;have Zc:=E3 _ _ h2;have E3:=E2.trans E3;refine lY h3 ?_;refine zd (ds:=told.map (kS nD)) (λ i δ M'=>∃v6 v7:Option D,δ=[some (.tup [.tup (r.map row),row ls]),some (.int x),some (.int y),some (row ls),some (.ref p1),some (.ref p2),v6,v7]/\M'=M3/\∀(j:Nat) (d:Cs×Nat),j < i->told[j]?=some d->¬jF r ls x y d.1) ⟨_,_,rfl,rfl,λ j d z=>absurd z (by omega)⟩ (λ i δ M' _ hI=>?_) (λ i d δ M' hd hI=>?_) (λ δ M' hI=>?_)
  ·obtain⟨_,_,_,rfl,_⟩:=hI;exact h3
  ·obtain⟨v6,v7,rfl,rfl,OV⟩:=hI;rw[s9]at hd;obtain⟨e,he,rfl⟩:=Option.map_eq_some_iff.mp hd;have ee:=FS.iF.ent e (k9 he);have el:=ee.1.1;have et:e.2 < m:=by rw[<- ee.2];exact Fj G G.tb.pos el
   obtain⟨v1,Pb⟩:=C1.all e.2 et;obtain⟨v2,Pa⟩:=C2.all e.2 et;have e1:v1=mul r h x e.2:=rF G hx (C1.pr _ Pb);have e2:v2=mul r h y e.2:=rF G hy (C2.pr _ Pa);have pe:jF r ls x y e.1↔gP ls v1≠gP ls v2:=by unfold jF;rw[iw G hx el,iw G hy el,ee.2,e1,e2]
   have Vs:kS nD e=.tup [fV e.1,.int (e.2:Int)]:=rfl;rw[Vs];walk_at "rx";refine wa Zf (iV _) (rH C1.nd Pb) ?_;walk_at "rx";refine yb ?_;walk_at "rx";refine wa Zc (iV _) (rH C2.nd Pa) ?_;walk_at "rx";refine yb ?_;walk_at "rx";refine h_ (λ hn=>?_) (λ hn=>?_)
   ·have hn:gP ls v1≠gP ls v2:=by simpa using hn
    walk_at "rx";exact az (kp _ _ (wm G FS hx hy he (pe.mpr hn) OV) E3)
   ·have hn:gP ls v1=gP ls v2:=by simpa using hn
    refine⟨_,_,rfl,rfl,λ j d hj hd=>?_⟩;by_cases z:j=i
    ·rw[z]at hd;have ed:e=d:=A9 (he.symm.trans hd);rw[<- ed];exact λ w=>pe.mp w hn
    ·exact OV j d (by omega) hd
  ·obtain⟨v6,v7,rfl,rfl,OV⟩:=hI;rw[B4]at OV;walk_at "rx";exact az (kn (AI G FS hx hy λ i d hd=>OV i d (g9.mp hd).1 hd) _ E3)
end
def Cu:gs:=λ ds M Q=>∃(m h:Nat) (r:List Row) (ls:Row),ds=[eu r ls]/\dC m h r/\m < 64/\∀(p:Addr) (f:Nat->Nat) (M':Mem),M p=none->M' p=some (.lst ((List.range m).map λ x=>nD (f x)))->(∀x y,x < m->y < m->(f x=f y↔∀q:Cs,q.length=h->¬jF r ls x y q))->Ext M M'->Q (.ref p) M'
theorem Hr{m h:Nat}{r:List Row}(G:Tb m h r){x:Nat}(hx:x < m):gr (r.map row) (x:Int)=some (.tup (((List.range h).map λ i=>a_ r i x).map nD)):=by
 have sL:x < r.length:=by rw[G.len];exact hx
 have e:=i5 sL;refine bG ?_;rw[s9,e];have rl:=(G.row _ (y9 sL)).1;have g:r.getD x []=r[x]:=by rw[c8,e];rfl
 refine J4 (λ z=>some (D.tup z)) (x6 λ i=>?_);rw[s9,s9,s9];by_cases hi:i < h
 ·have:=(G.at hx hi).2.1;rw[g,c8,i5 (by omega)]at this;rw[l8 hi,i5 (by omega)];exact J4 (λ z=>some (D.int z)) this
 ·rw[k7 (by omega),k7 (by rw[x3];omega)];rfl
section
variable {P:Program}{w:World}{K:J8}{mg:Str->Option Value}{base:Heap}
theorem cg:aM ["_law_table_here","_law_found","_law_turn","_law_rows","_law_some"] ["_law_table_here"] (aq (top 23)):=⟨rfl,rfl,rfl,by decide+kernel,rfl,by decide+kernel,by decide+kernel⟩
theorem Jh{f:Addr}{fd:FuncData}(F:jk K "_law_classes" "_law_classes" (top 23) f fd)(T:lP K mg):cw P w K mg base fA 1 f fd ["_law_table_here"] (cV K Cu):=by
 refine oU F cg (λ ds M Q h=>?_) (λ dQ A outer s H E ds M Q hr h=>?_)
 ·obtain⟨m,h,r,ls,rfl,_⟩:=h;rfl
 ·obtain⟨m,h,r,ls,rfl,G,hm,k⟩:=h;have uD:eu r ls=.tup [.tup (r.map row),row ls]:=rfl;have BL:=G.tb.len;have hh:=G.tb.Bn;rw[uD];refine⟨_,(ae (aB (i:=1) cg.nd rfl (Or.inr rfl) (kj (tgs:=["_law_x"]) (fr:=[0]) ⟨cp (by kernel_rfl),rfl,(λ _ _ h=>h),(bo rfl T.range (aa (aD bO (by rfl) T.len (by decide+kernel) (aa (aL aI (ak 0) ai (λ _ _=>rfl)) ab)) ab)),(bB (λ _ _ _ _ _=>(bc (i:=0) (show(["_law_x","_law_table_here"]:List Str).Nodup by decide+kernel) rfl (Or.inl rfl))) (by decide)),(λ _ _ _ _ _=>b_),(λ _ _ _ _ _=>(bR ou (by rfl) T.int (by decide+kernel) (aa (eD (t_ hr.units) (ak 0) (aL aI (ak 1) ai (λ _ _=>rfl)) rfl) ab)))⟩))
 (ae (dF B0 rfl (bo rfl T.range (aa (aD bO (by rfl) T.len (by decide+kernel) (aa (aL aI (ak 0) ai (λ _ _=>rfl)) ab)) ab)) (bD (i:=2) cg.nd rfl (Or.inl rfl))
 (ae (cY (i:=3) cg.nd rfl (Or.inl rfl) (tgs:=["_law_x"]) (fr:=[1,0]) ⟨cp (by kernel_rfl),rfl,(λ _ _ h=>h),(bo rfl T.range (aa (aD bO (by rfl) T.len (by decide+kernel) (aa (aL aI (ak 0) ai (λ _ _=>rfl)) ab)) ab)),(bB (λ _ _ _ _ _=>(bc (i:=0) (show(["_law_x","_law_found","_law_table_here"]:List Str).Nodup by decide+kernel) rfl (Or.inl rfl))) (by decide)),(λ _ _ _ _ _=>b_),(λ _ _ _ _ _=>(bH bw (c_ (aa (aL aI (ak 1) (ak 0) (λ _ _=>rfl)) ab)) (ki bY eK (by rfl) T.tuple (by decide+kernel) (tgs:=["_law_y"]) (fr:=[1]) ⟨cp (by kernel_rfl),rfl,(λ _ _ h=>h),(eh (aL aI (aL aI (ak 2) ai (λ _ _=>rfl)) (ak 0) (λ _ _=>rfl))),(bB (λ _ _ _ _ _=>(bc (i:=0) (show(["_law_y","_law_found"]:List Str).Nodup by decide+kernel) rfl (Or.inl rfl))) (by decide)),(λ _ _ _ _ _=>b_),(λ _ _ _ _ _=>(aL aI (ak 1) (ak 0) (λ _ _=>rfl)))⟩)))⟩)
 (ae (aB (i:=4) cg.nd rfl (Or.inr rfl) (Lw rfl hr.units (by rfl) T.sorted (by rfl) T.set (aa (ak 3) ab)))
 (aj (aB (i:=1) cg.nd rfl (Or.inr rfl) (kj (tgs:=["_law_one"]) (fr:=[4]) ⟨cp (by kernel_rfl),rfl,(λ _ _ h=>h),(eh (ak 3)),(bB (λ _ _ _ _ _=>(bc (i:=0) (show(["_law_one","_law_some"]:List Str).Nodup by decide+kernel) rfl (Or.inl rfl))) (by decide)),(λ _ _ _ _ _=>b_),(λ _ _ _ _ _=>(eE i7 PySem.F.slot_list_index PySem.F.type_list_index (fT hr.units) (ak 1) (aa (ak 0) ab)))⟩))))))
 (aj (aV (ak 1))))),?_⟩
  walk_at "rx";rw[B4,BL];refine⟨cG (by omega) (by omega),?_⟩;rw[u7,dM];refine jV (xs:=List.range m) (enc:=SY) (λ x=>nD (if gP ls x then 1 else 0)) (by rw[x3];omega) (λ i x N hx hN=>?_) ?_
  ·rw[CU];walk_at "rx";refine rg ?_;walk_at "rx";have e:D.int (if gP ls x=true then 1 else 0)=nD (if gP ls x then 1 else 0):=by cases gP ls x <;> rfl
   rw[e];exact hN
  intro p0 K9;have E0:=Ext.new (Ext.rfl (M:=M)) K9 (.lst ((List.range m).map λ x=>nD (if gP ls x then 1 else 0)));have h0:ah M p0 (.lst ((List.range m).map λ x=>nD (if gP ls x then 1 else 0))) p0=some (.lst ((List.range m).map λ x=>nD (if gP ls x then 1 else 0))):=af;generalize ah M p0 (.lst ((List.range m).map λ x=>nD (if gP ls x then 1 else 0)))=M0 at*;walk_at "rx";rw[B4,BL];refine⟨cG (by omega) (by omega),?_⟩;rw[u7];refine fU (λ t δ M'=>∃(v2 v3 v4:Option D) (p:Addr) (f:Nat->Nat),δ=[some (.tup [.tup (r.map row),row ls]),some (.ref p),v2,v3,v4]/\M p=none/\M' p=some (.lst ((List.range m).map λ x=>nD (f x)))/\(∀x y,x < m->y < m->(f x=f y↔cq r ls h t x y))/\Ext M M') ⟨_,_,_,p0,λ x=>if gP ls x then 1 else 0,rfl,K9,h0,λ x y _ _=>?_,E0⟩ (λ t d δ M' hd hI=>?_) (λ δ M' hI=>?_)
  ·show(if gP ls x=true then 1 else 0)=(if gP ls y=true then 1 else 0)↔gP ls x=gP ls y;generalize gP ls x=a;generalize gP ls y=b;cases a <;> cases b <;> simp
  ·obtain⟨v2,v3,v4,p,f,rfl,Wx,hp,hf,E1⟩:=hI;walk_at "rx";rw[B4,BL];refine⟨cG (by omega) (by omega),?_⟩;rw[u7,dM];refine jV (xs:=List.range m) (enc:=SY) (λ x=>cA (gI r h f x)) (by rw[x3];omega) (λ i x N hx hN=>?_) ?_
   ·have hx:=KJ hx;rw[CU];walk_at "rx";refine cF hp (d:=nD (f x)) (bG (by rw[s9,l8 hx];rfl)) ?_;walk_at "rx";refine bI (Hr G.tb hx) ?_;walk_at "rx";refine jV (xs:=(List.range h).map λ i=>a_ r i x) (enc:=nD) (λ y=>nD (f y)) (by rw[B4,x3];omega) (λ j y M2 hy hN=>?_) ?_
    ·rw[s9]at hy;obtain⟨i,hi,rfl⟩:=Option.map_eq_some_iff.mp hy;have hi:=KJ hi;walk_at "rx";exact cF hp (d:=nD (f (a_ r i x))) (bG (by rw[s9,l8 (G.gq.cl _ _ hi hx)];rfl)) hN
    ·walk_at "rx";refine jB (by rw[B4,B4,x3];exact small (by show 1+h<=10000;omega)) ?_;have e:[D.int ((f x:Nat):Int)]++((List.range h).map λ i=>a_ r i x).map (λ y=>nD (f y))=(gI r h f x).map D.int:=by unfold gI;rw[C9,D7,D7];rfl
     rw[e];exact hN
   intro pr Tc;have e:(List.range m).map (λ x=>cA (gI r h f x))=((List.range m).map (gI r h f)).map cA:=by rw[D7];rfl
   rw[e];have E2:=E1.new Tc (.lst (((List.range m).map (gI r h f)).map cA));have h2:ah M' pr (.lst (((List.range m).map (gI r h f)).map cA)) pr=some (.lst (((List.range m).map (gI r h f)).map cA)):=af;generalize ah M' pr (.lst (((List.range m).map (gI r h f)).map cA))=M2 at*;walk_at "rx";refine⟨pr,(List.range m).map (gI r h f),rfl,h2,λ z hz=>?_,by rw[B4,x3];exact hm,λ rs ps nd mem K8=>?_⟩
   ·obtain⟨x,_,rfl⟩:=D6.mp hz;unfold gI;exact cons_ne_nil _ _
   have E3:=E2.new K8 (.lst (rs.map cA));have h3:ah M2 ps (.lst (rs.map cA)) pr=some (.lst (((List.range m).map (gI r h f)).map cA)):=by rw[av (bM h2 K8)];exact h2
   have s3:ah M2 ps (.lst (rs.map cA)) ps=some (.lst (rs.map cA)):=af;generalize ah M2 ps (.lst (rs.map cA))=M3 at*;have inr:∀x,x < m->gI r h f x∈rs:=λ x hx=>(mem _).mpr (D6.mpr ⟨x,mem_range.mpr hx,rfl⟩);walk_at "rx";refine k_ cA (λ z=>nD (S8 rs z)) (by rw[B4,x3];omega) h3 (λ i z N hz hN=>?_) ?_
   ·walk_at "rx";refine⟨⟨rfl,_,s3⟩,?_⟩;walk_at "rx";refine jz cA As s3 ((mem _).mpr (k9 hz)) (λ a=>wj (k:=0) (gH λ x _=>dN 0 _)) (by decide) ?_;exact hN
   ·intro q hq;rw[D7];refine⟨_,_,_,q,λ x=>S8 rs (gI r h f x),rfl,E3.free hq,af,λ x y hx hy=>?_,E3.new hq _⟩;rw[<- IS G hf hx hy];exact JB (inr x hx) (inr y hy)
  ·obtain⟨v2,v3,v4,p,f,rfl,Wx,hp,hf,E1⟩:=hI;rw[bu]at hf;walk_at "rx";exact az (k p f _ Wx hp (λ x y hx hy=>(hf x y hx hy).trans (OP G hx hy)) E1)
end
def xR:gs:=λ ds M Q=>∃(m h x y:Nat) (r:List Row) (ls:Row) (q:Cs),ds=[eu r ls,.int x,.int y,fV q]/\dC m h r/\x < m/\y < m/\q.length=h/\(∀c∈q,c<=1000)/\Q (.bl (!decide (gP ls (dj (a_ r) 0 x q)=gP ls (dj (a_ r) 0 y q)))) M
def KH:gs:=λ ds M Q=>∃(m h x y:Nat) (r:List Row) (ls:Row) (p:Cs),ds=[eu r ls,.int x,.int y]/\dC m h r/\m<=19/\h<=6/\x < m/\y < m/\LP h r ls x y p/\∀M',Ext M M'->Q (fV p) M'
section
variable {P:Program}{w:World}{K:J8}{mg:Str->Option Value}{base:Heap}
theorem qY:aM ["_law_table_here","_law_x","_law_y","_law_counts"] ["_law_table_here","_law_x","_law_y","_law_counts"] (aq (top 24)):=⟨rfl,rfl,rfl,by decide+kernel,rfl,by decide+kernel,by decide+kernel⟩
theorem DW{f:Addr}{fd:FuncData}(F:jk K "_law_parts" "_law_parts" (top 24) f fd)(T:lP K mg)(om:cX P w K mg base 1 "_law_from" ["_law_table_here","_law_x","_law_counts"] Cr):cw P w K mg base fA 2 f fd ["_law_table_here","_law_x","_law_y","_law_counts"] (cV K xR):=by
 refine oU F qY (λ ds M Q h=>?_) (λ dQ A outer s H E ds M Q hr h=>?_)
 ·obtain⟨m,h,x,y,r,ls,q,rfl,_⟩:=h;rfl
 ·obtain⟨m,h,x,y,r,ls,q,rfl,G,hx,hy,hq,hc,k⟩:=h;have uD:eu r ls=.tup [.tup (r.map row),row ls]:=rfl;refine⟨_,(aj (aV (eD (nJ hr.units) (eD (t_ hr.units) (aJ om (hr.mono (by decide)) (by rfl) (aa (ak 0) (aa (ak 1) (aa (ak 3) ab)))) (aL aI (ak 0) ai (λ _ _=>rfl)) rfl) (eD (t_ hr.units) (aJ om (hr.mono (by decide)) (by rfl) (aa (ak 0) (aa (ak 2) (aa (ak 3) ab)))) (aL aI (ak 0) ai (λ _ _=>rfl)) rfl) (aH _)))),?_⟩;walk_at "rx";refine⟨m,h,x,r,ls,q,rfl,G,hx,hq,hc,?_⟩;walk_at "rx";rw[uD];refine bI (d:=row ls) rfl ?_;refine rg ?_;walk_at "rx";refine⟨m,h,y,r,ls,q,rfl,G,hy,hq,hc,?_⟩;walk_at "rx";refine rg ?_;walk_at "rx";exact az k
theorem bW:aM ["_law_table_here","_law_x","_law_y","_law_total","_law_counts"] ["_law_table_here","_law_x","_law_y"] (aq (top 25)):=⟨rfl,rfl,rfl,by decide+kernel,rfl,by decide+kernel,by decide+kernel⟩
theorem NJ{f:Addr}{fd:FuncData}(F:jk K "_law_first_parting" "_law_first_parting" (top 25) f fd)(T:lP K mg)(jd:cX P w K mg base 8 "_law_sums" ["_law_many","_law_total"] (vO 7))(uQ:cX P w K mg base 2 "_law_parts" ["_law_table_here","_law_x","_law_y","_law_counts"] xR):cw P w K mg base fA 9 f fd ["_law_table_here","_law_x","_law_y"] (cV K KH):=by
 refine oU F bW (λ ds M Q h=>?_) (λ dQ A outer s H E ds M Q hr h=>?_)
 ·obtain⟨m,h,x,y,r,ls,p,rfl,_⟩:=h;rfl
 ·obtain⟨m,h,x,y,r,ls,p,rfl,G,hm,hh,hx,hy,L,k⟩:=h;have K7:=L9 G.tb;have K8:=L.cI G hx hy;have uD:eu r ls=.tup [.tup (r.map row),row ls]:=rfl;refine⟨_,(ae (aB (i:=3) bW.nd rfl (Or.inl rfl) ai)
 (aj (dS B0 (gu z_)
 (ae (dF B0 rfl (eh (aJ jd (hr.mono (by decide)) (by rfl) (aa (aD bO (by rfl) T.len (by decide+kernel) (aa (aL aI (aL aI (ak 0) ai (λ _ _=>rfl)) ai (λ _ _=>rfl)) ab)) (aa (ak 3) ab)))) (bD (i:=4) bW.nd rfl (Or.inl rfl))
 (aj (cb (gu (aJ uQ (hr.mono (by decide)) (by rfl) (aa (ak 0) (aa (ak 1) (aa (ak 2) (aa (ak 4) ab))))))
 (aj (aV (ak 4)))
 aZ)))
 (aj (aB (i:=3) bW.nd rfl (Or.inl rfl) (bH bw (ak 3) ai))))))),?_⟩
  rw[uD];walk_at "rx";refine dX ⟨λ m' δ M'=>∃(v4:Option D) (t:Nat),δ=[some (.tup [.tup (r.map row),row ls]),some (.int x),some (.int y),some (.int (t:Int)),v4]/\Ext M M'/\p∉lJ h t 0/\m'=m - t,⟨_,none,0,rfl,Ext.rfl,λ z=>?_,rfl⟩,?_⟩
  ·simp[lJ,sx]at z
  rintro m' δ M1 ⟨v4,t,rfl,E1,hn,rfl⟩;have ht:t<=p.sum:=y0 λ z=>hn (l0 _ (dw.mpr ⟨L.len,z⟩));walk_at "rx";refine⟨λ δ' M'=>∃(v4:Option D),δ'=[some (.tup [.tup (r.map row),row ls]),some (.int x),some (.int y),some (.int ((t+1:Nat):Int)),v4]/\Ext M M'/\p∉lJ h (t+1) 0,?_,?_⟩
  ·rintro δ' M' ⟨v4,rfl,a1,a2⟩;exact⟨_,by omega,v4,t+1,rfl,a1,a2,rfl⟩
  walk_at "rx";refine bI K7.1 ?_;walk_at "rx"
  skip
  rw[B4,K7.2];walk_at "rx";refine⟨h,t,rfl,by omega,by omega,by omega,λ u M2 hu Wt E2=>?_⟩;refine lY Wt ?_;have E2:=E1.trans E2;refine zd (ds:=(bE h t).map fV) (λ i δ M'=>∃(v4:Option D),δ=[some (.tup [.tup (r.map row),row ls]),some (.int x),some (.int y),some (.int (t:Int)),v4]/\M'=M2/\p∉lJ h t i) ⟨v4,rfl,rfl,hn⟩ (λ i δ M' _ hI=>?_) (λ i d δ M' hd hI=>?_) (λ δ M' hI=>?_)
  ·obtain⟨_,_,rfl,_⟩:=hI;exact Wt
  ·obtain⟨v4,rfl,rfl,hn⟩:=hI;rw[s9]at hd;obtain⟨e,he,rfl⟩:=Option.map_eq_some_iff.mp hd;have Vt:=bU.mp (k9 he);walk_at "rx";refine⟨m,h,x,y,r,ls,e,rfl,G,hx,hy,Vt.1,λ c hc=>?_,?_⟩
   ·have:=Er hc;omega
   refine h_ (λ hz=>?_) (λ hz=>?_)
   ·have hz:jF r ls x y e:=by unfold jF;simpa using hz
    have ep:p=e:=by
     rcases Ah.SD (p:=p) (q:=e) (L.len.trans Vt.1.symm)with z|z|z
     ·exact z
     ·exact absurd (Fn he L.len z) hn
     ·exact absurd hz (L.low e Vt.1 z)
    rw[ep]at k;walk_at "rx";exact az (k _ E2)
   ·have hz:¬jF r ls x y e:=by unfold jF;simpa using hz
    refine⟨_,rfl,rfl,λ z=>?_⟩;rw[Bm he]at z;rcases B5.mp z with z|z
    ·exact hn z
    ·rw[p7]at z;rw[<- z]at hz;exact hz L.par
  ·obtain⟨v4,rfl,rfl,hn⟩:=hI;rw[B4,Fo]at hn;walk_at "rx";exact⟨_,rfl,E2,hn⟩
end
def oE(h:Nat)(r:List Row)(ls:Row)(x y:Nat)(d:D):Prop:=(d=.bx/\∀q:Cs,q.length=h->¬jF r ls x y q)\/∃p,d=fV p/\LP h r ls x y p
theorem uI{M:Mem}{h:Nat}{r:List Row}{ls:Row}{x y:Nat}{d d':D}(hh:h<=6)(a:oE h r ls x y d)(b:oE h r ls x y d'):Gk M 5 d d':=by
 rcases a with⟨rfl,n⟩|⟨p,rfl,L⟩
 ·rcases b with⟨rfl,n'⟩|⟨p',rfl,L'⟩
  ·exact .inl ⟨rfl,True.intro⟩
  ·exact absurd L'.par (n p' L'.len)
 ·rcases b with⟨rfl,n'⟩|⟨p',rfl,L'⟩
  ·exact absurd L.par (n' p L.len)
  ·rw[L.uniq L',Kg];exact CB _ _ (by rw[B4,L'.len];omega)
theorem oE.symm {h:Nat}{r:List Row}{ls:Row}{x y:Nat}{d:D}(a:oE h r ls x y d):oE h r ls y x d:=by
 rcases a with⟨e,n⟩|⟨p,e,L⟩
 ·exact .inl ⟨e,λ q hq pq=>n q hq (nH.mp pq)⟩
 ·exact .inr ⟨p,e,L.symm⟩
theorem tY{M:Mem}{Q:bK}{m h x y:Nat}{r:List Row}{ls:Row}(hT:GF M)(G:dC m h r)(hx:x < m)(hy:y < m)(k:∀d M',oE h r ls x y d->Ext M M'->Q d M'):vP [eu r ls,.int x,.int y] M Q:=
 ⟨m,h,x,y,r,ls,rfl,hT,G,hx,hy,λ p M' L E=>k _ _ (.inr ⟨p,rfl,L⟩) E,λ no M' E=>k _ _ (.inl ⟨rfl,no⟩) E⟩
section
variable {P:Program}{w:World}{K:J8}{mg:Str->Option Value}{base:Heap}
theorem fQ:aM ["_law_script","_law_flow_here","_law_table_here","_law_classes_here","_law_k","_law_x","_law_y","_law_due"] ["_law_script"] (aq (top 26)):=⟨rfl,rfl,rfl,by decide+kernel,rfl,by decide+kernel,by decide+kernel⟩
theorem NI{f:Addr}{fd:FuncData}(F:jk K "law" "law" (top 26) f fd)(T:lP K mg)(xa:cX P w K mg base 1 "_law_flow" ["_law_script"] xS)(uP:cX P w K mg base 4 "_law_table" ["_law_flow_here"] (xP 19 6))(pv:cX P w K mg base 1 "_law_classes" ["_law_table_here"] Cu)(ay:cX P w K mg base 1 "_law_pick" ["_law_flow_here","_law_many"] iR)(iH:cX P w K mg base 9 "_law_first_parting" ["_law_table_here","_law_x","_law_y"] KH)(fb:cX P w K mg base 6 "_law_alike" ["_law_found","_law_due"] (Cy 5))(qA:cX P w K mg base 9 "parting" ["table","x","y"] vP):cw P w K mg base fA 10 f fd ["_law_script"] (cV K tw):=by
 refine oU F fQ (λ ds M Q h=>?_) (λ dQ A outer s H E ds M Q hr h=>?_)
 ·obtain⟨ns,rfl,_⟩:=h;rfl
 ·obtain⟨ns,rfl,hT,k⟩:=h;refine⟨_,(ae (aB (i:=1) fQ.nd rfl (Or.inl rfl) (aJ xa (hr.mono (by decide)) (by rfl) (aa (ak 0) ab)))
 (ae (aB (i:=2) fQ.nd rfl (Or.inl rfl) (aJ uP (hr.mono (by decide)) (by rfl) (aa (ak 1) ab)))
 (ae (aB (i:=3) fQ.nd rfl (Or.inl rfl) (aJ pv (hr.mono (by decide)) (by rfl) (aa (ak 2) ab)))
 (ae (dF B0 rfl (bo rfl T.range (aa (bH bw ai (aJ ay (hr.mono (by decide)) (by rfl) (aa (ak 1) (aa ai ab)))) ab)) (bD (i:=4) fQ.nd rfl (Or.inl rfl))
 (ae (aB (i:=5) fQ.nd rfl (Or.inl rfl) (aJ ay (hr.mono (by decide)) (by rfl) (aa (ak 1) (aa (aD bO (by rfl) T.len (by decide+kernel) (aa (aL aI (ak 2) ai (λ _ _=>rfl)) ab)) ab))))
 (ae (aB (i:=6) fQ.nd rfl (Or.inl rfl) (aJ ay (hr.mono (by decide)) (by rfl) (aa (ak 1) (aa (aD bO (by rfl) T.len (by decide+kernel) (aa (aL aI (ak 2) ai (λ _ _=>rfl)) ab)) ab))))
 (ae (aB (i:=7) fQ.nd rfl (Or.inl rfl) sX)
 (ae (cb (aK (nJ hr.units) (aL aI (ak 3) (ak 5) (λ _ _=>rfl)) (aL aI (ak 3) (ak 6) (λ _ _=>rfl)) (aH _))
 (aj (aB (i:=7) fQ.nd rfl (Or.inl rfl) (aJ iH (hr.mono (by decide)) (by rfl) (aa (ak 2) (aa (ak 5) (aa (ak 6) ab))))))
 aZ)
 (aj (cb (xC (BV (gu (aJ fb (hr.mono (by decide)) (by rfl) (aa (aJ qA (hr.mono (by decide)) (by rfl) (aa (ak 2) (aa (ak 5) (aa (ak 6) ab)))) (aa (ak 7) ab))))) (qL (BV (gu (aJ fb (hr.mono (by decide)) (by rfl) (aa (aJ qA (hr.mono (by decide)) (by rfl) (aa (ak 2) (aa (ak 6) (aa (ak 5) ab)))) (aa (ak 7) ab))))))).pt
 (aj (aV z_))
 aZ)))))))
 (aj (aV z_)))))),?_⟩
  walk_at "rx";refine⟨ns,rfl,λ f cc M1 hF E1=>?_⟩;have hT:GF M1:=E1 _ _ hT;walk_at "rx";refine⟨f,cc,rfl,hF,λ m h r ls M2 G hm hh L F2=>?_⟩;have hT:GF M2:=rC F2 hT hF;have BL:=G.tb.len;have X5:=G.tb.pos;walk_at "rx";refine⟨m,h,r,ls,rfl,G,by omega,λ p g M3 hp eT hg E3=>?_⟩;have F3:=i_ E3 F2.bp;have U':p≠f:=(F2.bp.ne hp).1;have hT:GF M3:=E3 _ _ hT;have uD:eu r ls=.tup [.tup (r.map row),row ls]:=rfl;have gx:∀x,x < m->gr ((List.range m).map λ x=>nD (g x)) (x:Int)=some (nD (g x)):=λ x hx=>bG (by rw[s9,l8 hx];rfl);rw[uD];walk_at "rx";refine⟨f,cc,4,rfl,F3.bp,by decide,by decide,λ d1 o1 OC Pp yW=>?_⟩;have G1:Fl f cc M3 _:=Fl.pick yW;have RA:=G1.mv _ _ U' eT;have hT:GF (ah M3 f o1):=rC G1 hT F3.bp;have F4:=G1.bp;generalize ah M3 f o1=M4 at*;clear G1 eT F3 yW;walk_at "rx";refine⟨cG (by omega) (by omega),?_⟩;refine fU (λ i δ M'=>∃v4 v5 v6 v7:Option D,δ=[some (.fl (ns.map D.int)),some (.ref f),some (.tup [.tup (r.map row),row ls]),some (.ref p),v4,v5,v6,v7]/\Flow M' f cc/\M' p=some (.lst ((List.range m).map λ x=>nD (g x)))/\GF M') ⟨_,_,_,_,rfl,F4,RA,hT⟩ (λ i d δ M5 hd hI=>?_) (λ δ M' hI=>?_)
  ·clear hT F4 RA;obtain⟨v4,v5,v6,v7,rfl,F5,Pf,hT⟩:=hI;walk_at "rx";rw[B4,BL];refine⟨f,cc,m,rfl,F5,by omega,by omega,λ d2 o2 Tq Tp GC=>?_⟩;have G2:Fl f cc M5 _:=Fl.pick GC;have Wy:=G2.mv _ _ U' Pf;have hT:GF (ah M5 f o2):=rC G2 hT F5;have F6:=G2.bp;generalize ah M5 f o2=M6 at*;clear G2 Pf F5 GC;obtain⟨x,rfl⟩:∃n:Nat,d2=(n:Int):=⟨d2.toNat,by omega⟩;have hx:x < m:=by omega
   walk_at "rx";rw[B4,BL];refine⟨f,cc,m,rfl,F6,by omega,by omega,λ d3 o3 Xb Xa Po=>?_⟩;have G3:Fl f cc M6 _:=Fl.pick Po;have Va:=G3.mv _ _ U' Wy;have hT:GF (ah M6 f o3):=rC G3 hT F6;have F7:=G3.bp;generalize ah M6 f o3=M7 at*;clear G3 Wy F6 Po;obtain⟨y,rfl⟩:∃n:Nat,d3=(n:Int):=⟨d3.toNat,by omega⟩;have hy:y < m:=by omega
   refine dq ?_
   with_reducible refine C_ ?_
   with_reducible refine Dr ?_
   with_reducible refine Ms ?_
   refine dq ?_
   with_reducible refine gG (λ δ' M'=>∃dv:D,δ'=[some (.fl (ns.map D.int)),some (.ref f),some (.tup [.tup (r.map row),row ls]),some (.ref p),some d,some (.int (x:Int)),some (.int (y:Int)),some dv]/\Ext M7 M'/\oE h r ls x y dv) (λ N hN=>?_) ?_
   ·walk_at "rx";refine cF Va (gx x hx) ?_;walk_at "rx";refine cF Va (gx y hy) ?_;walk_at "rx";refine h_ (λ hz=>?_) (λ hz=>?_)
    ·have hz:¬g x=g y:=by
      have:¬(g x:Int)=(g y:Int):=by simpa using hz
      omega
     rcases LP.ex h r ls x y with⟨q,Lq⟩|no
     ·walk_at "rx";refine⟨m,h,x,y,r,ls,q,rfl,G,hm,hh,hx,hy,Lq,λ M8 E8=>?_⟩;exact hN _ _ ⟨_,rfl,E8,.inr ⟨q,rfl,Lq⟩⟩
     ·exact absurd ((hg x y hx hy).mpr no) hz
    ·have hz:g x=g y:=by
      have:(g x:Int)=(g y:Int):=by simpa using hz
      omega
     exact hN _ _ ⟨_,rfl,Ext.rfl,.inl ⟨rfl,(hg x y hx hy).mp hz⟩⟩
   rintro δ' M8 ⟨dv,rfl,E8,Du⟩;have WY:=E8 _ _ hT;walk_at "rx";refine tY WY G hx hy λ d9 M9 D9 E9=>?_;walk_at "rx";refine⟨_,_,rfl,uI hh D9 Du,?_⟩;walk_at "rx";refine tY (E9 _ _ WY) G hy hx λ Xm M10 Z_ Sl=>?_;walk_at "rx";refine⟨_,_,rfl,uI hh Z_.symm Du,?_⟩;walk_at "rx";have Sl:=E8.trans (E9.trans Sl);exact⟨_,_,_,_,rfl,(i_ Sl F7).bp,Sl _ _ Va,Sl _ _ hT⟩
  ·obtain⟨v4,v5,v6,v7,rfl,F5,Pf,hT⟩:=hI;walk_at "rx";exact az (k _)
end
theorem EJ(K:J8):gi K "bool":=⟨by kernel_rfl,by kernel_rfl,by kernel_rfl,by kernel_rfl,by kernel_rfl,by kernel_rfl⟩
theorem JF(K:J8):gi K "int":=⟨by kernel_rfl,by kernel_rfl,by kernel_rfl,by kernel_rfl,by kernel_rfl,by kernel_rfl⟩
theorem EI(K:J8):gi K "list":=⟨by kernel_rfl,by kernel_rfl,by kernel_rfl,by kernel_rfl,by kernel_rfl,by kernel_rfl⟩
theorem JE(K:J8):gi K "str":=⟨by kernel_rfl,by kernel_rfl,by kernel_rfl,by kernel_rfl,by kernel_rfl,by kernel_rfl⟩
theorem Bc(K:J8):gi K "tuple":=⟨by kernel_rfl,by kernel_rfl,by kernel_rfl,by kernel_rfl,by kernel_rfl,by kernel_rfl⟩
theorem NW{K:J8}{H:Hp}{a:Addr}{ns:List Int}(hO:zK H [31])(hS:eW K H a (ns.map V.int)):cV K tw [.ref a] H (λ v _=>v=.bl true) λ _ _ _=>False:=by
 have vA:GI K H a (ns.map V.int):=by
  rcases hS with(h|⟨o,h⟩)|h
  ·rcases hO.1 a with z|⟨o,xs,z⟩|z
   ·rw[z]at h;cases h
   ·rw[z]at h;cases h
   ·rw[z]at h;cases h
  ·exact .inl ⟨o,h⟩
  ·exact .inr h
 refine⟨[.fl (ns.map D.int)],λ b=>if b=31 then some (.fm (.lT "first_things.<locals>.<lambda>"))else none,λ d _=>d=.bl true,aA.one (jc.mpr ⟨a,_,rfl,vA,iB ns⟩),λ a o e=>?_,⟨ns,rfl,J6 rfl,λ _=>rfl⟩,λ v H' d M' hd hm t e=>?_⟩
 ·by_cases z0:a=31
  ·subst z0;have e:=(J6 rfl).symm.trans e;cases e;exact⟨[],hO.2 _ (by simp),λ p hp=>nomatch hp⟩
  ·have e:=(J7 z0).symm.trans e;cases e
 ·subst e;exact aY.mp hd
structure TopC(K:J8)(mg:Str->Option Value)(x:Str)(i:Nat)(dV:Value)(c f:Addr)(d:FuncData):Prop where
 m:mg x=some (.ref f)
 F:kb K x x (top i) dV c f d
theorem Js{A:Type}{P:List A->Prop}{n:Nat}(h:∀a t,t.length=n->P (a::t)):∀us:List A,us.length=n+1->P us
 |[],e=>nomatch e
 |a::t,e=>h a t (Nat.succ.inj e)
theorem AV{A:Type}{P:List A->Prop}(h:∀a,P [a]):∀us:List A,us.length=1->P us:=Js λ a t e=>by rw[a7 e];exact h a
theorem nO{A:Type}{P:List A->Prop}(h:∀a b,P [a,b]):∀us:List A,us.length=2->P us:=Js λ a=>AV (P:=λ t=>P (a::t)) (h a)
theorem wA{A:Type}{P:List A->Prop}(h:∀a b c,P [a,b,c]):∀us:List A,us.length=3->P us:=Js λ a=>nO (P:=λ t=>P (a::t)) (h a)
theorem Rj{A:Type}{P:List A->Prop}(h:∀a b c d,P [a,b,c,d]):∀us:List A,us.length=4->P us:=Js λ a=>wA (P:=λ t=>P (a::t)) (h a)
structure eU(K:J8)(mg:Str->Option Value)(x:Str)(i:Nat)(f:Addr)(d:FuncData):Prop where
 m:mg x=some (.ref f)
 F:jk K x x (top i) f d
theorem all_mk{l:PySem.W.OpenLaw}{w:World}{K:J8}{mg:Str->Option Value}{f0 f1 f2 f3 f4 f5 f6 f7 f8 f9 Zv Zu Zt Zs Zr Zq Zp Zo Zm Zl Zk Zj Xd:Addr}{d0 d1 d2 d3 d4 d5 d6 d7 d8 d9 Xm ZK ZJ ZI ZH ZG ZF ZE ZD ZC ZA Zz:FuncData}{kV dc pm cd ct:Value}{an:Option Addr}
  (T:lP K mg)
  (t0:eU K mg "one_more" 1 f0 d0)
  (t1:TopC K mg "first_sums" 2 (.ref 22) 28 f1 d1)
  (e1:K.lookup 22=some {cls:=.type "tuple",data:=.seq #[.none] 0})
  (t2:TopC K mg "first_things" 3 .none 35 f2 d2)
  (t3:eU K mg "carried" 5 f3 d3)
  (t4:eU K mg "put_to" 6 f4 d4)
  (t5:eU K mg "parting" 8 f5 d5)
  (t6:eU K mg "_law_flow" 10 f6 d6)
  (t7:eU K mg "_law_pick" 11 f7 d7)
  (t8:eU K mg "_law_shuffled" 12 f8 d8)
  (t9:eU K mg "_law_alike" 13 f9 d9)
  (SS:eU K mg "_law_nim_table" 14 Zv Xm)
  (SR:eU K mg "_law_blown" 15 Zu ZK)
  (SQ:eU K mg "_law_renumbered" 16 Zt ZJ)
  (SO:eU K mg "_law_counted" 17 Zs ZI)
  (SN:eU K mg "_law_any_table" 18 Zr ZH)
  (SM:eU K mg "_law_long_table" 19 Zq ZG)
  (SK:eU K mg "_law_table" 20 Zp ZF)
  (P0:eU K mg "_law_sums" 21 Zo ZE)
  (SJ:eU K mg "_law_from" 22 Zm ZD)
  (SI:eU K mg "_law_classes" 23 Zl ZC)
  (SH:eU K mg "_law_parts" 24 Zk ZA)
  (SG:eU K mg "_law_first_parting" 25 Zj Zz)
  (XI:eU K mg "law" 26 Xd (PySem.W.fnOf "law" "law" (bX (top 26)) (bA (top 26)) (aq (top 26)) .none kV dc pm an cd ct)):
  ∃fd:FuncData,(∀(s:Shared) (v:Value),BindsTo s fd ⟨[v],[]⟩ [("_law_script",v)])/\∀base:Heap,K.In base->(∀q∈([(35,31)]:List (Addr×Addr)),Ku mg base q.1 q.2)->cw l.prog w K mg base fA 10 Xd fd ["_law_script"] (cV K tw):=by
 refine⟨PySem.W.fnOf "law" "law" (bX (top 26)) (bA (top 26)) (aq (top 26)) .none kV dc pm an cd ct,λ s v=>.of_eq rfl,λ base _ Vz=>?_⟩;have b0:=t0.F.binds (ps:=["counts","heap"]) λ _ _ _ _ _ _=>nO λ _ _=>rfl;have b1:=t1.F.Gd (ps:=["heaps","start","gone","most"]) λ _ _ _ _ _ s hk=>Rj λ _ _ _ _=>Gb hk rfl e1 rfl rfl rfl;have c1:=t1.F.OT (ps:=["heaps","start","gone","most"]) (n:=3) rfl λ _ _ _ _ _ s hk=>wA λ _ _ _=>Gb hk rfl e1 rfl rfl rfl;have b2:=t2.F.Gd (ps:=["steps"]) λ _ _ _ _ _ s hk=>AV λ _=>.of_eq rfl;have b3:=t3.F.binds (ps:=["steps","others","start"]) λ _ _ _ _ _ _=>wA λ _ _ _=>rfl;have b4:=t4.F.binds (ps:=["steps","x"]) λ _ _ _ _ _ _=>nO λ _ _=>rfl;have b5:=t5.F.binds (ps:=["table","x","y"]) λ _ _ _ _ _ _=>wA λ _ _ _=>rfl;have b6:=t6.F.binds (ps:=["_law_script"]) λ _ _ _ _ _ _=>AV λ _=>rfl;have b7:=t7.F.binds (ps:=["_law_flow_here","_law_many"]) λ _ _ _ _ _ _=>nO λ _ _=>rfl;have b8:=t8.F.binds (ps:=["_law_flow_here","_law_things"]) λ _ _ _ _ _ _=>nO λ _ _=>rfl;have b9:=t9.F.binds (ps:=["_law_found","_law_due"]) λ _ _ _ _ _ _=>nO λ _ _=>rfl;have Z1:=SS.F.binds (ps:=["_law_sizes","_law_last"]) λ _ _ _ _ _ _=>nO λ _ _=>rfl;have Z0:=SR.F.binds (ps:=["_law_flow_here","_law_table_here"]) λ _ _ _ _ _ _=>nO λ _ _=>rfl;have ZZ:=SQ.F.binds (ps:=["_law_flow_here","_law_table_here"]) λ _ _ _ _ _ _=>nO λ _ _=>rfl;have ZY:=SO.F.binds (ps:=["_law_value","_law_low","_law_wide"]) λ _ _ _ _ _ _=>wA λ _ _ _=>rfl;have ZX:=SN.F.binds (ps:=["_law_flow_here","_law_many"]) λ _ _ _ _ _ _=>nO λ _ _=>rfl;have ZW:=SM.F.binds (ps:=["_law_flow_here"]) λ _ _ _ _ _ _=>AV λ _=>rfl;have ZV:=SK.F.binds (ps:=["_law_flow_here"]) λ _ _ _ _ _ _=>AV λ _=>rfl;have Xp:=P0.F.binds (ps:=["_law_many","_law_total"]) λ _ _ _ _ _ _=>nO λ _ _=>rfl;have ZU:=SJ.F.binds (ps:=["_law_table_here","_law_x","_law_counts"]) λ _ _ _ _ _ _=>wA λ _ _ _=>rfl;have ZT:=SI.F.binds (ps:=["_law_table_here"]) λ _ _ _ _ _ _=>AV λ _=>rfl;have ZS:=SH.F.binds (ps:=["_law_table_here","_law_x","_law_y","_law_counts"]) λ _ _ _ _ _ _=>Rj λ _ _ _ _=>rfl;have ZR:=SG.F.binds (ps:=["_law_table_here","_law_x","_law_y"]) λ _ _ _ _ _ _=>wA λ _ _ _=>rfl;have eJ:=bT.of t7.F (Ja t7.F T (P:=l.prog) (w:=w) (base:=base)) t7.m b7;have zU:=bT.of t6.F (Jg t6.F T (P:=l.prog) (w:=w) (base:=base)) t6.m b6;have BS:=bT.of t9.F (NM t9.F T t9.m b9 (P:=l.prog) (w:=w) (base:=base) 5) t9.m b9;have sU:=bT.of SO.F (NL SO.F T (P:=l.prog) (w:=w) (base:=base)) SO.m ZY;have zS:=bT.of SM.F (Je SM.F T eJ sU (P:=l.prog) (w:=w) (base:=base)) SM.m ZW;have zX:=bT.of SN.F (Jj SN.F T eJ sU (P:=l.prog) (w:=w) (base:=base)) SN.m ZX;have zQ:=bT.of SS.F (Jc SS.F T (P:=l.prog) (w:=w) (base:=base)) SS.m Z1;have vJ:=bT.of SR.F (DY SR.F T eJ (P:=l.prog) (w:=w) (base:=base)) SR.m Z0;have zO:=bT.of t8.F (I_ t8.F T eJ (P:=l.prog) (w:=w) (base:=base)) t8.m b8;have BQ:=bT.of SQ.F (NH SQ.F T zO (P:=l.prog) (w:=w) (base:=base)) SQ.m ZZ;have vF:=bT.of SK.F (DT SK.F T eJ zS zX zQ vJ BQ (P:=l.prog) (w:=w) (base:=base)) SK.m ZV;have zN:=bT.of P0.F (DU P0.F T P0.m Xp (P:=l.prog) (w:=w) (base:=base) 7) P0.m Xp;have zT:=bT.of SJ.F (Jf SJ.F T (P:=l.prog) (w:=w) (base:=base)) SJ.m ZU;have zR:=bT.of t0.F (Jd t0.F T (P:=l.prog) (w:=w) (base:=base)) t0.m b0;have vI:=bT.Wg t1.F (DX t1.F T zR (P:=l.prog) (w:=w) (base:=base)) t1.m b1;have zW:=bT.of t3.F (Ji t3.F T (P:=l.prog) (w:=w) (base:=base)) t3.m b3;have vG:=bT.of t4.F (DV t4.F T zW (P:=l.prog) (w:=w) (base:=base)) t4.m b4;have sT:=bT.Wg t2.F (AL t2.F T (Vz (35,31) (by simp)) vI (P:=l.prog) (w:=w) (base:=base)) t2.m b2;have zP:=bT.of t5.F (Jb t5.F T sT vG (P:=l.prog) (w:=w) (base:=base)) t5.m b5;have zV:=bT.of SI.F (Jh SI.F T (P:=l.prog) (w:=w) (base:=base)) SI.m ZT;have vH:=bT.of SH.F (DW SH.F T zT (P:=l.prog) (w:=w) (base:=base)) SH.m ZS;have BR:=bT.of SG.F (NJ SG.F T zN vH (P:=l.prog) (w:=w) (base:=base)) SG.m ZR;exact NI XI.F T zU vF zV eJ BR BS zP
theorem walk{l:PySem.W.OpenLaw}{q:Program}{loose:List Str}{XP:(Str->Option Value)->Heap->Prop}{YP:World->Heap->Prop}{d:DefRec}{K:Params->J8}(hn:l.most=some 63)(RK:d.params.defaults=[])
  (hY:∀(w:World) (h:Heap),YP w h->(K w.params).In h/\∀q∈([(35,31)]:List (Addr×Addr)),h.get? q.2=some (PySem.W.tabObj #[])/\(K w.params).lookup q.2=none/\PySem.W.CodeHd h q.1 q.2)
  (F:∀(w:World) (mg:Str->Option Value) (fa:Addr) (h:Heap),(K w.params).In h->h.Ns mainGlobals mg->mg d.name=some (.ref fa)->
   ∃fd:FuncData,(∀(s:Shared) (u:Value),BindsTo s fd ⟨[u],[]⟩ [("_law_script",u)])/\∀base:Heap,(K w.params).In base->(∀q∈([(35,31)]:List (Addr×Addr)),Ku mg base q.1 q.2)->cw l.prog w (K w.params) mg base fA 10 fa fd ["_law_script"] (cV (K w.params) tw)):
  PySem.W.WalkO q loose XP YP l.row.toRowW d [] (λ f vs=>PySem.call f vs):=
 L2.BY (n:=63) (k:=10) (x:="_law_script") (CX:=λ _=>fA) (sp:=λ w=>cV (K w.params) tw) hn (by decide) RK ⟨rfl,by decide,by decide⟩ hY F (λ _ _ a ns hl hO hS=>NW hO hS) λ _ _ _ _ _ z=>z
end KK
open PySem PySem.W PyProof.Rows
def PySem.W.Fast.tw14523391587686699020:Program:=PySem.Challenge.pw_lastloser_k30_sums_that_part
theorem PySem.W.Fast.te14523391587686699020 : PySem.Challenge.pw_lastloser_k30_sums_that_part = PySem.W.Fast.tw14523391587686699020 := rfl
def PySem.W.Fast.tw15680181125469238629:Nat:=0
def PySem.W.Fast.tw7855530179811356968:Nat:=0
def PySem.W.Fast.tw15883096306895787946:Nat:=0
def PySem.W.Fast.tw17389258389358423757:Nat:=0
def PySem.W.Fast.tw340943301801174815:Nat:=0
namespace KK
open L2
noncomputable def kE (P:Params)(x:Str)(t:Nat)(v:Value):DictEntry:={hash:=PyData.keyHash P x,key:=.str x t,val:=v}
noncomputable def kO (x:Str)(t l n r s u:Nat)(v w:Value):Obj:={cls:=.type "code",data:=.fields #[.str x t,.str x (t+1),.str "/claim/cut.py" (t+2),.int l 0,.int n 0,.int 0 0,.int 0 0,.int 3 0,.ref r,.bool true,.int 181 0,.ref (r+1),.none,v,w,.ref s,.int u 0,.int l 0,.str "/claim/cut.py" (u+1)]}
noncomputable def kF (x:Str)(i:Nat)(m:Str×Nat)(c:Nat)(d:Value:=.none):Obj:={cls:=.type "function",data:=.func (PySem.W.fnOf x x (bX (top i)) (bA (top i)) (aq (top i)) d .none .none (.str m.1 m.2) none (.ref c) .none)}
noncomputable def kP (x:Str)(a i:Nat)(m:Str×Nat)(t l n u q:Nat)(d:Value:=.none):List (Nat×Obj):=[(a,if q=0 then kO x t l n (a - 3) (a - 1) u .none .none else kO x t l n (a - 5) (a - 1) u (.ref (a - 3)) (.ref (a - 2))),(a+1,kF x i m a d)]
noncomputable def m0:Str×Nat:=("lastloser.parting",245)
noncomputable def m1:Str×Nat:=("lastloser.seeking",187)
noncomputable def m2:Str×Nat:=("lastloser.things",221)
noncomputable def m3:Str×Nat:=("law_lastloser_k30_sums_that_part",261)
noncomputable def kD (P:Params):Obj:={cls:=.type "dict",data:=.dict #[kE P "__name__" 165 (.str "law_lastloser_k30_sums_that_part" 261),kE P "__doc__" 166 .none,kE P "__package__" 167 .none,kE P "__loader__" 168 (.builtin "__main__.__loader__#opaque"),kE P "__spec__" 169 .none,kE P "__annotations__" 170 (.ref 6),kE P "__builtins__" 171 (.ref 4),kE P "__file__" 173 (.str "/claim/cut.py" 172),kE P "__cached__" 174 .none,kE P "one_more" 196 (.ref 21),kE P "first_sums" 212 (.ref 29),kE P "first_things" 220 (.ref 36),kE P "carried" 236 (.ref 43),kE P "put_to" 244 (.ref 50),kE P "parting" 260 (.ref 57),kE P "_law_flow" 269 (.ref 64),kE P "_law_pick" 279 (.ref 71),kE P "_law_shuffled" 289 (.ref 78),kE P "_law_alike" 295 (.ref 83),kE P "_law_nim_table" 301 (.ref 88),kE P "_law_blown" 307 (.ref 93),kE P "_law_renumbered" 313 (.ref 98),kE P "_law_counted" 322 (.ref 105),kE P "_law_any_table" 328 (.ref 110),kE P "_law_long_table" 334 (.ref 115),kE P "_law_table" 340 (.ref 120),kE P "_law_sums" 346 (.ref 125),kE P "_law_from" 358 (.ref 132),kE P "_law_classes" 364 (.ref 137),kE P "_law_parts" 374 (.ref 144),kE P "_law_first_parting" 385 (.ref 151),kE P "law" 399 (.ref 158)] 32}
noncomputable def kT (vs:List Value)(n:Nat):Obj:={cls:=.type "tuple",data:=.seq vs.toArray n}
noncomputable def kK (P:Params):J8:=(3,kD P)::[(22,kT [.none] 0)]++[kP "one_more" 20 1 m1 189 2 2 194 1,kP "first_sums" 28 2 m1 197 4 4 210 1 (.ref 22),kP "first_things" 35 3 m1 213 17 1 218 1,kP "carried" 42 5 m2 223 20 3 234 1,kP "put_to" 49 6 m2 237 30 2 242 1,kP "parting" 56 8 m0 247 33 3 258 1,kP "_law_flow" 63 10 m3 263 42 1 267 1,kP "_law_pick" 70 11 m3 270 44 2 277 1,kP "_law_shuffled" 77 12 m3 280 59 2 287 1,kP "_law_alike" 82 13 m3 290 65 2 293 0,kP "_law_nim_table" 87 14 m3 296 77 2 299 0,kP "_law_blown" 92 15 m3 302 91 2 305 0,kP "_law_renumbered" 97 16 m3 308 107 2 311 0,kP "_law_counted" 104 17 m3 314 111 3 320 1,kP "_law_any_table" 109 18 m3 323 115 2 326 0,kP "_law_long_table" 114 19 m3 329 132 1 332 0,kP "_law_table" 119 20 m3 335 147 1 338 0,kP "_law_sums" 124 21 m3 341 162 2 344 0,kP "_law_from" 131 22 m3 347 171 3 356 1,kP "_law_classes" 136 23 m3 359 176 1 362 0,kP "_law_parts" 143 24 m3 365 183 4 372 1,kP "_law_first_parting" 150 25 m3 375 185 3 383 1,kP "law" 157 26 m3 386 192 1 397 1].flatten
noncomputable def kA:List Addr:=[3,22,20,21,28,29,35,36,42,43,49,50,56,57,63,64,70,71,77,78,82,83,87,88,92,93,97,98,104,105,109,110,114,115,119,120,124,125,131,132,136,137,143,144,150,151,157,158]
theorem tF{K:J8}{h:Heap}{mg:Str->Option Value}{x:Str}{i:Nat}(X:K.In h)(G:h.Ns mainGlobals mg)(m:Str×Nat)(c:Nat)(a:PySem.W.nsIn K mainGlobals x=some (some (.ref (c+1))):=by kernel_rfl)(l:K.lookup (c+1)=some (kF x i m c):=by kernel_rfl)(e:PySem.W.codeIn K (.ref c) x=true:=by kernel_rfl):eU K mg x i (c+1) (PySem.W.fnOf x x (bX (top i)) (bA (top i)) (aq (top i)) .none .none .none (.str m.1 m.2) none (.ref c) .none):=
 ⟨PySem.W.mg_of X G a,OD (st:=top i) l e (by unfold PySem.W.keepIn;dsimp only;rw[l];rfl)⟩
theorem kn{K:J8}{h:Heap}{mg:Str->Option Value}{x:Str}(X:K.In h)(G:h.Ns mainGlobals mg)(e:PySem.W.nsIn K mainGlobals x=some none:=by kernel_rfl):mg x=none:=PySem.W.mg_none_of X G e
theorem tC{K:J8}{h:Heap}{mg:Str->Option Value}{x:Str}{i:Nat}{d:Value}(X:K.In h)(G:h.Ns mainGlobals mg)(m:Str×Nat)(c:Nat)(a:PySem.W.nsIn K mainGlobals x=some (some (.ref (c+1))):=by kernel_rfl)(l:K.lookup (c+1)=some (kF x i m c d):=by kernel_rfl)(e:PySem.W.codeIn K (.ref c) x=true:=by kernel_rfl):TopC K mg x i d c (c+1) (PySem.W.fnOf x x (bX (top i)) (bA (top i)) (aq (top i)) d .none .none (.str m.1 m.2) none (.ref c) .none):=
 ⟨PySem.W.mg_of X G a,JR (st:=top i) l e (by unfold PySem.W.keepIn;dsimp only;rw[l];rfl)⟩
noncomputable def US (P:Params):J8:=[(31,PySem.W.tabObj #[])]++kK P
noncomputable def X9:List Addr:=[31]++kA
theorem cH{K:J8}{h:Heap}(X:K.In h)(c P:Addr)(o:Obj)(vs:Array Value)(file:Str)(tf:Nat)(flags:Int)(tg:Nat)(S':Bool)(text:Int)(tt:Nat)(l:K.lookup c=some o)(e1:o.cls=.type "code")(e2:o.data=.fields vs)(e3:vs[11]?=some (.ref P))(e4:vs.getD 11 .none=.ref P)(e5:vs.getD 18 .none=.str file tf)(e6:vs.getD 7 .none=.int flags tg)(e7:vs.getD 9 .none=.bool S')(e8:vs.getD 10 .none=.int text tt)(e9:c≠P):PySem.W.CodeHd h c P:=⟨o,vs,file,tf,flags,tg,S',text,tt,X _ _ l,e1,e2,e3,e4,e5,e6,e7,e8,e9⟩
theorem k0{P:Params}{h:Heap}(X:(US P).In h):(kK P).In h/\∀q∈([(35,31)]:List (Addr×Addr)),h.get? q.2=some (PySem.W.tabObj #[])/\(kK P).lookup q.2=none/\PySem.W.CodeHd h q.1 q.2:=by
 have n0:(kK P).lookup 31=none:=by kernel_rfl
 have Y:(kK P).In h:=λ b o e=>by
  refine X b o ?_;unfold US;by_cases z0:b=31
  ·rw[z0,n0]at e;cases e
  simp only[A1,A5,x9,beq_false_of_ne z0];exact e
 refine⟨Y,λ q hq=>?_⟩;simp only[D1,not_mem_nil,or_false]at hq;rcases hq with rfl
 ·exact⟨X _ _ (by kernel_rfl),n0,cH Y 35 31 (kO "first_things" 213 17 1 30 34 218 (.ref 32) (.ref 33)) _ _ _ _ _ _ _ _ (by kernel_rfl) rfl rfl rfl rfl rfl rfl rfl rfl (by decide)⟩
def pg:Program:={PySem.Challenge.pw_lastloser_k30_sums_that_part with main:={PySem.Challenge.pw_lastloser_k30_sums_that_part.main with body:=[top 0,top 1,top 2,top 3,top 4,top 5,top 6,top 7,top 8,top 9,top 10,top 11,top 12,top 13,top 14,top 15,top 16,top 17,top 18,top 19,top 20,top 21,top 22,top 23,top 24,top 25,top 26]}}
def lw:PySem.W.OpenLaw:={PySem.Challenge.rw_lastloser_k30_sums_that_part with prog:=pg}
end KK
set_option maxRecDepth 100000 in
set_option maxHeartbeats 0 in
theorem KK.pre:KK.lw.Holds:=by
 w_on;o_law;o_head (PySem.W.kHook KK.US KK.X9 (λ _=>by kernel_rfl));(case hw=>w_witness2)
 refine KK.walk (l:=KK.lw) rfl rfl (K:=KK.kK) (λ w h Y=>KK.k0 (PySem.W.kIn_of Y)) ?F
 case F=>
  intro w mg fa h KX G RF;have hm:mg "law"=some (.ref fa):=RF;have e:=hm.symm.trans (PySem.W.mg_of KX G (v:=.ref (157+1)) (by kernel_rfl));cases e;exact KK.all_mk ⟨KK.kn KX G,KK.kn KX G,KK.kn KX G,KK.kn KX G,KK.kn KX G,KK.kn KX G,KK.kn KX G,KK.kn KX G,KK.kn KX G,KK.kn KX G,KK.kn KX G,KK.kn KX G,KK.kn KX G,KK.kn KX G,KK.EJ _,KK.JF _,KK.EI _,KK.JE _,KK.Bc _⟩ (KK.tF KX G KK.m1 20) (KK.tC KX G KK.m1 28) (by kernel_rfl) (KK.tC KX G KK.m1 35) (KK.tF KX G KK.m2 42) (KK.tF KX G KK.m2 49) (KK.tF KX G KK.m0 56) (KK.tF KX G KK.m3 63) (KK.tF KX G KK.m3 70) (KK.tF KX G KK.m3 77) (KK.tF KX G KK.m3 82) (KK.tF KX G KK.m3 87) (KK.tF KX G KK.m3 92) (KK.tF KX G KK.m3 97) (KK.tF KX G KK.m3 104) (KK.tF KX G KK.m3 109) (KK.tF KX G KK.m3 114) (KK.tF KX G KK.m3 119) (KK.tF KX G KK.m3 124) (KK.tF KX G KK.m3 131) (KK.tF KX G KK.m3 136) (KK.tF KX G KK.m3 143) (KK.tF KX G KK.m3 150) (KK.tF KX G KK.m3 157)
theorem PySem.Challenge.cw_lastloser_k30_sums_that_part_holds : PySem.Challenge.rw_lastloser_k30_sums_that_part.Holds :=
 KK.pre
