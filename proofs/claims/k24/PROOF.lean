import PyProof.Rows.All
import Wide.All
import OpenK.AllK
import Wide.FinOn
import Lean
import PyProof.EqAt
import PyProof.EqKinds
import PyProof.TupleCall
import PyProof.StrWalks
import PyProof.ConsumeWalk
import PyProof.TupleKey
import PyProof.DictFindH
import PyProof.P3Eq
import PyProof.DictRoadsH
import PyProof.Rows.TupTab
import KE.KLam
import KE.KSortTup
import PyProof.ZipIter
import PyProof.Draws
import PyProof.WalksMore
import PyProof.ListMulRoad
import PyProof.AutoListH
import PyProof.FactsAll.tuple_2
import PyProof.FactsAll.tuple
import PyProof.TupleIter
import PyProof.AttrMissHeap
import PyProof.DictIter
import PyProof.DictWalks
import KE.KDictSum
import KE.KDictOf
import PyProof.EnumMake
import KE.BitLaws
import PyProof.RaisesMany
import PyProof.ExcInit
import PyProof.ExcClass3
import PyProof.ExcArgsOwn
import PyProof.RulesTry
import PyProof.RulesAs
import PyProof.NsDelKeeps
import KE.KIsAll
import PyProof.Rows.SortWalk
import PyProof.Rows.Range3
import PyProof.ListRange
import PySem.Challenge.RW_lastloser_k24_more_than_four_hundred_pai
set_option tactic.hygienic false
local macro_rules|`(tactic|omega)=>`(tactic|lia)
local macro_rules|`(tactic|obtain $p:rcasesPatMed:=$t:term)=>`(tactic|first|(refine Classical.byContradiction fun k=>?_;rcases $t:term with $p:rcasesPatMed<;>(refine k ?_;clear k))|rcases $t:term with $p:rcasesPatMed)
set_option Elab.async false
set_option linter.all false
set_option maxRecDepth 100000
set_option maxHeartbeats 4000000
open List
def a8:=@PyProof.Rows.slot_tuple_getitem
def a9:=@PyProof.Rows.callWith_type1
def c4:=@PySem.F.slot_tuple_iterator_next
def c5:=@getElem?_append_right
def c6:=@getD_eq_getElem?_getD
def h7:=@PySem.F.excBase_ValueError
def h8:=@getElem?_append_left
def i0:=@Array.getElem?_eq_getElem
def i4:=@List.getElem?_eq_some_iff
def i5:=@List.getElem?_eq_none_iff
def i6:=@PySem.F.slot_list_append
def i7:=@getElem?_eq_getElem
def i8:=@PySem.F.type_list_append
def i9:=@PySem.F.plainAttrs_list
def j0:=@getElem?_replicate
def j4:=@PySem.wpAny_callSpecial?_slot
def j5:=@length_eq_zero_iff
def j6:=@take_of_length_le
def j7:=@Array.getElem?_eq_none
def j8:=@PySem.Heap.get?_push_of_some
def j9:=@PySem.Heap.get?_update_other
def k7:=@getElem?_set_self
def k8:=@PySem.Heap.get?_update_self
def k9:=@mem_append_right
def l0:=@length_singleton
def l7:=@Array.getElem?_toList
def l8:=@length_replicate
def l9:=@PySem.Obj.isFreed_of_fields
def m7:=@mem_cons_of_mem
def m8:=@mem_of_getElem?
def m9:=@mem_append_left
def n5:=@PySem.codeAny_call_builtin
def n6:=@getElem?_set_ne
def n9:=@PySem.W.hideAll_none
def o4:=@PySem.Heap.SameBut.update
def o5:=@PySem.mem_of_lookup
def o6:=@replicate_succ
def o7:=@Array.length_toList
def o8:=@PySem.Heap.get?_push_size
def o9:=@PySem.wpAny_isSubtype_exc
def q8:=@filterMap_cons
def q9:=@mem_cons_self
def r0:=@Bool.false_ne_true
def r6:=@length_append
def r9:=@Bool.false_eq_true
def s9:=@Int.emod_lt_of_pos
def u0:=@Nat.lt_of_le_of_lt
def u3:=@Nat.lt_of_lt_of_le
def u4:=@mem_singleton
def u5:=@PySem.wpAny_Call_Name_kw
def u6:=@PySem.W.tail_of_in
def u7:=@PySem.Obj.data_mapFields
def u9:=@Int.lt_of_le_of_lt
def w5:=@PySem.tupleKind_room_in1
def w6:=@PySem.W.of_hideAll
def x3:=@getElem?_map
def x4:=@Int.toNat_natCast
def x5:=@PySem.wpAny_newObj_type
def x6:=@flatten_cons
def x8:=@PySem.wpAny_truthy_bool
def x9:=@PySem.wpAny_pyIter_list
def y0:=@length_range
def y2:=@Option.isSome_map
def y3:=@List.size_toArray
def y4:=@PySem.wpAny_loadPart_at
def y6:=@Nat.lt_succ_of_lt
def y7:=@lookup_cons
def y8:=@Nat.le_of_not_lt
def y9:=@length_cons
def z4:=@take_length
def z5:=@PySem.wpAny_call_entry
def z6:=@Bool.and_eq_true
def z7:=@length_take
def z8:=@getElem_mem
def z9:=@List.all_eq_true
def A0:=@Bool.eq_iff_iff
def A1:=@append_nil
def A3:=@find?_cons
def A4:=@decide_eq_false
def A5:=@Int.emod_nonneg
def A6:=@Option.some.inj
def A7:=@PySem.wpAny_passesOwn
def A8:=@length_map
def A9:=@mem_append
def B0:=@map_append
def B1:=@Nat.le_antisymm
def B3:=@PySem.wpAny_specialOf
def B4:=@PySem.wpAny_execs_nil
def B5:=@decide_eq_true
def B6:=@PySem.Heap.size_push
def B7:=@PySem.wpAny_setField
def B8:=@PySem.wpAny_holding
def B9:=@PySem.wpAny_attempt
def C0:=@PySem.Paired.length
def C1:=@Nat.lt_irrefl
def C2:=@map_cons
def C3:=@mem_cons
def C4:=@PySem.W.mg_of
def C5:=@PySem.wpAny_standAt
def C6:=@Int.zero_add
def C7:=@Nat.ne_of_lt
def C8:=@PySem.Heap.lt_size
def C9:=@mem_map
def D1:=@List.map_map
def D3:=@Nat.le_trans
def D4:=@Nat.zero_add
def D5:=@PySem.codeAny_mono
def D6:=@Nat.ne_of_gt
def D7:=@Nat.le_of_lt
def D8:=@Nat.le_refl
def D9:=@PySem.sizeLine_eq
def F0:=@Nat.zero_le
def G0:=@PySem.wpAny_field
def G1:=@PySem.wpAny_bind
def G2:=@PySem.wpAny_pure
def G3:=@PySem.call_meets
def G4:=@PySem.wpAny_mono
def G5:=@PySem.wpAny_call
def G7:=@if_false
def G8:=@congrArg
def H9:=@Ne.symm
def J0:=@if_pos
def J7:=@if_neg
abbrev J8:=PySem.W.Frag
namespace L2
open PySem PySem.Spec PyProof.Rows
abbrev Key:=Sum Int Str
def pR:Key->Value->Bool
 | .inl k,v=>Value.isInt k v
 | .inr x,v=>Value.isStrOf x v
def T7(w:World):Key->Int
 | .inl k=>hashInt k
 | .inr x=>hashStr w x
theorem bE:∀{k:Key} {v:Value},pR k v=true->(∃i t,k=Sum.inl i/\v=Value.int i t)\/(∃x t,k=Sum.inr x/\v=Value.str x t)
 | .inl i,v,h=>by obtain⟨t,e⟩:=Value.isInt_shape (k:=i) (v:=v) h;exact .inl ⟨i,t,rfl,e⟩
 | .inr x,v,h=>by obtain⟨t,e⟩:=Value.isStrOf_shape (x:=x) (v:=v) h;exact .inr ⟨x,t,rfl,e⟩
theorem zk(i:Int)(t:Tok):pR (.inl i) (.int i t)=true:=by simp[pR,Value.isInt]
theorem zj(x:Str)(t:Tok):pR (.inr x) (.str x t)=true:=by simp[pR,Value.isStrOf]
theorem Ms(a b:Int):decide ((Sum.inl a:Key)=Sum.inl b)=(a==b):=by
 by_cases e:a=b
 ·subst e;simp
 ·have h:¬(Sum.inl a:Key)=Sum.inl b:=λ q=>e (Sum.inl.inj q);rw[A4 h];exact(beq_eq_false_iff_ne.mpr e).symm
theorem Mp(a b:Str):decide ((Sum.inr a:Key)=Sum.inr b)=decide (a=b):=by
 by_cases e:a=b
 ·subst e;simp
 ·have h:¬(Sum.inr a:Key)=Sum.inr b:=λ q=>e (Sum.inr.inj q);rw[A4 h,A4 e]
theorem Mr(a:Int)(b:Str):decide ((Sum.inl a:Key)=Sum.inr b)=false:=A4 (λ q=>nomatch q)
theorem Mq(a:Str)(b:Int):decide ((Sum.inr a:Key)=Sum.inl b)=false:=A4 (λ q=>nomatch q)
def cg(prog:Program)(w:World):PySem.KeyKind prog w Key where
 is:=pR
 hash:=T7 w
 inj:=λ v a b ha hb=>by
  rcases bE ha with⟨i,t,rfl,rfl⟩|⟨x,t,rfl,rfl⟩
  ·rcases bE hb with⟨j,u,rfl,e⟩|⟨y,u,rfl,e⟩
   ·injection e with e1 _;rw[e1]
   ·exact nomatch e
  ·rcases bE hb with⟨j,u,rfl,e⟩|⟨y,u,rfl,e⟩
   ·exact nomatch e
   ·injection e with e1 _;rw[e1]
 byValue:=λ k v h=>by rcases bE h with⟨i,t,rfl,rfl⟩|⟨x,t,rfl,rfl⟩ <;> rfl
 pyHash:=λ hv h=>by
  rcases bE hv with⟨i,t,rfl,rfl⟩|⟨x,t,rfl,rfl⟩
  ·exact wpAny_pyHash_int h
  ·exact wpAny_pyHash_str h
 eqBool:=λ hu hv h=>by
  rcases bE hu with⟨i,t,rfl,rfl⟩|⟨x,t,rfl,rfl⟩
  ·rcases bE hv with⟨j,u,rfl,rfl⟩|⟨y,u,rfl,rfl⟩
   ·rw[Ms]at h;exact wpAny_eqBool_int h
   ·rw[Mr]at h;exact SeqAt.EqAt.int_str i t y u _ _ _ _ h
  ·rcases bE hv with⟨j,u,rfl,rfl⟩|⟨y,u,rfl,rfl⟩
   ·rw[Mq]at h;exact SeqAt.EqAt.str_int x t j u _ _ _ _ h
   ·rw[Mp]at h;exact wpAny_eqBool_str h
 «strs»:=λ k x t v h=>by
  rcases bE h with⟨i,u,rfl,e⟩|⟨y,u,rfl,e⟩
  ·exact nomatch e
  ·injection e with e1 _
   subst e1;cases v <;> rfl
theorem sS(prog:Program)(w:World)(i:Int)(t:Tok):(cg prog w).is (.inl i) (.int i t)=true:=zk i t
theorem sR(prog:Program)(w:World)(x:Str)(t:Tok):(cg prog w).is (.inr x) (.str x t)=true:=zj x t
inductive V where
 |aY|bl (b:Bool)|int (i:Int)|str (x:Str)|Aj (b:Array UInt8)|Sn (b:UInt64)|ref (a:Addr)|ty (n:String)
 deriving DecidableEq
def RelV:V->Value->Prop
 | .aY,u=>u=Value.none
 | .bl b,u=>u=Value.bool b
 | .int i,u=>∃t,u=Value.int i t
 | .str x,u=>∃t,u=Value.str x t
 | .Aj b,u=>∃t,u=Value.bytes b t
 | .Sn b,u=>∃t,u=Value.float b t
 | .ref a,u=>u=Value.ref a
 | .ty n,u=>u=Value.type n
abbrev Vals:List V->List Value->Prop:=Paired RelV
theorem Vals.length {xs:List V}{us:List Value}(r:Vals xs us):xs.length=us.length:=C0 r
theorem Vals.get:∀{xs:List V} {us:List Value} {i:Nat} {x:V},Vals xs us->xs[i]?=some x->∃u,us[i]?=some u/\RelV x u
 |_,_,_,_,.nil,e=>by simp at e
 |_,_,0,_,.cons r _,e=>by simp at e;subst e;exact⟨_,rfl,r⟩
 |_,_,i+1,x,.cons _ t,e=>by obtain⟨u,h1,h2⟩:=Vals.get (i:=i) (x:=x) t (by simpa using e);exact⟨u,by simpa using h1,h2⟩
theorem Vals.set {x:V}{u:Value}(r:RelV x u):∀{xs:List V} {us:List Value} (i:Nat),Vals xs us->Vals (xs.set i x) (us.set i u)
 |_,_,_,.nil=>.nil
 |_,_,0,.cons _ t=>.cons r t
 |_,_,i+1,.cons q t=>.cons q (Vals.set r i t)
theorem Vals.append:∀{xs ys:List V} {us ws:List Value},Vals xs us->Vals ys ws->Vals (xs++ys) (us++ws)
 |_,_,_,_,.nil,s=>s
 |_,_,_,_,.cons r t,s=>.cons r (Vals.append t s)
theorem Vals.take:∀{xs:List V} {us:List Value} (n:Nat),Vals xs us->Vals (xs.take n) (us.take n)
 |_,_,0,_=>.nil
 |_,_,_+1,.nil=>.nil
 |_,_,n+1,.cons r t=>.cons r (Vals.take n t)
theorem Vals.drop:∀{xs:List V} {us:List Value} (n:Nat),Vals xs us->Vals (xs.drop n) (us.drop n)
 |_,_,0,r=>r
 |_,_,_+1,.nil=>.nil
 |_,_,n+1,.cons _ t=>Vals.drop n t
def gR:Option V->Option Value->Prop
 |some v,some u=>RelV v u
 |none,none=>True
 |_,_=>False
def KV{κ:Type}:List (κ×V)->List (κ×Value)->Prop:=Paired λ(p:κ×V) (q:κ×Value)=>p.1=q.1/\RelV p.2 q.2
def kV:Key->V
 | .inl i=>.int i
 | .inr x=>.str x
inductive HO where
  |lst (xs:List V)
  |tup (xs:List V)
  |dK (kvs:List (Key×V))|dT (kvs:List (List Key×V))
  |set (S:Int->Bool) (n:Nat)
  |ins (C dx:Addr) (fs:List (Str×V))
  |own (x:Addr)
  |xd (fs:List (Str×V))
  |met (f x:Addr)
  |Td (lo hi:Int)
  |ck (o:Obj) (u:HO)
  |lM (ps:Array Value)
  |ext (φ:Heap->Prop)
abbrev Hp:=Addr->Option HO
def upd(H:Hp)(a:Addr)(o:HO):Hp:=λ b=>if b=a then some o else H b
theorem aD{H:Hp}{a:Addr}{o:HO}:upd H a o a=some o:=by unfold upd;rw[J0 rfl]
theorem ar{H:Hp}{a b:Addr}{o:HO}(h:b≠a):upd H a o b=H b:=by unfold upd;rw[J7 h]
theorem lK{H:Hp}{a:Addr}{o u:HO}:upd (upd H a o) a u=upd H a u:=by funext b;unfold upd;split <;> rfl
theorem aZ{H:Hp}{a b:Addr}{o u:HO}(h:H a=some o)(h':H b=some u)(d:o≠u):a≠b:=by intro e;subst e;rw[h]at h';exact d (A6 h')
theorem aV{H:Hp}{a b:Addr}{o:HO}(h:H a=some o)(h':H b=none):a≠b:=by intro e;subst e;rw[h]at h';cases h'
section
variable (P:Program)(w:World)
def br(H:Hp)(h:Heap)(a:Addr):HO->Prop
 | .lst xs=>xs.length<=sizeLine/\∃(au:List Value) (n:Nat),Vals xs au/\h.get? a=some {cls:=.type "list",data:=.seq au.toArray n}
 | .tup xs=>xs.length<=sizeLine/\∃au:List Value,Vals xs au/\IsTup h a au.toArray
 | .dK kvs=>kvs.length<=sizeLine/\(a==sysModules)=false/\∃vs,KV kvs vs/\h.DictOf (cg P w) a vs
 | .dT kvs=>kvs.length<=sizeLine/\(a==sysModules)=false/\∃xs:List (List Key×Addr×Value),
   Paired (λ(p:List Key×V) (q:List Key×Addr×Value)=>p.1=q.1/\H q.2.1=some (.tup (p.1.map kV))/\RelV p.2 q.2.2) kvs xs/\
   ∃o es ep,h.get? a=some o/\o.ExactDict/\o.data=.dict es ep/\es.toList=xs.map (entryOfKey (tupleKind (cg P w)))/\(xs.map (·.1)).Nodup
 | .set S n=>h.SetOf (intKind P w) a S n
 | .ins C dx fs=>H dx=some (.own a)/\fs.length<=1000/\dx≠a/\h.get? a=some (PySem.W.instObj C dx)/\
   ∃mA,h.Ns1 dx mA/\(∀f,gR (fs.lookup f) (mA f))/\PySem.Within mA (fs.map (·.1))
 | .own _=>∃o,h.get? a=some o
 | .xd fs=>∃mA,h.Ns1 a mA/\∀f,gR (fs.lookup f) (mA f)
 | .Td lo hi=>∃t u v,h.get? a=some {cls:=.type "range",data:=.fields #[.int lo t,.int hi u,.int 1 v]}
 | .ck o u=>h.get? a=some o/\br H h a u
 | .lM ps=>h.get? a=some {cls:=.none,data:=.fields ps}
 | .met f x=>h.get? a=some (PySem.W.methodObj (.ref f) (.ref x))
 | .ext φ=>φ h/\(∃o,h.get? a=some o)/\∀h1 h2:Heap,φ h1->(∀o,h1.get? a=some o->h2.get? a=some o)->φ h2
def dX(H:Hp)(h:Heap):Prop:=∀a o,H a=some o->br P w H h a o
end
section
variable {P:Program}{w:World}{H H':Hp}{h h':Heap}{a:Addr}{o:HO}
theorem br.lt (x:br P w H h a o):a < h.objs.size:=by
 cases o with
 |lst xs=>obtain⟨_,_,_,_,e⟩:=x;exact C8 e
 |tup xs=>obtain⟨_,_,_,p⟩:=x;exact p.lt
 |dK kvs=>obtain⟨_,_,_,_,o,_,_,e,_⟩:=x;exact C8 e
 |dT kvs=>obtain⟨_,_,_,_,o,_,_,e,_⟩:=x;exact C8 e
 |set S n=>obtain⟨o,_,_,_,e,_⟩:=x;exact C8 e
 |ins C dx fs=>obtain⟨_,_,_,e,_⟩:=x;exact C8 e
 |own y=>obtain⟨_,e⟩:=x;exact C8 e
 |xd fs=>obtain⟨_,⟨_,_,_,e,_⟩,_⟩:=x;exact C8 e
 |Td lo hi=>obtain⟨_,_,_,e⟩:=x;exact C8 e
 |ck ob u=>obtain⟨e,_⟩:=x;exact C8 e
 |lM ps=>exact C8 (show h.get? a=some _ from x)
 |met f y=>exact C8 (show h.get? a=some _ from x)
 |ext φ=>obtain⟨_,⟨_,e⟩,_⟩:=x;exact C8 e
theorem Paired.qO {α β:Type}{F G:α->β->Prop}:∀{l₁:List α} {l₂:List β},Paired F l₁ l₂->(∀a b,F a b->G a b)->Paired G l₁ l₂
 |_,_,.nil,_=>.nil
 |_,_,.cons r t,f=>.cons (f _ _ r) (Paired.qO t f)
theorem br.eK (x:br P w H h a o)(k:∀b u,(b=a\/H b=some (.own a))->h.get? b=some u->h'.get? b=some u) (ho:∀b,H b=some (.own a)->H' b=some (.own a)) (ht:∀b xs,H b=some (.tup xs)->H' b=some (.tup xs)):br P w H' h' a o:=by
 induction o with
 |lst xs=>obtain⟨z,au,n,r,e⟩:=x;exact⟨z,au,n,r,k _ _ (.inl rfl) e⟩
 |tup xs=>obtain⟨z,au,r,ob,e,c⟩:=x;exact⟨z,au,r,ob,k _ _ (.inl rfl) e,c⟩
 |dK kvs=>obtain⟨z,y,vs,r,ob,es,ep,e,c⟩:=x;exact⟨z,y,vs,r,ob,es,ep,k _ _ (.inl rfl) e,c⟩
 |dT kvs=>obtain⟨z,y,xs,r,ob,es,ep,e,c⟩:=x;exact⟨z,y,xs,Paired.qO r λ p q z=>⟨z.1,ht _ _ z.2.1,z.2.2⟩,ob,es,ep,k _ _ (.inl rfl) e,c⟩
 |set S n=>obtain⟨ob,es,ep,t,e,c⟩:=x;exact⟨ob,es,ep,t,k _ _ (.inl rfl) e,c⟩
 |ins C dx fs=>obtain⟨d,z,ne,e,mA,⟨od,es,ep,e2,c⟩,r⟩:=x;exact⟨ho _ d,z,ne,k _ _ (.inl rfl) e,mA,⟨od,es,ep,k _ _ (.inr d) e2,c⟩,r⟩
 |own y=>obtain⟨ob,e⟩:=x;exact⟨ob,k _ _ (.inl rfl) e⟩
 |xd fs=>obtain⟨mA,⟨od,es,ep,e,c⟩,r⟩:=x;exact⟨mA,⟨od,es,ep,k _ _ (.inl rfl) e,c⟩,r⟩
 |Td lo hi=>obtain⟨t,u,v,e⟩:=x;exact⟨t,u,v,k _ _ (.inl rfl) e⟩
 |ck ob u ih=>obtain⟨e,q⟩:=x;exact⟨k _ _ (.inl rfl) e,ih q⟩
 |lM ps=>have e:h.get? a=some {cls:=.none,data:=.fields ps}:=x;show h'.get? a=some {cls:=.none,data:=.fields ps};exact k a _ (.inl rfl) e
 |met f y=>have e:h.get? a=some (PySem.W.methodObj (.ref f) (.ref y)):=x;show h'.get? a=some (PySem.W.methodObj (.ref f) (.ref y));exact k a _ (.inl rfl) e
 |ext φ=>obtain⟨p,⟨o,e⟩,st⟩:=x;exact⟨st _ _ p λ o q=>k _ _ (.inl rfl) q,⟨o,k _ _ (.inl rfl) e⟩,st⟩
theorem dX.lt (x:dX P w H h)(e:H a=some o):a < h.objs.size:=(x a o e).lt
theorem dX.fresh (x:dX P w H h)(e:h.objs.size<=a):H a=none:=by
 cases q:H a with
 |none=>rfl
 |some u=>exact absurd (u3 (x.lt q) e) (C1 _)
theorem dX.kept (x:dX P w H h)(k:∀b u,h.get? b=some u->h'.get? b=some u):dX P w H h':=λ a o e=>
 (x a o e).eK (λ b u _ q=>k b u q) (λ _ q=>q) λ _ _ q=>q
theorem dX.laid (x:dX P w H h)(k:∀b u,h.get? b=some u->h'.get? b=some u)(hp:h.objs.size<=a)(new:br P w (upd H a o) h' a o):dX P w (upd H a o) h':=λ b u e=>by
 have hn:=x.fresh hp;by_cases hb:b=a
 ·subst hb;rw[aD]at e;cases e;exact new
 ·rw[ar hb]at e;exact(x b u e).eK (λ c v _ q=>k c v q) (λ c q=>by rw[ar (aV q hn)];exact q) λ c xs q=>by rw[ar (aV q hn)];exact q
end
def Rd(H:Hp)(a:Addr)(u:HO):Prop:=H a=some u\/∃o,H a=some (.ck o u)
theorem Rd.ok {P:Program}{w:World}{H:Hp}{h:Heap}{a:Addr}{u:HO}(r:Rd H a u)(x:dX P w H h):br P w H h a u:=by
 rcases r with r|⟨o,r⟩
 ·exact x a u r
 ·obtain⟨_,q⟩:=x a _ r;exact q
def Ry:Option HO->Prop
 |some (.lst _)=>True
 |some (.dK _)=>True
 |some (.dT _)=>True
 |some (.set _ _)=>True
 |some (.ins _ _ _)=>True
 |some (.ext _)=>True
 |_=>False
section
variable {P:Program}{w:World}{H:Hp}{h h':Heap}{x e:Addr}{o':HO}
theorem dX.write (ok:dX P w H h)(mu:Ry (H x))(he:e=x\/H e=some (.own x))(k:∀b u,b≠e->h.get? b=some u->h'.get? b=some u)(NZ:∃u,h'.get? e=some u) (new:br P w (upd H x o') h' x o'):dX P w (upd H x o') h':=λ b u q=>by
 have PC:∀c y,H c=some (.own y)->c≠x:=λ c y r z=>by subst z;rw[r]at mu;exact mu
 have TK:∀c xs,H c=some (.tup xs)->c≠x:=λ c xs r z=>by subst z;rw[r]at mu;exact mu
 by_cases hb:b=x
 ·subst hb;rw[aD]at q;cases q;exact new
 ·rw[ar hb]at q;by_cases MR:b=e
  ·have q':H b=some (.own x):=by
    rcases he with z|z
    ·exact absurd (MR.trans z) hb
    ·rw[MR];exact z
   rw[q]at q';cases q';obtain⟨v,hv⟩:=NZ;exact⟨v,by rw[MR];exact hv⟩
  ·refine(ok b u q).eK (λ c v hc r=>k c v ?_ r) (λ c r=>by rw[ar (PC c b r)];exact r) λ c xs r=>by rw[ar (TK c xs r)];exact r
   rcases hc with rfl|hc
   ·exact MR
   ·rintro rfl;rcases he with z|z
    ·exact PC c b hc z
    ·rw[hc]at z;cases z;exact hb rfl
end
structure Un(fs ex:List Addr)(H H':Hp)(h h':Heap):Prop where
 keep:∀b o,h.get? b=some o->H b=none->b∉fs->b∉ex->h'.get? b=some o
 slot:∀b o,h.get? b=some o->H b=none->b∈fs->b∉ex->∃sl,h'.get? b=some {o with slots:=sl}
 free:∀b o,h.get? b=some o->H b=none->b∉ex->H' b=none
 there:∀b o,h.get? b=some o->b∉ex->∃o',h'.get? b=some o'
 dZ:∀b xs,H b=some (.tup xs)->H' b=some (.tup xs)
 dD:∀b o u,H b=some (.ck o u)->H' b=some (.ck o u)
 d_:∀b ps,H b=some (.lM ps)->∃more,H' b=some (.lM (ps++more))
section
variable {fs fs' ex ex':List Addr}{H H1 H2:Hp}{h h1 h2 h':Heap}{a x e:Addr}{o:HO}
theorem Un.any (u:Un fs ex H H1 h h1){b:Addr}{ob:Obj}(q:h.get? b=some ob)(n:H b=none)(hx:b∉ex):∃sl,h1.get? b=some {ob with slots:=sl}:=by
 by_cases hb:b∈fs
 ·exact u.slot b ob q n hb hx
 ·exact⟨ob.slots,u.keep b ob q n hb hx⟩
theorem Un.kept (k:∀b u,h.get? b=some u->h'.get? b=some u):Un fs ex H H h h':=
 ⟨λ b ob q _ _ _=>k b ob q,λ b ob q _ _ _=>⟨ob.slots,k b ob q⟩,λ _ _ _ n _=>n,λ b ob q _=>⟨ob,k b ob q⟩,λ _ _ q=>q,λ _ _ _ q=>q,λ _ ps q=>⟨#[],by rw[q];simp⟩⟩
theorem Un.refl:Un fs ex H H h h:=Un.kept λ _ _ q=>q
theorem Un.laid (k:∀b u,h.get? b=some u->h'.get? b=some u)(hp:h.objs.size<=a)(hn:H a=none):Un fs ex H (upd H a o) h h' where
 keep:=λ b u q _ _ _=>k b u q
 slot:=λ b u q _ _ _=>⟨u.slots,k b u q⟩
 free:=λ b u q n _=>by rw[ar (C7 (u3 (C8 q) hp))];exact n
 there:=λ b u q _=>⟨u,k b u q⟩
 dZ:=λ b xs q=>by rw[ar (aV q hn)];exact q
 dD:=λ b u xs q=>by rw[ar (aV q hn)];exact q
 d_:=λ b ps q=>⟨#[],by rw[ar (aV q hn),q];simp⟩
theorem Un.write (mu:Ry (H x))(he:e=x\/H e=some (.own x))(k:∀b u,b≠e->h.get? b=some u->h'.get? b=some u)(NZ:∃u,h'.get? e=some u):Un fs ex H (upd H x o) h h':=by
 have hx:∀b,H b=none->b≠x:=λ b n z=>by subst z;rw[n]at mu;exact mu
 have hb:∀b,H b=none->b≠e:=λ b n z=>by
  subst z;rcases he with r|r
  ·exact hx b n r
  ·rw[n]at r;cases r
 have hm:∀b u,H b=some u->¬Ry (some u)->b≠x:=λ b u q nm z=>by subst z;rw[q]at mu;exact nm mu
 refine⟨λ b u q n _ _=>k b u (hb b n) q,λ b u q n _ _=>⟨u.slots,k b u (hb b n) q⟩,λ b u q n _=>by rw[ar (hx b n)];exact n,λ b u q _=>?_,
  λ b xs q=>by rw[ar (hm b _ q λ z=>z)];exact q,λ b u xs q=>by rw[ar (hm b _ q λ z=>z)];exact q,λ b ps q=>⟨#[],by rw[ar (hm b _ q λ z=>z),q];simp⟩⟩
 by_cases MR:b=e
 ·subst MR;exact NZ
 ·exact⟨u,k b u MR q⟩
end
def RL(h:Heap)(H:Hp):List Addr:=(List.range h.objs.size).filter λ a=>(H a).isSome
def oH(h:Heap)(H:Hp):Heap:=PySem.W.hideAll h (RL h H)
theorem zt(h:Heap)(H:Hp):(oH h H).objs.size=h.objs.size:=PySem.W.hideAll_size _ _
theorem Dt{h:Heap}{H:Hp}{b:Addr}{o:Obj}(e:h.get? b=some o)(n:H b=none):(oH h H).get? b=some o:=
 PySem.W.hideAll_get _ e λ hm=>by have q:(H b).isSome=true:=(mem_filter.mp hm).2;rw[n]at q;simp at q
theorem Hy{h:Heap}{H:Hp}{b:Addr}{o:Obj}(e:(oH h H).get? b=some o):h.get? b=some o/\H b=none:=by
 have e':h.get? b=some o:=w6 (RL h H) e;refine⟨e',?_⟩;cases q:H b with
 |none=>rfl
 |some x=>have hm:b∈RL h H:=mem_filter.mpr ⟨mem_range.mpr (C8 e'),by simp[q]⟩;have z:(oH h H).get? b=none:=n9 (RL h H) hm;rw[z]at e;cases e
structure Mod(K:J8)(mg:Str->Option Value)(base:Heap):Prop where
 Mo:K.In base
 glob:base.Ns mainGlobals mg
 blt:∃mb,base.Ns builtinsNs mb/\∀x:Str,x≠"__name__"->mb x=bootBuiltins x
 nolimit:base.NoLimit
structure Cx where
 prog:Program
 w:World
 K:J8
 mg:Str->Option Value
 base:Heap
 A:Around
 N:List Str
 s₀:Shared
 H₀:Hp
 env:Env
 outer:List Env
 stack:List Env
 ex:List Addr
 fn:Str->Bool
 calm:Bool
 pn:List (Addr×Obj)
 xe:Value->Shared->Prop
def f_(l:List Env):List Addr:=l.filterMap (·.frame)
abbrev Cx.fs (X:Cx):List Addr:=f_ X.outer
def IU(sc:Scope)(x:Str):Prop:=sc.names.lookup x=some .local\/sc.names.lookup x=some .cell\/sc.names.lookup x=some .free
def Loc(sc:Scope)(x:Str):Prop:=sc.names.lookup x=some .local\/sc.names.lookup x=some .cell
def Look(env:Env)(h:Heap)(m:Str->Option Value)(x:Str)(u:Value):Prop:=
 (env.kindOf x=some .local/\m x=some u)\/((env.kindOf x=some .cell\/env.kindOf x=some .free)/\∃c,env.cells.lookup x=some c/\h.IsCell c (some u))
structure Cx.Ok (X:Cx):Prop where
 mod:Mod X.K X.mg X.base
 kind:X.env.scope.kind=.function
 glob:X.env.globals=mainGlobals
 blt:X.env.builtins=builtinsNs
 above:X.s₀.heap.objs.size<=X.env.locals
 inj:∀x y c,X.env.cells.lookup x=some c->X.env.cells.lookup y=some c->x=y
 has:∀x,(X.env.kindOf x=some .cell\/X.env.kindOf x=some .free)->∃c,X.env.cells.lookup x=some c
 Nt:∀x c,X.fn x=true->X.env.cells.lookup x=some c->X.s₀.heap.objs.size<=c
 hd:X.calm=true->X.A.handled=none
 frames:X.A.frames=some X.stack
 Oo:X.stack=X.outer\/(X.stack=X.env::X.outer/\X.env.frame=some X.env.locals)
 UU:∀b∈X.ex,b≠X.env.locals/\∀x c,X.env.cells.lookup x=some c->c≠b
 bs:∀b o,X.base.get? b=some o->X.s₀.heap.get? b=some o/\X.H₀ b=none
 vX:X.base.objs.size<=X.s₀.heap.objs.size
 vb:∀b o,X.base.get? b=some o->b∉X.ex
 DN:∀b∈X.ex,b∉X.fs
 gL:X.s₀.heap.FunFrames X.base X.outer
 DC:∀b∈X.fs,X.H₀ b=none
structure Inv(X:Cx)(pins:List (Addr×Obj))(σ:List (Option V))(H:Hp)(s:Shared):Prop where
 ok:X.Ok
 os:s.os=X.s₀.os
 bare:AllBare s.gens
 base:Un X.fs X.ex X.H₀ H X.s₀.heap s.heap
 loc:∃m,s.heap.Ns X.env.locals m/\∀(i:Nat) (x:Str) (v:V),X.N[i]?=some x->σ[i]?=some (some v)->IU X.env.scope x->∃u,RelV v u/\Look X.env s.heap m x u
 cell:∀x c,X.env.cells.lookup x=some c->∃v,s.heap.IsCell c v
 free:H X.env.locals=none
 dr:∀x c,X.env.cells.lookup x=some c->H c=none
 pin:∀p∈X.pn++pins,s.heap.get? p.1=some p.2/\H p.1=none/\p.1≠X.env.locals/\p.1∉X.fs/\∀v,p.2.data≠.cell v
 aK:dX X.prog X.w H s.heap
 len:σ.length=X.N.length
section
variable {X:Cx}{pins:List (Addr×Obj)}{σ:List (Option V)}{H H':Hp}{s:Shared}{h':Heap}
theorem Cx.Ok.TN (ok:X.Ok){b:Addr}{o:Obj}(e:X.base.get? b=some o):b∉X.fs:=λ hb=>by have:=(ok.gL.mem hb).1;rw[e]at this;cases this
theorem Inv.bs (I:Inv X pins σ H s):∀b o,X.base.get? b=some o->s.heap.get? b=some o/\H b=none:=λ b o e=>
 ⟨I.base.keep b o (I.ok.bs b o e).1 (I.ok.bs b o e).2 (I.ok.TN e) (I.ok.vb b o e),I.base.free b o (I.ok.bs b o e).1 (I.ok.bs b o e).2 (I.ok.vb b o e)⟩
theorem Inv.bk (I:Inv X pins σ H s):∀b o,X.base.get? b=some o->s.heap.get? b=some o:=λ b o e=>(I.bs b o e).1
theorem Inv.mod (I:Inv X pins σ H s):Mod X.K X.mg X.base:=I.ok.mod
theorem Inv.jq (I:Inv X pins σ H s):X.K.In s.heap:=I.ok.mod.Mo.keeps I.bk
theorem Inv.lt (I:Inv X pins σ H s):X.env.locals < s.heap.objs.size:=let⟨_,hn,_⟩:=I.loc;hn.lt
theorem Inv.sz (I:Inv X pins σ H s):X.s₀.heap.objs.size<=s.heap.objs.size:=D3 I.ok.above (D7 I.lt)
theorem Inv.TM (I:Inv X pins σ H s){a:Addr}(h:s.heap.objs.size<=a):a∉X.fs:=λ hb=>by obtain⟨_,o,ho,_⟩:=I.ok.gL.mem hb;exact absurd (u3 (C8 ho) (D3 I.sz h)) (C1 _)
theorem Inv.Ai (I:Inv X pins σ H s):∀x c,X.env.cells.lookup x=some c->c≠X.env.locals:=λ x c e z=>by obtain⟨v,o,ho,hd⟩:=I.cell x c e;obtain⟨m,⟨o',es,ep,zr,jz,_⟩,_⟩:=I.loc;rw[z,zr]at ho;cases ho;rw[jz]at hd;cases hd
theorem Inv.gL (I:Inv X pins σ H s):s.heap.FunFrames X.base X.outer:=by
 have all:∀(l:List Env),(∀b∈f_ l,b∈X.fs)->X.s₀.heap.FunFrames X.base l->s.heap.FunFrames X.base l:=by
  intro l
  induction l with
  |nil=>intro _ _;trivial
  |cons env r ih=>intro hs hl;obtain⟨hk,⟨L,o,hf,hn,ho,hd⟩,hr⟩:=hl;have hL:L∈X.fs:=hs L (by unfold f_;rw[q8,hf];exact q9);obtain⟨sl,e⟩:=I.base.slot L o ho (I.ok.DC L hL) hL λ z=>I.ok.DN L z hL;exact⟨hk,⟨L,_,hf,hn,e,hd⟩,ih (λ b hb=>hs b (by unfold f_;rw[q8,hf];exact m7 _ hb)) hr⟩
 exact all X.outer (λ _ hb=>hb) I.ok.gL
theorem Inv.stack (I:Inv X pins σ H s):s.heap.FunFrames X.base X.stack:=by
 rcases I.ok.Oo with e|⟨e,hf⟩
 ·rw[e];exact I.gL
 ·rw[e];obtain⟨m,hn,_⟩:=I.loc;refine .cons (by rw[I.ok.kind];decide) hf hn ?_ I.gL;exact Heap.get?_none_of_le (D3 I.ok.vX I.ok.above)
theorem Inv.mI (I:Inv X pins σ H s):∀b∈f_ X.stack,b∈X.env.locals::X.fs:=λ b hb=>by
 rcases I.ok.Oo with e|⟨e,hf⟩
 ·rw[e]at hb;exact m7 _ hb
 ·rw[e]at hb;unfold f_ at hb;rw[q8,hf]at hb;exact hb
theorem Inv.gZ (I:Inv X pins σ H s):∀b∈f_ X.stack,H b=none:=λ b hb=>by
 rcases C3.mp (I.mI b hb)with e|hb
 ·rw[e];exact I.free
 ·obtain⟨_,o,ho,_⟩:=I.ok.gL.mem hb;exact I.base.free b o ho (I.ok.DC b hb) λ z=>I.ok.DN b z hb
theorem Inv.step {g':Array GenState}{t':Nat}{d':Drawn}{ch:List Addr}(I:Inv X pins σ H s) (EI:∀b∈ch,(b∈X.ex\/X.s₀.heap.objs.size<=b)/\b≠X.env.locals/\(∀x c,X.env.cells.lookup x=some c->c≠b)/\∀p∈X.pn++pins,p.1≠b) (keep:∀b o,b≠X.env.locals->b∉X.fs->b∉ch->s.heap.get? b=some o->H b=none->h'.get? b=some o) (slot:∀b o,b≠X.env.locals->b∈X.fs->b∉ch->s.heap.get? b=some o->H b=none->∃sl,h'.get? b=some {o with slots:=sl}) (free:∀b o,b∉ch->s.heap.get? b=some o->H b=none->H' b=none) (there:∀b o,b∉ch->s.heap.get? b=some o->∃o',h'.get? b=some o') (dZ:∀b xs,H b=some (.tup xs)->H' b=some (.tup xs)) (dD:∀b o u,H b=some (.ck o u)->H' b=some (.ck o u)) (d_:∀b ps,H b=some (.lM ps)->∃more,H' b=some (.lM (ps++more))) (ns:∀m,s.heap.Ns X.env.locals m->h'.Ns X.env.locals m) (aK:dX X.prog X.w H' h') (hg:AllBare g'):Inv X pins σ H' {s with heap:=h',gens:=g',drawn:=d',toks:=t'}:=by
 have VH:∀b o,X.s₀.heap.get? b=some o->b≠X.env.locals:=λ b o e=>C7 (u3 (C8 e) I.ok.above);have R3:∀b o,X.s₀.heap.get? b=some o->b∉X.ex->b∉ch:=λ b o e hx hb=>by
  rcases(EI b hb).1 with z|z
  ·exact hx z
  ·exact absurd (u3 (C8 e) z) (C1 _)
 have cellK:∀x c,X.env.cells.lookup x=some c->∀v,s.heap.IsCell c v->h'.IsCell c v:=λ x c e v ⟨o,ho,hd⟩=>by
  have PK:c∉ch:=λ z=>(EI c z).2.2.1 x c e rfl;by_cases hc:c∈X.fs
  ·obtain⟨sl,q⟩:=slot c o (I.Ai x c e) hc PK ho (I.dr x c e);exact⟨_,q,hd⟩
  ·exact⟨o,keep c o (I.Ai x c e) hc PK ho (I.dr x c e),hd⟩
 refine⟨I.ok,I.os,hg,⟨λ b o e n hb hx=>?_,λ b o e n hb hx=>?_,λ b o e n hx=>?_,λ b o e hx=>?_,λ b xs e=>dZ b xs (I.base.dZ b xs e),λ b o xs e=>dD b o xs (I.base.dD b o xs e),λ b ps e=>?_⟩,?_,λ x c e=>?_,?_,λ x c e=>?_,λ p hp=>?_,aK,I.len⟩
 ·exact keep b o (VH b o e) hb (R3 b o e hx) (I.base.keep b o e n hb hx) (I.base.free b o e n hx)
 ·obtain⟨sl,e1⟩:=I.base.slot b o e n hb hx;obtain⟨Bc,e2⟩:=slot b _ (VH b o e) hb (R3 b o e hx) e1 (I.base.free b o e n hx);exact⟨Bc,e2⟩
 ·obtain⟨o',e1⟩:=I.base.there b o e hx;exact free b o' (R3 b o e hx) e1 (I.base.free b o e n hx)
 ·obtain⟨o',e1⟩:=I.base.there b o e hx;exact there b o' (R3 b o e hx) e1
 ·obtain⟨m1,e1⟩:=I.base.d_ b ps e;obtain⟨m2,e2⟩:=d_ b _ e1;exact⟨m1++m2,by rw[e2,Array.append_assoc]⟩
 ·obtain⟨m,hn,hl⟩:=I.loc;refine⟨m,ns m hn,λ i x v e1 e2 e3=>?_⟩;obtain⟨u,r,l⟩:=hl i x v e1 e2 e3;refine⟨u,r,?_⟩;rcases l with l|⟨k,c,e,z⟩
  ·exact .inl l
  ·exact .inr ⟨k,c,e,cellK x c e _ z⟩
 ·obtain⟨v,z⟩:=I.cell x c e;exact⟨v,cellK x c e v z⟩
 ·obtain⟨m,⟨o,_,_,ho,_⟩,_⟩:=I.loc;exact free _ o (λ z=>(EI _ z).2.1 rfl) ho I.free
 ·obtain⟨v,o,ho,hd⟩:=I.cell x c e;exact free c o (λ z=>(EI c z).2.2.1 x c e rfl) ho (I.dr x c e)
 ·obtain⟨e,n,ne,nf,d⟩:=I.pin p hp;have PK:p.1∉ch:=λ z=>(EI p.1 z).2.2.2 p hp rfl;exact⟨keep p.1 p.2 ne nf PK e n,free p.1 p.2 PK e n,ne,nf,d⟩
theorem Inv.un {t':Nat}(I:Inv X pins σ H s)(u:Un X.fs [] H H' s.heap h')(aK:dX X.prog X.w H' h'):Inv X pins σ H' {s with heap:=h',toks:=t'}:=by
 obtain⟨m,⟨o,es,ep,ho,r⟩,_⟩:=id I.loc;obtain⟨sl,hL⟩:=u.any ho I.free (by simp);exact I.step (g':=s.gens) (d':=s.drawn) (ch:=[]) (λ _ z=>nomatch z) (λ b o _ hb _ e n=>u.keep b o e n hb (by simp)) (λ b o _ hb _ e n=>u.slot b o e n hb (by simp)) (λ b o _ e n=>u.free b o e n (by simp)) (λ b o _ e=>u.there b o e (by simp)) u.dZ u.dD u.d_ (λ m' hm=>by
  obtain⟨o',es',UX,zr,r'⟩:=hm;rw[ho]at zr;cases zr;exact⟨_,es',UX,hL,r'⟩) aK I.bare
theorem Inv.call {g':Array GenState}{t':Nat}{d':Drawn}{ch:List Addr}(I:Inv X pins σ H s)(u:Un (f_ X.stack) ch H H' s.heap h')(aK:dX X.prog X.w H' h')(hg:AllBare g') (EI:∀b∈ch,(b∈X.ex\/X.s₀.heap.objs.size<=b)/\b≠X.env.locals/\(∀x c,X.env.cells.lookup x=some c->c≠b)/\∀p∈X.pn++pins,p.1≠b):Inv X pins σ H' {s with heap:=h',gens:=g',drawn:=d',toks:=t'}:=by
 obtain⟨m,⟨o,es,ep,ho,r⟩,_⟩:=id I.loc;obtain⟨sl,hL⟩:=u.any ho I.free λ z=>(EI _ z).2.1 rfl;exact I.step (ch:=ch) EI (λ b o hL hb hc e n=>u.keep b o e n (λ z=>(C3.mp (I.mI b z)).elim hL hb) hc) (λ b o _ _ hc e n=>u.any e n hc) (λ b o hc e n=>u.free b o e n hc) (λ b o hc e=>u.there b o e hc) u.dZ u.dD u.d_ (λ m' hm=>by
  obtain⟨o',es',UX,zr,r'⟩:=hm;rw[ho]at zr;cases zr;exact⟨_,es',UX,hL,r'⟩) aK hg
theorem Inv.turned {t':Nat}{it:Addr}(I:Inv X pins σ H s)(k:∀b o,b≠it->s.heap.get? b=some o->h'.get? b=some o)(hn:H it=none)(hL:it≠X.env.locals) (h1:it∈X.ex\/X.s₀.heap.objs.size<=it) (h2:∀x c,X.env.cells.lookup x=some c->c≠it) (h3:∀p∈X.pn++pins,p.1≠it):Inv X pins σ H {s with heap:=h',toks:=t'}:=by
 have PH:∀b u,H b=some u->b≠it:=λ b u e z=>by rw[z,hn]at e;cases e
 refine I.step (g':=s.gens) (d':=s.drawn) (ch:=[it]) (λ b hb=>?_) (λ b o _ _ hc e _=>k b o (λ z=>hc (by simp[z])) e) (λ b o _ _ hc e _=>⟨o.slots,k b o (λ z=>hc (by simp[z])) e⟩) (λ _ _ _ _ n=>n)
  (λ b o hc e=>⟨o,k b o (λ z=>hc (by simp[z])) e⟩) (λ _ _ e=>e) (λ _ _ _ e=>e) (λ b ps e=>⟨#[],by rw[e];simp⟩) (λ m hm=>?_) (λ b u e=>?_) I.bare
 ·have e:b=it:=by simpa using hb
  subst e;exact⟨h1,hL,h2,h3⟩
 ·obtain⟨o,es,ep,ho,r⟩:=hm;exact⟨o,es,ep,k _ o (H9 hL) ho,r⟩
 ·refine(I.aK b u e).eK (λ c v hc q=>k c v ?_ q) (λ _ q=>q) λ _ _ q=>q;rcases hc with z|z
  ·rw[z];exact PH b u e
  ·exact PH c _ z
theorem Inv.tok (I:Inv X pins σ H s)(t:Nat):Inv X pins σ H {s with toks:=t}:=I.un (h':=s.heap) (t':=t) Un.refl I.aK
theorem Inv.kept {t':Nat}(I:Inv X pins σ H s)(k:∀b u,s.heap.get? b=some u->h'.get? b=some u):Inv X pins σ H {s with heap:=h',toks:=t'}:=I.un (Un.kept k) (I.aK.kept k)
theorem Inv.laid {a:Addr}{o:HO}{t':Nat}(I:Inv X pins σ H s)(k:∀b u,s.heap.get? b=some u->h'.get? b=some u)(hp:s.heap.objs.size<=a)(new:br X.prog X.w (upd H a o) h' a o):Inv X pins σ (upd H a o) {s with heap:=h',toks:=t'}:=I.un (Un.laid k hp (I.aK.fresh hp)) (I.aK.laid k hp new)
theorem Inv.write {x e:Addr}{o:HO}{t':Nat}(I:Inv X pins σ H s)(mu:Ry (H x))(he:e=x\/H e=some (.own x))(k:∀b u,b≠e->s.heap.get? b=some u->h'.get? b=some u)(NZ:∃u,h'.get? e=some u) (new:br X.prog X.w (upd H x o) h' x o):Inv X pins σ (upd H x o) {s with heap:=h',toks:=t'}:=I.un (Un.write mu he k NZ) (I.aK.write mu he k NZ new)
theorem Inv.weak {σ':List (Option V)}(I:Inv X pins σ H s)(hl:σ'.length=σ.length)(w:∀(i:Nat) v,σ'[i]?=some (some v)->σ[i]?=some (some v)):Inv X pins σ' H s:=
 ⟨I.ok,I.os,I.bare,I.base,let⟨m,hn,Dr⟩:=I.loc;⟨m,hn,λ i x v e1 e2 e3=>Dr i x v e1 (w i v e2) e3⟩,I.cell,I.free,I.dr,I.pin,I.aK,hl.trans I.len⟩
theorem Inv.jl {pins':List (Addr×Obj)}(I:Inv X pins σ H s)(h:∀p∈pins',s.heap.get? p.1=some p.2/\H p.1=none/\p.1≠X.env.locals/\p.1∉X.fs/\∀v,p.2.data≠.cell v):Inv X pins' σ H s:=
 ⟨I.ok,I.os,I.bare,I.base,I.loc,I.cell,I.free,I.dr,λ p hp=>(A9.mp hp).elim (λ z=>I.pin p (m9 _ z)) (h p),I.aK,I.len⟩
theorem gD{N:List Str}(hN:N.Nodup){i j:Nat}{x:Str}(a:N[i]?=some x)(b:N[j]?=some x):i=j:=by obtain⟨h1,e1⟩:=i4.mp a;obtain⟨h2,e2⟩:=i4.mp b;exact(getElem_inj hN).mp (e1.trans e2.symm)
theorem pA{M:Model}{A:Around}{E:Value->Shared->Prop}{i:Nat}{x:Str}{v:V}{u:Value}{Q:Unit->Shared->Prop}(I:Inv X pins σ H s)(hN:X.N.Nodup)(hi:X.N[i]?=some x)(hx:Loc X.env.scope x)(r:RelV v u) (h:∀s',Inv X pins (σ.set i (some v)) H s'->(∃a,Heap.SameBut a s.heap s'.heap/\(a=X.env.locals\/X.env.cells.lookup x=some a))->Q () s') (hf:X.fn x=true\/X.env.scope.names.lookup x=some .local:=by first|exact .inl rfl|exact .inr rfl|assumption):wpAny M A (storeName X.env x u) Q E s:=by
 obtain⟨m,hn,hl⟩:=id I.loc;have MN:(X.env.scope.kind==.class||(X.env.scope.kind==.module&&X.env.locals != X.env.globals))=false:=by rw[I.ok.kind];rfl
 have V6:i < σ.length:=by rw[I.len];exact(i4.mp hi).1
 have Ai:=I.Ai;have tracked:∀{a:Addr} {h':Heap},(∃o,s.heap.get? a=some o/\H a=none)->Heap.SameBut a s.heap h'->dX X.prog X.w H h':=λ{a h'} ha hs b ob e=>by
  obtain⟨_,_,Jy⟩:=ha;refine(I.aK b ob e).eK (λ c w' hc q=>(hs.2 c ?_).trans q) (λ _ q=>q) λ _ _ q=>q;rintro rfl;rcases hc with rfl|hc
  ·rw[Jy]at e;cases e
  ·rw[Jy]at hc;cases hc
 rcases hx with hk|hk
 ·refine wpAny_storeName_local hk hn (λ h' Ib hs=>?_) MN;obtain⟨oL,_,_,NT,_⟩:=id hn;refine h _ ⟨I.ok,I.os,I.bare,⟨λ b o e n hb hx=>?_,λ b o e n hb hx=>?_,I.base.free,λ b o e hx=>?_,I.base.dZ,I.base.dD,I.base.d_⟩,⟨_,Ib,λ j y v' e1 e2 e3=>?_⟩,λ y c e=>?_,I.free,I.dr,λ p hp=>?_,tracked ⟨oL,NT,I.free⟩ hs,by simpa using I.len⟩ ⟨_,hs,.inl rfl⟩
  ·exact(hs.2 b (C7 (u3 (C8 e) I.ok.above))).trans (I.base.keep b o e n hb hx)
  ·obtain⟨sl,e1⟩:=I.base.slot b o e n hb hx;exact⟨sl,(hs.2 b (C7 (u3 (C8 e) I.ok.above))).trans e1⟩
  ·obtain⟨o',e1⟩:=I.base.there b o e hx;exact⟨o',(hs.2 b (C7 (u3 (C8 e) I.ok.above))).trans e1⟩
  ·by_cases hj:j=i
   ·subst hj;rw[hi]at e1;cases e1;rw[k7 V6]at e2;cases e2;exact⟨u,r,.inl ⟨hk,by simp⟩⟩
   ·rw[n6 (H9 hj)]at e2;obtain⟨u',r',q⟩:=hl j y v' e1 e2 e3;refine⟨u',r',?_⟩;rcases q with⟨k,e⟩|⟨k,c,e,z⟩
    ·refine .inl ⟨k,?_⟩;have:y≠x:=λ e=>hj (gD hN e1 (e▸hi));simp[this,e]
    ·exact .inr ⟨k,c,e,z.sameBut hs (Ai y c e)⟩
  ·obtain⟨w',z⟩:=I.cell y c e;exact⟨w',z.sameBut hs (Ai y c e)⟩
  ·obtain⟨e,n,ne,nf,d⟩:=I.pin p hp;exact⟨(hs.2 p.1 ne).trans e,n,ne,nf,d⟩
 ·have UC:X.fn x=true:=by
   rcases hf with z|z
   ·exact z
   ·rw[z]at hk;cases hk
  obtain⟨c,hc⟩:=I.ok.has x (.inl hk);obtain⟨w',z⟩:=I.cell x c hc;refine wpAny_storeName_cell I.ok.kind hk hc z (λ h' MP hs=>?_);obtain⟨oc,V0,Uw⟩:=id z;refine h {s with heap:=h'} ⟨I.ok,I.os,I.bare,⟨λ b o e n hb hx=>?_,λ b o e n hb hx=>?_,I.base.free,λ b o e hx=>?_,I.base.dZ,I.base.dD,I.base.d_⟩,⟨m,hn.sameBut hs (H9 (Ai x c hc)),λ j y v' e1 e2 e3=>?_⟩,λ y c' e=>?_,I.free,I.dr,λ p hp=>?_,tracked ⟨oc,V0,I.dr x c hc⟩ hs,by simpa using I.len⟩ ⟨c,hs,.inr hc⟩
  ·exact(hs.2 b (C7 (u3 (C8 e) (I.ok.Nt x c UC hc)))).trans (I.base.keep b o e n hb hx)
  ·obtain⟨sl,e1⟩:=I.base.slot b o e n hb hx;exact⟨sl,(hs.2 b (C7 (u3 (C8 e) (I.ok.Nt x c UC hc)))).trans e1⟩
  ·obtain⟨o',e1⟩:=I.base.there b o e hx;exact⟨o',(hs.2 b (C7 (u3 (C8 e) (I.ok.Nt x c UC hc)))).trans e1⟩
  ·by_cases hj:j=i
   ·subst hj;rw[hi]at e1;cases e1;rw[k7 V6]at e2;cases e2;exact⟨u,r,.inr ⟨.inl hk,c,hc,MP⟩⟩
   ·rw[n6 (H9 hj)]at e2;obtain⟨u',r',q⟩:=hl j y v' e1 e2 e3;refine⟨u',r',?_⟩;rcases q with q|⟨k,c',e,z'⟩
    ·exact .inl q
    ·refine .inr ⟨k,c',e,z'.sameBut hs ?_⟩;rintro rfl;exact hj (gD hN e1 (I.ok.inj _ _ _ e hc▸hi))
  ·by_cases Sh:c'=c
   ·subst Sh;exact⟨_,MP⟩
   ·obtain⟨w2,z2⟩:=I.cell y c' e;exact⟨w2,z2.sameBut hs Sh⟩
  ·obtain⟨e,n,ne,nf,d⟩:=I.pin p hp;refine⟨(hs.2 p.1 ?_).trans e,n,ne,nf,d⟩;intro q;rw[q,V0]at e;have q':oc=p.2:=A6 e;exact d w' (by rw[<- q'];exact Uw)
theorem gj{M:Model}{A:Around}{E:Value->Shared->Prop}{i:Nat}{x:Str}{v:V}{u:Value}{Q:Unit->Shared->Prop}(I:Inv X pins σ H s)(hN:X.N.Nodup)(hi:X.N[i]?=some x)(hx:Loc X.env.scope x)(r:RelV v u) (h:∀s',Inv X pins (σ.set i (some v)) H s'->Q () s') (hf:X.fn x=true\/X.env.scope.names.lookup x=some .local:=by first|exact .inl rfl|exact .inr rfl|assumption):wpAny M A (storeName X.env x u) Q E s:=
 pA I hN hi hx r (λ s' I' _=>h s' I') hf
theorem Inv.qf {s':Shared}{ch:List Addr}(I:Inv X pins σ H s)(ho:s'.os=s.os)(u:Un (f_ X.stack) ch H H' s.heap s'.heap)(aK:dX X.prog X.w H' s'.heap)(hg:AllBare s'.gens) (EI:∀b∈ch,(b∈X.ex\/X.s₀.heap.objs.size<=b)/\b≠X.env.locals/\(∀x c,X.env.cells.lookup x=some c->c≠b)/\∀p∈X.pn++pins,p.1≠b):Inv X pins σ H' s':=by obtain⟨h',g',d',t',o'⟩:=s';have e:o'=s.os:=ho;subst e;exact I.call (g':=g') (t':=t') (d':=d') u aK hg EI
end
abbrev XK:=Value->Option Addr->Hp->Prop
abbrev St:=List (Option V)
abbrev VK:=V->Hp->Prop
abbrev TE:=St->Hp->VK->Prop
abbrev TT:=St->Hp->(Bool->Hp->Prop)->Prop
abbrev TA:=St->Hp->(List V->Hp->Prop)->Prop
structure Ends where
 nx:St->Hp->Prop
 rt:VK
 bk:St->Hp->Prop:=λ _ _=>False
 ct:St->Hp->Prop:=λ _ _=>False
abbrev TS:=Ends->St->Hp->Prop
def EP(X:Cx)(pins:List (Addr×Obj))(σ:St)(Q:VK)(u:Value)(s':Shared):Prop:=∃v H',Inv X pins σ H' s'/\RelV v u/\Q v H'
def TP(X:Cx)(pins:List (Addr×Obj))(σ:St)(Q:Bool->Hp->Prop)(b:Bool)(s':Shared):Prop:=∃H',Inv X pins σ H' s'/\Q b H'
def AP(X:Cx)(pins:List (Addr×Obj))(σ:St)(Q:List V->Hp->Prop)(us:List Value)(s':Shared):Prop:=∃vs H',Inv X pins σ H' s'/\Vals vs us/\Q vs H'
def SP(X:Cx)(pins:List (Addr×Obj))(D:Ends)(f:Flow)(s':Shared):Prop:=
 match f with
 | .next=>∃σ' H',Inv X pins σ' H' s'/\D.nx σ' H'
 | .brk=>∃σ' H',Inv X pins σ' H' s'/\D.bk σ' H'
 | .cont=>∃σ' H',Inv X pins σ' H' s'/\D.ct σ' H'
 | .ret u=>∃v σ' H',Inv X pins σ' H' s'/\RelV v u/\D.rt v H'
def PE(X:Cx)(e:Expr)(t:TE):Prop:=
 ∀(pins:List (Addr×Obj)) (s:Shared) (σ:St) (H:Hp) (Q:VK),Inv X pins σ H s->t σ H Q->wpAny (model X.prog X.w) X.A (eval e X.env) (EP X pins σ Q) X.xe s
def PT(X:Cx)(e:Expr)(t:TT):Prop:=
 ∀(pins:List (Addr×Obj)) (s:Shared) (σ:St) (H:Hp) (Q:Bool->Hp->Prop),Inv X pins σ H s->t σ H Q->wpAny (model X.prog X.w) X.A (isTrue e X.env (eval e X.env)) (TP X pins σ Q) X.xe s
def PW(X:Cx)(e:Expr)(t:TT):Prop:=
 ∀(whole:Sem Value) (pins:List (Addr×Obj)) (s:Shared) (σ:St) (H:Hp) (Q:Bool->Hp->Prop),Inv X pins σ H s->t σ H Q->wpAny (model X.prog X.w) X.A (isTrue e X.env whole) (TP X pins σ Q) X.xe s
theorem PW.pt {X:Cx}{e:Expr}{t:TT}(h:PW X e t):PT X e t:=h _
def PA(X:Cx)(es:List Expr)(t:TA):Prop:=
 ∀(pos:Pos) (pins:List (Addr×Obj)) (s:Shared) (σ:St) (H:Hp) (Q:List V->Hp->Prop),Inv X pins σ H s->t σ H Q->wpAny (model X.prog X.w) X.A (spliced (backTo pos (starEach es X.env))) (AP X pins σ Q) X.xe s
def PS(X:Cx)(st:Stmt)(t:TS):Prop:=
 ∀(pins:List (Addr×Obj)) (s:Shared) (σ:St) (H:Hp) (D:Ends),Inv X pins σ H s->t D σ H->wpAny (model X.prog X.w) X.A (exec st X.env) (SP X pins D) X.xe s
def nZ(X:Cx)(st:List Stmt)(t:TS):Prop:=
 ∀(pins:List (Addr×Obj)) (s:Shared) (σ:St) (H:Hp) (D:Ends),Inv X pins σ H s->t D σ H->wpAny (model X.prog X.w) X.A (execs st X.env) (SP X pins D) X.xe s
theorem bZ{α:Type}{t:Sem α}{Q Q':α->Shared->Prop}{M:Model}{A:Around}{E:Value->Shared->Prop}{s:Shared}(h:wpAny M A t Q E s)(hQ:∀a s,Q a s->Q' a s):wpAny M A t Q' E s:=G4 h hQ λ _ _ x=>x
section
variable {X:Cx}
def Od(i:Nat):TE:=λ σ H Q=>∃v,σ[i]?=some (some v)/\Q v H
def tC(v:V):TE:=λ _ H Q=>Q v H
theorem uU{i:Nat}{x:Str}{pos:Pos}(hN:X.N[i]?=some x)(hv:IU X.env.scope x)(hd:(x==("__debug__":Str))=false:=by decide)(hcd:(x==("__classdict__":Str))=false:=by decide):PE X (.Name x pos) (Od i):=by
 intro pins s σ H Q I h;obtain⟨v,e,h⟩:=h;obtain⟨m,hn,hl⟩:=I.loc;obtain⟨u,r,l⟩:=hl i x v hN e hv;have fin:EP X pins σ Q u s:=⟨v,H,I,r,h⟩;rcases l with⟨hk,hm⟩|⟨hk,c,hc,xB⟩
 ·exact wpAny_Name (wpAny_loadName_local I.ok.kind hk hn hm fin) hd
 ·rcases hk with hk|hk
  ·exact wpAny_Name (wpAny_loadName_cell I.ok.kind hk hc xB fin) hd
  ·exact wpAny_Name (wpAny_loadName_free I.ok.kind hk hc xB fin hcd) hd
theorem LF{i j pos}:PE X (.Constant (.int i) j pos) (tC (.int i)):=λ _ _ _ H _ I h=>wpAny_Constant_int ⟨.int i,H,I.tok _,⟨_,rfl⟩,h⟩
theorem O8{b j pos}:PE X (.Constant (.bool b) j pos) (tC (.bl b)):=λ _ _ _ H _ I h=>Constant_bool ⟨.bl b,H,I,rfl,h⟩
theorem LC{j pos}:PE X (.Constant .none j pos) (tC .aY):=λ _ _ _ H _ I h=>Constant_none ⟨.aY,H,I,rfl,h⟩
theorem Lz{x j pos}:PE X (.Constant (.str x) j pos) (tC (.str x)):=λ _ _ _ H _ I h=>Calls.Constant_str ⟨.str x,H,I.tok _,⟨_,rfl⟩,h⟩
def Gl(X:Cx)(x:Str):Prop:=X.env.kindOf x=some .globalImplicit
theorem dC{E:Value->Shared->Prop}{pins:List (Addr×Obj)}{s:Shared}{σ:St}{H:Hp}{x:Str}{u:Value}{pos:Pos}{Q:Value->Shared->Prop}(I:Inv X pins σ H s)(hg:Gl X x)(hm:X.mg x=some u)(h:Q u s) (hd:(x==("__debug__":Str))=false:=by decide):wpAny (model X.prog X.w) X.A (eval (.Name x pos) X.env) Q E s:=
 Calls.Name_function_global I.ok.kind hg (Calls.loadGlobal_global (by rw[I.ok.glob];exact I.mod.glob.keeps I.bk) hm h) hd
theorem j'{E:Value->Shared->Prop}{pins:List (Addr×Obj)}{s:Shared}{σ:St}{H:Hp}{x:Str}{u:Value}{pos:Pos}{Q:Value->Shared->Prop}(I:Inv X pins σ H s)(hg:Gl X x)(hm:X.mg x=none)(hv:bootBuiltins x=some u)(h:Q u s) (hn:x≠"__name__":=by decide) (hd:(x==("__debug__":Str))=false:=by decide):wpAny (model X.prog X.w) X.A (eval (.Name x pos) X.env) Q E s:=by obtain⟨mb,h1,h2⟩:=I.mod.blt;exact Calls.Name_function_global I.ok.kind hg (Calls.loadGlobal_builtin (by rw[I.ok.glob];exact I.mod.glob.keeps I.bk) hm (by rw[I.ok.blt];exact h1.keeps I.bk) ((h2 x hn).trans hv) h) hd
theorem GY{x:Str}{v:V}{u:Value}{pos:Pos}(hg:Gl X x)(hm:X.mg x=some u)(r:RelV v u)(hd:(x==("__debug__":Str))=false:=by decide):PE X (.Name x pos) (tC v):=
 λ _ _ _ H _ I h=>dC I hg hm ⟨v,H,I,r,h⟩ hd
variable {a b:Expr}{ta tb:TE}{pos:Pos}
def tB(t:TE):TT:=λ σ H Q=>t σ H λ x H1=>∃c,x=.bl c/\Q c H1
theorem Lq{e:Expr}{t:TE}(h:PE X e t)(he:∀whole,isTrue e X.env whole=(do let v <- whole;standAt e.pos;holding [v] (truthy v)):=by intro _;rfl):PT X e (tB t):=by intro pins s σ H Q I hw;refine isTrue_plain (bZ (h pins s σ H _ I hw) λ v s1 ⟨x,H1,I1,r1,q1⟩=>?_) (he _);obtain⟨d,rfl,q⟩:=q1;cases r1;exact x8 ⟨H1,I1,q⟩
variable {tA RO:TT}{rest:List Expr}
def S6(t u:TT):TT:=λ σ H Q=>t σ H λ c H1=>if c=true then u σ H1 Q else Q false H1
def W5(t u:TT):TT:=λ σ H Q=>t σ H λ c H1=>if c=true then Q true H1 else u σ H1 Q
def S0(t:TT):TT:=λ σ H Q=>t σ H λ c H1=>Q (!c) H1
theorem GK(ha:PT X a tA):PW X (.BoolOp .And [a] pos) tA:=by
 intro wh pins s σ H Q I h;refine isTrue_and (bZ (ha pins s σ H Q I h) λ c s1 e=>?_);cases c with
 |true=>exact isTrue_and_nil e
 |false=>exact e
theorem Ln(ha:PT X a tA):PW X (.BoolOp .Or [a] pos) tA:=by
 intro wh pins s σ H Q I h;refine isTrue_or (bZ (ha pins s σ H Q I h) λ c s1 e=>?_);cases c with
 |false=>exact isTrue_or_nil e
 |true=>exact e
theorem Lp(ha:PT X a tA)(hb:PW X (.BoolOp .And (b::rest) pos) RO):PW X (.BoolOp .And (a::b::rest) pos) (S6 tA RO):=by
 intro wh pins s σ H Q I h;refine isTrue_and (bZ (ha pins s σ H _ I h) λ c s1 ⟨H1,I1,q1⟩=>?_);cases c with
 |true=>exact hb wh pins s1 σ H1 Q I1 q1
 |false=>exact⟨H1,I1,q1⟩
theorem O0(ha:PT X a tA)(hb:PW X (.BoolOp .Or (b::rest) pos) RO):PW X (.BoolOp .Or (a::b::rest) pos) (W5 tA RO):=by
 intro wh pins s σ H Q I h;refine isTrue_or (bZ (ha pins s σ H _ I h) λ c s1 ⟨H1,I1,q1⟩=>?_);cases c with
 |true=>exact⟨H1,I1,q1⟩
 |false=>exact hb wh pins s1 σ H1 Q I1 q1
theorem Lr(ha:PT X a tA):PT X (.UnaryOp .Not a pos) (S0 tA):=by intro pins s σ H Q I h;exact isTrue_not (ha pins s σ H (λ c H1=>Q (!c) H1) I h)
def Om(ta tb:TE):TE:=λ σ H Q=>ta σ H λ x H1=>∃c,x=.bl c/\if c=true then tb σ H1 Q else Q (.bl false) H1
def Oh(ta:TE):TE:=λ σ H Q=>ta σ H λ x H1=>∃c,x=.bl c/\Q (.bl (!c)) H1
theorem LA{op}{t:TE}(h:PE X a t):PE X (.BoolOp op [a] pos) t:=λ pins s σ H Q I hw=>BoolOp_one (h pins s σ H Q I hw)
theorem LI(ha:PE X a ta)(hb:PE X (.BoolOp .And (b::rest) pos) tb):PE X (.BoolOp .And (a::b::rest) pos) (Om ta tb):=by
 intro pins s σ H Q I h;refine BoolOp_and (bZ (ha pins s σ H _ I h) λ v s1 ⟨x,H1,I1,r1,q1⟩=>?_);obtain⟨c,rfl,q1⟩:=q1;cases r1;refine x8 ?_;cases c with
 |true=>exact hb pins s1 σ H1 Q I1 q1
 |false=>exact⟨.bl false,H1,I1,rfl,q1⟩
theorem LB(ha:PE X a ta):PE X (.UnaryOp .Not a pos) (Oh ta):=by intro pins s σ H Q I h;refine UnaryOp_ (bZ (ha pins s σ H _ I h) λ v s1 ⟨x,H1,I1,r1,q1⟩=>?_);obtain⟨c,rfl,q1⟩:=q1;cases r1;exact not_of (x8 ⟨.bl (!c),H1,I1,rfl,q1⟩)
end
def fb(K:J8)(H:Hp)(a:Addr)(xs:List V):Prop:=
 Rd H a (.lst xs)\/
  ∃(o:Obj) (au:Array Value) (n:Nat),K.lookup a=some o/\o.cls=.type "list"/\o.dict=none/\o.data=.seq au n/\au.size<=sizeLine/\Vals xs au.toList
def gb(K:J8)(H:Hp)(a:Addr)(xs:List V):Prop:=
 Rd H a (.tup xs)\/
  ∃(o:Obj) (au:Array Value) (n:Nat),K.lookup a=some o/\o.cls=.type "tuple"/\o.data=.seq au n/\au.size<=sizeLine/\Vals xs au.toList
def U9:Value->Option V
 | .none=>some .aY
 | .bool b=>some (.bl b)
 | .int i _=>some (.int i)
 | .str x _=>some (.str x)
 | .bytes b _=>some (.Aj b)
 | .float b _=>some (.Sn b)
 | .ref a=>some (.ref a)
 | .type n=>some (.ty n)
 |_=>none
theorem RelV.abs {x:V}{u:Value}(r:RelV x u):U9 u=some x:=by
 cases x with
 |aY=>cases r;rfl
 |bl _=>cases r;rfl
 |int _=>obtain⟨t,rfl⟩:=r;rfl
 |str _=>obtain⟨t,rfl⟩:=r;rfl
 |Aj _=>obtain⟨t,rfl⟩:=r;rfl
 |Sn _=>obtain⟨t,rfl⟩:=r;rfl
 |ref _=>cases r;rfl
 |ty _=>cases r;rfl
theorem RelV.inj {x y:V}{u:Value}(r:RelV x u)(q:RelV y u):x=y:=A6 (r.abs.symm.trans q.abs)
theorem Vals.inj:∀{xs ys:List V} {us:List Value},Vals xs us->Vals ys us->xs=ys
 |_,_,_,.nil,.nil=>rfl
 |_,_,_,.cons r t,.cons r' t'=>by rw[r.inj r',Vals.inj t t']
section
variable {X:Cx}{pins:List (Addr×Obj)}{σ:St}{H:Hp}{s:Shared}{a:Addr}{xs ys:List V}
theorem fb.of {K:J8}(h:H a=some (.lst xs)):fb K H a xs:=.inl (.inl h)
theorem gb.of {K:J8}(h:H a=some (.tup xs)):gb K H a xs:=.inl (.inl h)
theorem Inv.list (I:Inv X pins σ H s)(h:fb X.K H a xs):∃au:List Value,Vals xs au/\PlainL s.heap a au.toArray/\xs.length<=sizeLine:=by
 rcases h with h|⟨o,au,n,hk,hc,hd,hs,hz,r⟩
 ·obtain⟨z,au,n,r,e⟩:=h.ok I.aK;exact⟨au,r,⟨_,n,e,rfl,rfl,rfl⟩,z⟩
 ·refine⟨au.toList,r,⟨o,n,I.jq a o hk,hc,hd,by simpa using hs⟩,?_⟩;have e:=r.length;simp only[o7]at e;omega
theorem Inv.tuple (I:Inv X pins σ H s)(h:gb X.K H a xs):∃au:List Value,Vals xs au/\IsTup s.heap a au.toArray/\xs.length<=sizeLine:=by
 rcases h with h|⟨o,au,n,hk,hc,hs,hz,r⟩
 ·obtain⟨z,au,r,p⟩:=h.ok I.aK;exact⟨au,r,p,z⟩
 ·refine⟨au.toList,r,⟨o,I.jq a o hk,hc,n,by simpa using hs⟩,?_⟩;have e:=r.length;simp only[o7]at e;omega
theorem Inv.sV (I:Inv X pins σ H s)(h:fb X.K H a xs)(h':fb X.K H a ys):xs=ys:=by
 obtain⟨au,r,⟨o,n,e,_,_,d⟩,_⟩:=I.list h;obtain⟨its',r',⟨o',n',e',_,_,d'⟩,_⟩:=I.list h';rw[e]at e';cases e';rw[d]at d';injection d' with d1 _
 have:au=its':=by simpa using G8 Array.toList d1
 subst this;exact r.inj r'
theorem Inv.pe (I:Inv X pins σ H s)(h:gb X.K H a xs)(h':gb X.K H a ys):xs=ys:=by
 obtain⟨au,r,⟨o,e,_,n,d⟩,_⟩:=I.tuple h;obtain⟨its',r',⟨o',e',_,n',d'⟩,_⟩:=I.tuple h';rw[e]at e';cases e';rw[d]at d';injection d' with d1 _
 have:au=its':=by simpa using G8 Array.toList d1
 subst this;exact r.inj r'
end
abbrev Cx.fX (X:Cx)(E:Value->Shared->Prop):Cx:={X with xe:=E}
abbrev Cx.sQ (X:Cx):Cx:=X.fX λ _ _=>False
theorem Cx.Ok.fX {X:Cx}(ok:X.Ok)(E:Value->Shared->Prop):(X.fX E).Ok:=
 ⟨ok.mod,ok.kind,ok.glob,ok.blt,ok.above,ok.inj,ok.has,ok.Nt,ok.hd,ok.frames,ok.Oo,ok.UU,ok.bs,ok.vX,ok.vb,ok.DN,ok.gL,ok.DC⟩
theorem Cx.Ok.dP {X:Cx}{E:Value->Shared->Prop}(ok:(X.fX E).Ok):X.Ok:=
 ⟨ok.mod,ok.kind,ok.glob,ok.blt,ok.above,ok.inj,ok.has,ok.Nt,ok.hd,ok.frames,ok.Oo,ok.UU,ok.bs,ok.vX,ok.vb,ok.DN,ok.gL,ok.DC⟩
section
variable {X:Cx}{pins:List (Addr×Obj)}{σ:St}{H:Hp}{s:Shared}{E:Value->Shared->Prop}
theorem Inv.fX (I:Inv X pins σ H s)(E:Value->Shared->Prop):Inv (X.fX E) pins σ H s:=⟨I.ok.fX E,I.os,I.bare,I.base,I.loc,I.cell,I.free,I.dr,I.pin,I.aK,I.len⟩
theorem Inv.dP (I:Inv (X.fX E) pins σ H s):Inv X pins σ H s:=⟨I.ok.dP,I.os,I.bare,I.base,I.loc,I.cell,I.free,I.dr,I.pin,I.aK,I.len⟩
theorem SP.dP {D:Ends}{f:Flow}{s':Shared}(h:SP (X.fX E) pins D f s'):SP X pins D f s':=by
 cases f with
 |next=>obtain⟨σ',H',I,q⟩:=h;exact⟨σ',H',I.dP,q⟩
 |brk=>obtain⟨σ',H',I,q⟩:=h;exact⟨σ',H',I.dP,q⟩
 |cont=>obtain⟨σ',H',I,q⟩:=h;exact⟨σ',H',I.dP,q⟩
 |ret u=>obtain⟨v,σ',H',I,r,q⟩:=h;exact⟨v,σ',H',I.dP,r,q⟩
theorem PE.sQ {e:Expr}{t:TE}(h:PE X.sQ e t):PE X e t:=λ pins s σ H Q I hw=>
 G4 (h pins s σ H Q (I.fX _) hw) (λ _ _ ⟨v,H',I',r,q⟩=>⟨v,H',I'.dP,r,q⟩) λ _ _ z=>False.elim z
theorem PT.sQ {e:Expr}{t:TT}(h:PT X.sQ e t):PT X e t:=λ pins s σ H Q I hw=>
 G4 (h pins s σ H Q (I.fX _) hw) (λ _ _ ⟨H',I',q⟩=>⟨H',I'.dP,q⟩) λ _ _ z=>False.elim z
theorem nZ.sQ {st:List Stmt}{t:TS}(h:nZ X.sQ st t):nZ X st t:=λ pins s σ H D I hw=>
 G4 (h pins s σ H D (I.fX _) hw) (λ _ _ q=>q.dP) λ _ _ z=>False.elim z
end
section
variable {X:Cx}{st:Stmt}{rest:List Stmt}{t u:TS}{e:Expr}{te:TE}{pos:Pos}
def Oj:TS:=λ D σ H=>D.nx σ H
def SW(t u:TS):TS:=λ D σ H=>t {D with nx:=u D} σ H
theorem GP:nZ X [] Oj:=λ _ _ σ H _ I h=>B4 ⟨σ,H,I,h⟩
theorem sN(h1:PS X st t)(h2:nZ X rest u):nZ X (st::rest) (SW t u):=by
 intro pins s σ H D I h;refine wpAny_execs_cons (bZ (h1 pins s σ H {D with nx:=u D} I h) λ f s1 q=>?_);cases f with
 |next=>obtain⟨σ',H',I',q⟩:=q;exact h2 pins s1 σ' H' D I' q
 |ret v=>exact q
 |brk=>exact q
 |cont=>exact q
theorem jj(h1:PS X st t):nZ X [st] t:=by
 intro pins s σ H D I h;refine wpAny_execs_cons (bZ (h1 pins s σ H D I h) λ f s1 q=>?_);cases f with
 |next=>exact B4 q
 |ret v=>exact q
 |brk=>exact q
 |cont=>exact q
theorem Inv.quiet {pins:List (Addr×Obj)}{σ:St}{H:Hp}{s:Shared}(I:Inv X pins σ H s):interactive X.env=false:=by simp[interactive,I.ok.kind]
def Ol(te:TE):TS:=λ D σ H=>te σ H λ _ H1=>D.nx σ H1
theorem qF(he:PE X e te)(hs:swapsWith e none pos.line X.env=pure false:=by rfl):PS X (.Expr e pos) (Ol te):=by intro pins s σ H D I h;exact wpAny_Expr_any (bZ (he pins s σ H _ I h) λ v s1 ⟨x,H1,I1,r1,q1⟩=>⟨σ,H1,I1,q1⟩) I.quiet hs
def SX(te:TE):TS:=λ D σ H=>te σ H D.rt
theorem uS(he:PE X e te):PS X (.Return (some e) pos) (SX te):=by intro pins s σ H D I h;exact wpAny_Return_some (bZ (he pins s σ H _ I h) λ v s1 ⟨x,H1,I1,r1,q1⟩=>⟨x,σ,H1,I1,r1,q1⟩)
def S2(c:TT)(t u:TS):TS:=λ D σ H=>c σ H λ b H1=>if b=true then t D σ H1 else u D σ H1
theorem O2{c:Expr}{a b:List Stmt}{tc:TT}(hc:PT X c tc)(ha:nZ X a t)(hb:nZ X b u):PS X (.If c a b pos) (S2 tc t u):=by
 intro pins s σ H D I h;refine wpAny_If (bZ (hc pins s σ H _ I h) λ d s1 ⟨H1,I1,q1⟩=>?_);cases d with
 |true=>exact ha pins s1 σ H1 D I1 q1
 |false=>exact hb pins s1 σ H1 D I1 q1
def J':TS:=λ _ _ _=>False
theorem yN{aL:List Stmt}:nZ X aL J':=λ _ _ _ _ _ _ h=>h.elim
end
abbrev TG:=V->St->Hp->(St->Hp->Prop)->Prop
abbrev ya:=List V->St->Hp->(St->Hp->Prop)->Prop
def PG(X:Cx)(target:Expr)(t:TG):Prop:=
 ∀(pins:List (Addr×Obj)) (s:Shared) (σ:St) (H:Hp) (v:V) (u:Value) (Q:St->Hp->Prop),Inv X pins σ H s->RelV v u->t v σ H Q->
  wpAny (model X.prog X.w) X.A (assign target X.env u) (λ _ s'=>∃σ' H',Inv X pins σ' H' s'/\Q σ' H') X.xe s
def ND(X:Cx)(ts:List Expr)(t:ya):Prop:=
 ∀(pins:List (Addr×Obj)) (s:Shared) (σ:St) (H:Hp) (vs:List V) (us:List Value) (Q:St->Hp->Prop),Inv X pins σ H s->Vals vs us->t vs σ H Q->
  wpAny (model X.prog X.w) X.A (assignInOrder ((assignEach ts X.env).map (·.2)) us) (λ _ s'=>∃σ' H',Inv X pins σ' H' s'/\Q σ' H') X.xe s
abbrev zR:=V->V->V->Hp->(Hp->Prop)->Prop
def rG(X:Cx)(t:zR):Prop:=
 ∀(pins:List (Addr×Obj)) (s:Shared) (σ:St) (H:Hp) (o i v:V) (ov iv u:Value) (Q:Hp->Prop),Inv X pins σ H s->RelV o ov->RelV i iv->RelV v u->t o i v H Q->
  wpAny (model X.prog X.w) X.A (setItem ov iv u) (λ _ s'=>∃H',Inv X pins σ H' s'/\Q H') X.xe s
abbrev Sy:=V->V->Hp->VK->Prop
def WD(X:Cx)(op:Operator)(t:Sy):Prop:=
 ∀(pins:List (Addr×Obj)) (s:Shared) (σ:St) (H:Hp) (x y:V) (v u:Value) (Q:VK),Inv X pins σ H s->RelV x v->RelV y u->t x y H Q->
  wpAny (model X.prog X.w) X.A (inplaceOp op v u) (EP X pins σ Q) X.xe s
section
variable {X:Cx}{pos:Pos}
def cL(i:Nat):TG:=λ v σ H Q=>Q (σ.set i (some v)) H
theorem lQ{i:Nat}{x:Str}(hN:X.N.Nodup)(hi:X.N[i]?=some x)(hx:Loc X.env.scope x)(hf:X.fn x=true\/X.env.scope.names.lookup x=some .local:=by first|exact .inl rfl|exact .inr rfl|assumption):PG X (.Name x pos) (cL i):=by intro pins s σ H v u Q I r h;exact wpAny_assign_Name (gj I hN hi hx r (λ s' I'=>⟨_,H,I',h⟩) hf)
def vz:ya:=λ vs σ H Q=>vs=[]/\Q σ H
def gK(t:TG)(u:ya):ya:=λ vs σ H Q=>∃v r,vs=v::r/\t v σ H λ σ' H'=>u r σ' H' Q
theorem wZ:ND X [] vz:=by intro pins s σ H vs us Q I r h;obtain⟨e,h⟩:=h;subst e;cases r;exact assignInOrder_nil ⟨σ,H,I,h⟩
theorem mY{e:Expr}{es:List Expr}{t:TG}{u:ya}(h1:PG X e t)(h2:ND X es u) (hs:(assignEach (e::es) X.env).map (·.2)=assign e X.env::(assignEach es X.env).map (·.2):=by rfl):ND X (e::es) (gK t u):=by
 intro pins s σ H vs us Q I r h;obtain⟨v,vr,e1,h⟩:=h;subst e1;cases r with
 |cons r rr=>rw[hs];refine assignInOrder_cons (bZ (h1 pins s σ H _ _ _ I r h) λ _ s1 ⟨σ1,H1,I1,q1⟩=>?_);exact h2 pins s1 σ1 H1 _ _ Q I1 rr q1
def zx(K:J8)(n:Nat)(t:ya):TG:=λ v σ H Q=>∃a xs,v=.ref a/\gb K H a xs/\xs.length=n/\t xs σ H Q
theorem Cc{es:List Expr}{k:Nat}{t:ya}{n:Nat}(hc:X.calm=true)(h:ND X es t) (hn:(assignEach es X.env).length=n:=by rfl) (hst:(assignEach es X.env).findIdx? (·.1)=none:=by rfl):PG X (.Tuple es k pos) (zx X.K n t):=by intro pins s σ H v u Q I r hw;obtain⟨a,xs,e1,hq,hl,hw⟩:=hw;subst e1;cases r;obtain⟨au,rv,ht,hz⟩:=I.tuple hq;refine assign_Tuple_tuple (I.ok.hd hc) ht (by simp[hn,<- hl,rv.length]) hst λ h' hx=>?_;have I1:Inv X pins σ H {s with heap:=h'}:=I.kept (t':=s.toks) λ b o e=>hx b o (C7 (C8 e)) e;exact h pins _ σ H xs _ Q I1 (by simpa using rv) hw
def UR(to ti:TE)(t:zR):TG:=λ v σ H Q=>to σ H λ o H1=>ti σ H1 λ i H2=>t o i v H2 λ H3=>Q σ H3
theorem Ly{o i:Expr}{to ti:TE}{t:zR}(ho:PE X o to)(hi:PE X i ti)(hs:rG X t) (ha:∀v,assign (.Subscript o i pos) X.env v=(do
   let ov <- holding [v] (eval o X.env)
   let iv <- holding [v,ov] (eval i X.env)
   standAt pos
   holding [v,ov,iv] (setItem ov iv v)
   release [v,ov,iv] []):=by intro _;rfl):PG X (.Subscript o i pos) (UR to ti t):=by
 intro pins s σ H v u Q I r h;rw[ha];refine G1 (B8 (bZ (ho pins s σ H _ I h) λ ov s1 ⟨x,H1,I1,r1,q1⟩=>?_));refine G1 (B8 (bZ (hi pins s1 σ H1 _ I1 q1) λ iv s2 ⟨y,H2,I2,r2,q2⟩=>?_));refine G1 (C5 (G1 (B8 (bZ (hs pins s2 σ H2 x y v ov iv u _ I2 r1 r2 r q2) λ _ s3 ⟨H3,I3,q3⟩=>?_))));exact wpAny_release ⟨σ,H3,I3,q3⟩
def AN(te:TE)(g:TG):TS:=λ D σ H=>te σ H λ x H1=>g x σ H1 D.nx
theorem Lw{tg e:Expr}{te:TE}{g:TG}(he:PE X e te)(hg:PG X tg g)(hs:swapsWithSole [tg] e pos.line X.env=pure false:=by rfl)(hw:swappedStores [tg] e X.env=pure none:=by rfl) (h1:(assignEach [tg] X.env).map (·.2)=[assign tg X.env]:=by rfl):PS X (.Assign [tg] e pos) (AN te g):=by intro pins s σ H D I h;refine wpAny_Assign_stores (bZ (he pins s σ H _ I h) λ v s1 ⟨x,H1,I1,r1,q1⟩=>?_) hs hw;rw[h1];exact bZ (hg pins s1 σ H1 x v _ I1 r1 q1) λ _ s2 q=>q
theorem Ls{i:Nat}{x:Str}{e:Expr}{te:TE}{pos':Pos}(hN:X.N.Nodup)(hi:X.N[i]?=some x)(hx:Loc X.env.scope x)(he:PE X e te)(hs:swapsWith e (some (.Name x pos')) pos.line X.env=pure false:=by rfl)(hf:X.fn x=true\/X.env.scope.names.lookup x=some .local:=by first|exact .inl rfl|exact .inr rfl|assumption):PS X (.Assign [.Name x pos'] e pos) (AN te (cL i)):=by intro pins s σ H D I h;refine wpAny_Assign_Name (bZ (he pins s σ H _ I h) λ v s1 ⟨y,H1,I1,r1,q1⟩=>?_) hs;exact gj I1 hN hi hx r1 (λ s2 I2=>⟨_,H1,I2,q1⟩) hf
def S5(i:Nat)(te:TE)(ti:Sy):TS:=λ D σ H=>∃x,σ[i]?=some (some x)/\te σ H λ y H1=>ti x y H1 λ z H2=>D.nx (σ.set i (some z)) H2
theorem Lv{i:Nat}{x:Str}{e:Expr}{te:TE}{op:Operator}{ti:Sy}{pos':Pos}(hN:X.N.Nodup)(hi:X.N[i]?=some x)(hx:Loc X.env.scope x)(he:PE X e te)(ho:WD X op ti)(hf:X.fn x=true\/X.env.scope.names.lookup x=some .local:=by first|exact .inl rfl|exact .inr rfl|assumption):PS X (.AugAssign (.Name x pos') op e pos) (S5 i te ti):=by
 intro pins s σ H D I h;obtain⟨v,e1,h⟩:=h;obtain⟨m,hn,hl⟩:=I.loc;have WQ:IU X.env.scope x:=by rcases hx with k|k;exact .inl k;exact .inr (.inl k)
 obtain⟨u,r,l⟩:=hl i x v hi e1 WQ;refine wpAny_AugAssign_Name ?_;have go:wpAny (model X.prog X.w) X.A (eval e X.env) (λ w s₂=>wpAny (model X.prog X.w) X.A (inplaceOp op u w) (λ r s₃=>wpAny (model X.prog X.w) X.A (storeName X.env x r) (λ _=>SP X pins D .next) X.xe s₃) X.xe s₂) X.xe s:=by refine bZ (he pins s σ H _ I h) λ w s1 ⟨y,H1,I1,r1,q1⟩=>?_;refine bZ (ho pins s1 σ H1 v y u w _ I1 r r1 q1) λ z s2 ⟨zv,H2,I2,r2,q2⟩=>?_;exact gj I2 hN hi hx r2 (λ s3 I3=>⟨_,H2,I3,q2⟩) hf
 rcases l with⟨hk,hm⟩|⟨hk,c,hc,xB⟩
 ·exact wpAny_loadName_local I.ok.kind hk hn hm go
 ·rcases hk with hk|hk
  ·exact wpAny_loadName_cell I.ok.kind hk hc xB go
  ·rcases hx with k|k
   ·have:X.env.scope.names.lookup x=some .free:=hk;rw[k]at this;cases this
   ·have:X.env.scope.names.lookup x=some .free:=hk;rw[k]at this;cases this
def Xz(f:Int->Int->Int):Sy:=λ x y H Q=>∃i j,x=.int i/\y=.int j/\Q (.int (f i j)) H
theorem MA:WD X .Add (Xz λ i j=>i+j):=by intro pins s σ H x y v u Q I r1 r2 h;obtain⟨i,j,e1,e2,q⟩:=h;subst e1;subst e2;obtain⟨t,rfl⟩:=r1;obtain⟨t',rfl⟩:=r2;exact iadd_int ⟨.int _,H,I.tok _,⟨_,rfl⟩,q⟩
end
section
variable {X:Cx}{pos:Pos}
def JY(c:TT)(tb:TS):TS:=λ D σ H=>∃W:Nat->St->Hp->Prop,(∃m,W m σ H)/\∀m σ H,W m σ H->
 c σ H λ b H1=>if b=true then ∃N:St->Hp->Prop,(∀σ' H',N σ' H'->∃m',m' < m/\W m' σ' H')/\tb {D with nx:=N,ct:=N,bk:=D.nx} σ H1 else D.nx σ H1
theorem BU{c:Expr}{body:List Stmt}{tc:TT}{tb:TS}(hp:PassesOwn (model X.prog X.w) X.A X.env X.xe)(hc:PT X c tc)(hb:nZ X body tb):PS X (.While c body [] pos) (JY tc tb):=by
 intro pins s σ H D I h;obtain⟨W,⟨m0,w0⟩,turn⟩:=h;refine wpAny_While (codeAny_whileLoop (λ n s'=>∃σ' H',Inv X pins σ' H' s'/\W n σ' H') ?_ m0 ⟨σ,H,I,w0⟩);rintro n s1 ⟨σ1,H1,I1,w1⟩;refine A7 hp (bZ (hc pins s1 σ1 H1 _ I1 (turn n σ1 H1 w1)) λ b s2 ⟨H2,I2,q2⟩=>?_);cases b with
 |true=>
  obtain⟨N,hN,q2⟩:=q2;rw[J0 rfl];refine A7 hp (bZ (hb pins s2 σ1 H2 _ I2 q2) λ f s3 q3=>?_);cases f with
  |next=>obtain⟨σ3,H3,I3,n3⟩:=q3;obtain⟨m',hm,w3⟩:=hN σ3 H3 n3;exact⟨m',hm,σ3,H3,I3,w3⟩
  |cont=>obtain⟨σ3,H3,I3,n3⟩:=q3;obtain⟨m',hm,w3⟩:=hN σ3 H3 n3;exact⟨m',hm,σ3,H3,I3,w3⟩
  |brk=>exact q3
  |ret v=>exact q3
 |false=>rw[J7 r0];exact B4 ⟨σ1,H2,I2,q2⟩
end
structure It where
 go:Nat->Hp->Prop
 EO:Nat->Hp->V->Hp->Prop
 stop:Nat->Hp->Prop
def jJ(X:Cx)(pins:List (Addr×Obj))(H:Hp)(b:Addr):Prop:=
 H b=none/\b≠X.env.locals/\b∉X.fs/\(b∈X.ex\/X.s₀.heap.objs.size<=b)/\(∀x c,X.env.cells.lookup x=some c->c≠b)/\∀p∈X.pn++pins,p.1≠b
theorem Inv.qZ {X:Cx}{pins:List (Addr×Obj)}{σ:St}{H H':Hp}{s:Shared}{b:Addr}(I:Inv X pins σ H s)(hb:s.heap.objs.size<=b)(hn:H' b=none):jJ X pins H' b:=by
 refine⟨hn,D6 (u3 I.lt hb),I.TM hb,.inr (D3 I.sz hb),λ x c e z=>?_,λ p hp z=>?_⟩
 ·obtain⟨v,q⟩:=I.cell x c e;exact absurd (u3 q.lt (by rw[z];exact hb)) (C1 _)
 ·exact absurd (u3 (C8 (I.pin p hp).1) (by rw[z];exact hb)) (C1 _)
structure Turn(P:Program)(w:World)(K:J8)(tg:Expr)(J:It)(fp:List Addr)(it:Addr)(tn:Nat->Heap->Prop):Prop where
 mem:it∈fp
 obj:∀i h,tn i h->∀b∈fp,∃o,h.get? b=some o/\∀v,o.data≠.cell v
 keep:∀i h h',tn i h->(∀b∈fp,∀o,h.get? b=some o->h'.get? b=some o)->tn i h'
 item:∀(X:Cx),X.prog=P->X.w=w->X.K=K->X.calm=true->∀(i:Nat) (pins:List (Addr×Obj)) (s:Shared) (σ:St) (H:Hp) (E:Value->Shared->Prop),Inv X pins σ H s->(∀b∈fp,jJ X pins H b)->tn i s.heap->J.go i H->
  wpAny (model P w) X.A (pyNext (.ref it)) (λ r s1=>∃u,r=some u/\
   wpAny (model P w) X.A (letOwnedTupleGo tg (.ref it) u) (λ _ s2=>∃x H',Inv X pins σ H' s2/\RelV x u/\J.EO i H x H'/\tn (i+1) s2.heap/\∀b∈fp,H' b=none) E s1) E s
 done:∀(X:Cx),X.prog=P->X.w=w->X.K=K->X.calm=true->∀(i:Nat) (pins:List (Addr×Obj)) (s:Shared) (σ:St) (H:Hp) (E:Value->Shared->Prop),Inv X pins σ H s->(∀b∈fp,jJ X pins H b)->tn i s.heap->J.stop i H->
  wpAny (model P w) X.A (pyNext (.ref it)) (λ r s1=>r=none/\Inv X pins σ H s1) E s
 self:∀(A:Around) (i:Nat) (s:Shared) (Q:Value->Shared->Prop) (E:Value->Shared->Prop),tn i s.heap->Q (.ref it) s->wpAny (model P w) A (pyIter (.ref it)) Q E s
abbrev TI:=St->Hp->(It->Hp->Prop)->Prop
def WH(X:Cx)(pins:List (Addr×Obj))(σ:St)(tg:Expr)(R:It->Hp->Prop)(R5:Value)(s2:Shared):Prop:=
 ∃(it:Addr) (fp:List Addr) (tn:Nat->Heap->Prop) (J:It) (H':Hp),R5=.ref it/\Inv X pins σ H' s2/\Turn X.prog X.w X.K tg J fp it tn/\tn 0 s2.heap/\(∀b∈fp,jJ X pins H' b)/\R J H'
def PI(X:Cx)(tg iter:Expr)(wi:TI):Prop:=
 ∀(pins:List (Addr×Obj)) (s:Shared) (σ:St) (H:Hp) (R:It->Hp->Prop),Inv X pins σ H s->wi σ H R->
  wpAny (model X.prog X.w) X.A (eval iter X.env) (λ v s1=>wpAny (model X.prog X.w) X.A (pyIter v) (WH X pins σ tg R) X.xe s1) X.xe s
theorem xC{M:Model}{A:Around}{E:Value->Shared->Prop}{s:Shared}{tg:Expr}{it:Addr}{u:Value}{o:Obj}{n:String}{vs:Array Value}{Q:Unit->Shared->Prop}(ho:s.heap.get? it=some o)(hc:o.cls=.type n)(hd:o.data=.fields vs) (hn:["enumerate","zip","dict_itemiterator","dict_reverseitemiterator","odict_iterator","itertools.zip_longest","itertools.pairwise"].contains n=false) (hQ:Q () s):wpAny M A (letOwnedTupleGo tg (.ref it) u) Q E s:=by
 unfold letOwnedTupleGo;cases tg <;> first
  |exact G2 hQ
  |(cases u <;> first
    |exact G2 hQ
    |(refine G1 (wpAny_load ho ?_)
      rw[hc,hd];show wpAny M A (if(["enumerate","zip","dict_itemiterator","dict_reverseitemiterator","odict_iterator","itertools.zip_longest","itertools.pairwise"].contains n&&vs[0]?==some (rawInt _))=true then _ else _) Q E s;rw[J7 (by intro h;rw[hn,Bool.false_and]at h;cases h)];exact G2 hQ))
def SE(K:J8)(a:Addr):It:=
 ⟨λ i H=>∃xs x,fb K H a xs/\xs[i]?=some x,λ i H x H'=>H'=H/\∀xs,fb K H a xs->xs[i]?=some x,λ i H=>∃xs,fb K H a xs/\xs.length<=i⟩
def Vd(K:J8)(a:Addr):It:=
 ⟨λ i H=>∃xs x,gb K H a xs/\xs[i]?=some x,λ i H x H'=>H'=H/\∀xs,gb K H a xs->xs[i]?=some x,λ i H=>∃xs,gb K H a xs/\xs.length<=i⟩
def SD(lo:Int)(n:Nat):It:=⟨λ i _=>i < n,λ i H x H'=>H'=H/\x=.int (lo+i),λ i _=>n<=i⟩
theorem yw{P:Program}{w:World}{K:J8}{tg:Expr}(a it:Addr):Turn P w K tg (SE K a) [it] it (λ i h=>h.IsListIter it a i) where
 mem:=by simp
 obj:=λ i h st b hb=>by
  have e:b=it:=by simpa using hb
  subst e;obtain⟨o,e,c,d⟩:=st;exact⟨o,e,λ v z=>by rw[d]at z;cases z⟩
 keep:=λ i h h' st k=>st.at λ o e=>k it (by simp) o e
 item:=by intro X hP hw hK hc i pins s σ H E I hf st hg;subst hP hw hK;obtain⟨xs,x,hq,hx⟩:=hg;obtain⟨au,rv,p,hz⟩:=I.list hq;obtain⟨u,hu,ru⟩:=rv.get hx;obtain⟨f0,f1,f2,f3,f4,f5⟩:=hf it (by simp);refine wpAny_pyNext_list_item st p.isList (x:=u) (by simpa using hu) λ h' ux sb=>?_;have I1:Inv X pins σ H {s with heap:=h'}:=I.turned (t':=s.toks) (λ b o hb e=>(sb.2 b hb).trans e) f0 f1 f3 f4 f5;obtain⟨o,e,c,d⟩:=id ux;exact⟨u,rfl,xC (s:={s with heap:=h'}) e c d (by decide) ⟨x,H,I1,ru,⟨rfl,λ ys hy=>by rw[I.sV hy hq];exact hx⟩,ux,λ b hb=>(hf b hb).1⟩⟩
 done:=by intro X hP hw hK hc i pins s σ H E I hf st hg;subst hP hw hK;obtain⟨xs,hq,hx⟩:=hg;obtain⟨au,rv,p,hz⟩:=I.list hq;obtain⟨f0,f1,f2,f3,f4,f5⟩:=hf it (by simp);have hl:=rv.length;exact wpAny_pyNext_list_end (I.ok.hd hc) st p.isList (by simp;omega) λ h' eb=>⟨rfl,I.turned (t':=s.toks) (λ b o hb e=>eb b o hb e) f0 f1 f3 f4 f5⟩
 self:=λ _ _ _ _ _ st h=>wpAny_pyIter_listiter st h
theorem uq{P:Program}{w:World}{K:J8}{tg:Expr}(a it:Addr):Turn P w K tg (Vd K a) [it] it (λ i h=>h.IsTupleIter it a i) where
 mem:=by simp
 obj:=λ i h st b hb=>by
  have e:b=it:=by simpa using hb
  subst e;obtain⟨o,e,c,d⟩:=st;exact⟨o,e,λ v z=>by rw[d]at z;cases z⟩
 keep:=λ i h h' st k=>st.at λ o e=>k it (by simp) o e
 item:=by intro X hP hw hK hc i pins s σ H E I hf st hg;subst hP hw hK;obtain⟨xs,x,hq,hx⟩:=hg;obtain⟨au,rv,p,hz⟩:=I.tuple hq;obtain⟨u,hu,ru⟩:=rv.get hx;obtain⟨f0,f1,f2,f3,f4,f5⟩:=hf it (by simp);refine wpAny_pyNext_tuple_item st (show s.heap.IsTuple a au.toArray from p) (x:=u) (by simpa using hu) λ h' ux sb=>?_;have I1:Inv X pins σ H {s with heap:=h'}:=I.turned (t':=s.toks) (λ b o hb e=>(sb.2 b hb).trans e) f0 f1 f3 f4 f5;obtain⟨o,e,c,d⟩:=id ux;exact⟨u,rfl,xC (s:={s with heap:=h'}) e c d (by decide) ⟨x,H,I1,ru,⟨rfl,λ ys hy=>by rw[I.pe hy hq];exact hx⟩,ux,λ b hb=>(hf b hb).1⟩⟩
 done:=by intro X hP hw hK hc i pins s σ H E I hf st hg;subst hP hw hK;obtain⟨xs,hq,hx⟩:=hg;obtain⟨au,rv,p,hz⟩:=I.tuple hq;obtain⟨f0,f1,f2,f3,f4,f5⟩:=hf it (by simp);have hl:=rv.length;exact wpAny_pyNext_tuple_end (I.ok.hd hc) st (show s.heap.IsTuple a au.toArray from p) (by simp;omega) λ h' eb=>⟨rfl,I.turned (t':=s.toks) (λ b o hb e=>eb b o hb e) f0 f1 f3 f4 f5⟩
 self:=λ _ _ _ _ _ st h=>wpAny_pyIter_tupleiter st h
theorem ur{P:Program}{w:World}{K:J8}{tg:Expr}(it:Addr)(lo:Int)(n:Nat):Turn P w K tg (SD lo n) [it] it (λ i h=>IsRangeIter h it (lo+(i:Nat)*1) ((n:Int) - (i:Nat)) 1) where
 mem:=by simp
 obj:=λ i h st b hb=>by
  have e:b=it:=by simpa using hb
  subst e;exact⟨_,st,λ v z=>by
   have z':Data.fields _=Data.cell v:=z;cases z'⟩
 keep:=λ i h h' st k=>k it (by simp) _ st
 item:=by intro X hP hw hK hc i pins s σ H E I hf st hg;subst hP hw hK;obtain⟨f0,f1,f2,f3,f4,f5⟩:=hf it (by simp);have W:=Walks.range (prog:=X.prog) (w:=X.w) (I.ok.hd hc) it lo 1 n;refine W.item i s _ _ hg st λ v h' tk hv ux kk=>?_;obtain⟨t,rfl⟩:=hv;have I1:Inv X pins σ H {s with heap:=h',toks:=tk}:=I.turned (λ b o hb e=>kk b o (by simpa using hb) e) f0 f1 f3 f4 f5;refine⟨_,rfl,xC (s:={s with heap:=h',toks:=tk}) (n:="range_iterator") ux rfl rfl (by decide) ⟨.int (lo+i),H,I1,⟨t,?_⟩,⟨rfl,rfl⟩,ux,λ b hb=>(hf b hb).1⟩⟩;rw[Int.mul_one]
 done:=by intro X hP hw hK hc i pins s σ H E I hf st hg;subst hP hw hK;obtain⟨f0,f1,f2,f3,f4,f5⟩:=hf it (by simp);exact wpAny_pyNext_range_end (I.ok.hd hc) st (by have:n<=i:=hg;omega) λ h' eb=>⟨rfl,I.turned (t':=s.toks) (λ b o hb e=>eb b o hb e) f0 f1 f3 f4 f5⟩
 self:=λ _ _ _ _ _ st h=>wpAny_pyIter_rangeiter st h
section
variable {X:Cx}{tg:Expr}
theorem BK{pins:List (Addr×Obj)}{σ:St}{H:Hp}{s:Shared}{R:It->Hp->Prop}{E:Value->Shared->Prop}{lo hi:Int}{t u v:Tok}{tk:Nat}(I:Inv X pins σ H s)(h1: -(2^62)<=lo)(h2:lo < 2^62)(h3: -(2^62)<=hi)(h4:hi < 2^62) (q:R (SD lo (hi - lo).toNat) H):wpAny (model X.prog X.w) X.A (pyIter (.ref s.heap.objs.size)) (WH X pins σ tg R) E {s with heap:=s.heap.push {cls:=.type "range",data:=.fields #[.int lo t,.int hi u,.int 1 v]},toks:=tk}:=by
 refine wpAny_pyIter_range (IsRange.new ..) (small_one h1 h2 h3 h4) ?_;have I1:Inv X pins σ H {s with heap:=s.heap.push {cls:=.type "range",data:=.fields #[.int lo t,.int hi u,.int 1 v]},toks:=tk}:=I.kept λ b o e=>j8 _ e;refine⟨(s.heap.push {cls:=.type "range",data:=.fields #[.int lo t,.int hi u,.int 1 v]}).objs.size,[(s.heap.push {cls:=.type "range",data:=.fields #[.int lo t,.int hi u,.int 1 v]}).objs.size],_,_,H,rfl,
  I1.kept (t':=tk) λ b o e=>j8 _ e,ur _ lo (hi - lo).toNat,?_,λ b hb=>?_,q⟩
 ·have e1:lo+((0:Nat):Int)*1=lo:=by simp
  have e2:(((hi - lo).toNat:Nat):Int) - ((0:Nat):Int)=Builtin.Range.rangeSize lo hi 1:=by rw[rangeSize_one];split <;> omega
  show IsRangeIter _ _ (lo+((0:Nat):Int)*1) ((((hi - lo).toNat:Nat):Int) - ((0:Nat):Int)) 1;rw[e1,e2];exact o8 _ rfl
 ·have e:b=(s.heap.push {cls:=.type "range",data:=.fields #[.int lo t,.int hi u,.int 1 v]}).objs.size:=by simpa using hb
  subst e;exact I1.qZ (D8 _) (I1.aK.fresh (D8 _))
def P0(ta:TA):TI:=λ σ H R=>ta σ H λ vs H1=>∃j:Int,vs=[.int j]/\-(2^62)<=j/\j < 2^62/\R (SD 0 j.toNat) H1
theorem yR{a:Expr}{ta:TA}{p pos:Pos}(hg:Gl X "range")(hm:X.mg "range"=none)(ha:PA X [a] ta)(hs:starEach [a] X.env=[(false,eval a X.env)]:=by rfl):PI X tg (.Call (.Name "range" p) [a] [] pos) (P0 ta):=by
 intro pins s σ H R I h;refine Call_ (j' I hg hm boot_range (a9 (bZ (ha pos pins s σ H _ I h) λ us s1 ⟨vs,H1,I1,r1,q1⟩=>?_) hs rfl));obtain⟨j,e,q1,q2,q⟩:=q1;subst e;cases r1 with
 |cons r rr=>cases rr;obtain⟨t,rfl⟩:=r;exact call_range_1 (BK I1 (by omega) (by omega) q1 q2 (by simpa using q))
def S3(wi:TI)(g:TG)(tb:TS):TS:=λ D σ H=>wi σ H λ J H1=>∃W:Nat->Nat->St->Hp->Prop,(∃m,W 0 m σ H1)/\∀i m σ H,W i m σ H->
 (J.stop i H/\D.nx σ H)\/(J.go i H/\∃N:St->Hp->Prop,(∀σ' H',N σ' H'->∃m',m' < m/\W (i+1) m' σ' H')/\∀x H',J.EO i H x H'->g x σ H' λ σ2 H2=>tb {D with nx:=N,ct:=N,bk:=D.nx} σ2 H2)
def qG(fp:List Addr)(h:Heap):List (Addr×Obj):=fp.filterMap λ b=>(h.get? b).map λ o=>(b,o)
theorem cT{fp:List Addr}{h:Heap}{b:Addr}{o:Obj}(hb:b∈fp)(e:h.get? b=some o):(b,o)∈qG fp h:=mem_filterMap.mpr ⟨b,hb,by rw[e];rfl⟩
theorem yX{fp:List Addr}{h:Heap}{p:Addr×Obj}(hp:p∈qG fp h):p.1∈fp/\h.get? p.1=some p.2:=by
 obtain⟨b,hb,e⟩:=mem_filterMap.mp hp;cases q:h.get? b with
 |none=>rw[q]at e;cases e
 |some o=>rw[q]at e;have e':(b,o)=p:=A6 e;subst e';exact⟨hb,q⟩
theorem Inv.pinned {pins:List (Addr×Obj)}{σ:St}{H:Hp}{s:Shared}{fp:List Addr}(I:Inv X pins σ H s)(hf:∀b∈fp,jJ X pins H b)(ho:∀b∈fp,∃o,s.heap.get? b=some o/\∀v,o.data≠.cell v):Inv X (pins++qG fp s.heap) σ H s:=
 I.jl λ p hp=>(A9.mp hp).elim (λ z=>I.pin p (k9 _ z)) λ z=>by obtain⟨hb,e⟩:=yX z;obtain⟨f0,f1,f2,_⟩:=hf p.1 hb;obtain⟨o,e',d⟩:=ho p.1 hb;rw[e]at e';cases e';exact⟨e,f0,f1,f2,d⟩
theorem Inv.mF {pins pl:List (Addr×Obj)}{σ:St}{H:Hp}{s:Shared}(I:Inv X (pins++pl) σ H s):Inv X pins σ H s:=I.jl λ p hp=>I.pin p (k9 _ (m9 _ hp))
theorem Lu{iter:Expr}{body:List Stmt}{wi:TI}{g:TG}{tb:TS}{pos:Pos}(hp:PassesOwn (model X.prog X.w) X.A X.env X.xe)(hc:X.calm=true)(hi:PI X tg iter wi)(hg:PG X tg g)(hb:nZ X body tb) (hs:∀x,foldedSetIterable iter X.env x=pure x:=by intro _;rfl):PS X (.For tg iter body [] pos) (S3 wi g tb):=by
 intro pins s σ H D I h;refine wpAny_For (bZ (hi pins s σ H _ I h) λ v s1 h1=>bZ h1 λ R5 s2 h2=>?_) hs;obtain⟨it,fp,tn,J,H2,e,I2,T,Jc,f2,W,⟨m0,w0⟩,turn⟩:=h2;subst e;have Kc:∀{H':Hp},(∀b∈fp,H' b=none)->∀b∈fp,jJ X pins H' b:=λ hn b hb=>⟨hn b hb,(f2 b hb).2⟩;refine codeAny_forLoop_any (λ n s'=>∃i σ' H',Inv X pins σ' H' s'/\tn i s'.heap/\(∀b∈fp,H' b=none)/\W i n σ' H') ?_ m0 ⟨0,σ,H2,I2,Jc,λ b hb=>(f2 b hb).1,w0⟩;rintro n s3 ⟨i,σ3,H3,I3,Oq,QX,w3⟩;rcases turn i n σ3 H3 w3 with⟨stop,qn⟩|⟨go,N,hN,step⟩
 ·refine A7 hp (bZ (T.done X rfl rfl rfl hc i pins s3 σ3 H3 X.xe I3 (Kc QX) Oq stop) λ r s4 ⟨hr,I4⟩=>?_);subst hr;exact B4 ⟨σ3,H3,I4,qn⟩
 ·refine A7 hp (bZ (T.item X rfl rfl rfl hc i pins s3 σ3 H3 X.xe I3 (Kc QX) Oq go) λ r s4 ⟨u,hr,h4⟩=>?_);subst hr;refine A7 hp (bZ h4 λ _ s5 ⟨x,H5,I5,r5,y5,Fv,UT⟩=>?_);have Vg:=I5.pinned (Kc UT) (T.obj _ _ Fv);refine A7 hp (bZ (hg _ s5 σ3 H5 x u _ Vg r5 (step x H5 y5)) λ _ s6 ⟨σ6,H6,I6,q6⟩=>?_);refine A7 hp (bZ (hb _ s6 σ6 H6 _ I6 q6) λ f s7 q7=>?_);have again:∀{σ7:St} {H7:Hp},Inv X (pins++qG fp s5.heap) σ7 H7 s7->N σ7 H7->∃m,m < n/\∃i σ' H',Inv X pins σ' H' s7/\tn i s7.heap/\(∀b∈fp,H' b=none)/\W i m σ' H':=λ{σ7 H7} I7 n7=>by obtain⟨m',hm,w7⟩:=hN σ7 H7 n7;refine⟨m',hm,i+1,σ7,H7,I7.mF,T.keep _ _ _ Fv λ b hb o e=>(I7.pin (b,o) (k9 _ (k9 _ (cT hb e)))).1,λ b hb=>?_,w7⟩;obtain⟨o,e,d⟩:=T.obj _ _ Fv b hb;exact(I7.pin (b,o) (k9 _ (k9 _ (cT hb e)))).2.1
  cases f with
  |next=>obtain⟨σ7,H7,I7,n7⟩:=q7;exact again I7 n7
  |cont=>obtain⟨σ7,H7,I7,n7⟩:=q7;exact again I7 n7
  |brk=>obtain⟨σ7,H7,I7,q7⟩:=q7;exact⟨σ7,H7,I7.mF,q7⟩
  |ret v=>obtain⟨x7,σ7,H7,I7,r7,q7⟩:=q7;exact⟨x7,σ7,H7,I7.mF,r7,q7⟩
end
abbrev R2:=V->V->Hp->VK->Prop
def eJ(X:Cx)(f:Value->Value->Sem Value)(r:R2):Prop:=
 ∀(pins:List (Addr×Obj)) (s:Shared) (σ:St) (H:Hp) (x y:V) (v u:Value) (Q:VK),Inv X pins σ H s->RelV x v->RelV y u->r x y H Q->
  wpAny (model X.prog X.w) X.A (f v u) (EP X pins σ Q) X.xe s
def de(X:Cx)(f:Value)(r:List V->Hp->VK->Prop):Prop:=
 ∀(pins:List (Addr×Obj)) (s:Shared) (σ:St) (H:Hp) (xs:List V) (us:List Value) (Q:VK),Inv X pins σ H s->Vals xs us->r xs H Q->
  wpAny (model X.prog X.w) X.A (call f us) (EP X pins σ Q) X.xe s
def Og(r:R2)(ta tb:TE):TE:=λ σ H Q=>ta σ H λ x H1=>tb σ H1 λ y H2=>r x y H2 Q
def rI(C:Int->Int->Prop)(g:Int->Int->V):R2:=λ x y H Q=>∃i j,x=.int i/\y=.int j/\C i j/\Q (g i j) H
def EC(g:Int->Int->V):R2:=λ x y H Q=>∃i j,x=.int i/\y=.int j/\Q (g i j) H
section
variable {X:Cx}{a b c:Expr}{ta tb tc:TE}{pos:Pos}
theorem Nx(ha:PE X a ta)(hb:PE X b tb){pins:List (Addr×Obj)}{s:Shared}{σ:St}{H:Hp}{R:V->V->Hp->Prop}(I:Inv X pins σ H s) (h:ta σ H λ x H1=>tb σ H1 λ y H2=>R x y H2) {Q:Value->Shared->Prop} {f:Value->Value->Sem Value} (hf:∀v u s2 x y H2,Inv X pins σ H2 s2->RelV x v->RelV y u->R x y H2->wpAny (model X.prog X.w) X.A (f v u) Q X.xe s2):wpAny (model X.prog X.w) X.A (eval a X.env) (λ v s₁=>wpAny (model X.prog X.w) X.A (eval b X.env) (λ u s₂=>wpAny (model X.prog X.w) X.A (f v u) Q X.xe s₂) X.xe s₁) X.xe s:=by refine bZ (ha pins s σ H _ I h) λ v s1 ⟨x,H1,I1,r1,q1⟩=>?_;refine bZ (hb pins s1 σ H1 _ I1 q1) λ u s2 ⟨y,H2,I2,r2,q2⟩=>?_;exact hf v u s2 x y H2 I2 r1 r2 q2
theorem O4{op:Operator}{r:R2}(ho:eJ X (binaryOp op) r)(ha:PE X a ta)(hb:PE X b tb):PE X (.BinOp a op b pos) (Og r ta tb):=by intro pins s σ H Q I h;exact wpAny_BinOp (Nx ha hb I h λ v u s2 x y H2 I2 rx ry q=>ho pins s2 σ H2 x y v u Q I2 rx ry q)
theorem RZ{f:Value->Value->Sem Value}{C:Int->Int->Prop}{g:Int->Int->Int} (rule:∀(i j:Int) (t u:Tok) (s:Shared) (Q:Value->Shared->Prop) (E:Value->Shared->Prop),C i j->Q (.int (g i j) s.toks) {s with toks:=s.toks+1}->wpAny (model X.prog X.w) X.A (f (.int i t) (.int j u)) Q E s):eJ X f (rI C λ i j=>.int (g i j)):=by intro pins s σ H x y v u Q I rx ry h;obtain⟨i,j,rfl,rfl,hc,q⟩:=h;obtain⟨t,rfl⟩:=rx;obtain⟨t',rfl⟩:=ry;exact rule i j t t' s _ _ hc ⟨.int (g i j),H,I.tok _,⟨_,rfl⟩,q⟩
theorem Ph{f:Value->Value->Sem Value}{g:Int->Int->Int} (rule:∀(i j:Int) (t u:Tok) (s:Shared) (Q:Value->Shared->Prop) (E:Value->Shared->Prop),Q (.int (g i j) s.toks) {s with toks:=s.toks+1}->wpAny (model X.prog X.w) X.A (f (.int i t) (.int j u)) Q E s):eJ X f (EC λ i j=>.int (g i j)):=by intro pins s σ H x y v u Q I rx ry h;obtain⟨i,j,rfl,rfl,q⟩:=h;obtain⟨t,rfl⟩:=rx;obtain⟨t',rfl⟩:=ry;exact rule i j t t' s _ _ ⟨.int (g i j),H,I.tok _,⟨_,rfl⟩,q⟩
theorem Hl{f:Value->Value->Sem Value}{g:Int->Int->Bool} (rule:∀(i j:Int) (t u:Tok) (s:Shared) (Q:Value->Shared->Prop) (E:Value->Shared->Prop),Q (.bool (g i j)) s->wpAny (model X.prog X.w) X.A (f (.int i t) (.int j u)) Q E s):eJ X f (EC λ i j=>.bl (g i j)):=by intro pins s σ H x y v u Q I rx ry h;obtain⟨i,j,rfl,rfl,q⟩:=h;obtain⟨t,rfl⟩:=rx;obtain⟨t',rfl⟩:=ry;exact rule i j t t' s _ _ ⟨.bl (g i j),H,I,rfl,q⟩
def NL(i j:Int):Prop:=0 < j/\j < 1073741824
def RI(i j:Int):Prop:=0<=j/\j<=1000000/\i.natAbs < 2^64
def rK(i j:Int):Prop:=(-(2^64) < i/\i < 2^64)\/(-(2^64) < j/\j < 2^64)
theorem rK.ok {i j:Int}(h:rK i j):IntMulOk i j:=by
 rcases h with⟨h1,h2⟩|⟨h1,h2⟩
 ·exact .of_left (intBits_le_64 h1 h2)
 ·exact .of_right (intBits_le_64 h1 h2)
theorem LY:eJ X (binaryOp .Add) (EC λ i j=>.int (i+j)):=Ph λ _ _ _ _ _ _ _ q=>add_int q
theorem LN:eJ X (binaryOp .Sub) (EC λ i j=>.int (i - j)):=Ph λ _ _ _ _ _ _ _ q=>sub_int q
theorem LR:eJ X (binaryOp .Mult) (rI rK λ i j=>.int (i*j)):=RZ λ _ _ _ _ _ _ _ hc q=>mul_int q hc.ok
theorem Hi:eJ X (binaryOp .FloorDiv) (rI NL λ i j=>.int (i / j)):=RZ λ i j _ _ _ _ _ hc q=>by have h1:(0:Int) < j:=hc.1;have h2:j < 1073741824:=hc.2;exact floordiv_int (by omega) (by rw[Int.fdiv_eq_ediv_of_nonneg i (by omega)];exact q) (.inl (PyProof.noPylong_small (by omega)))
theorem LS:eJ X (binaryOp .Mod) (rI (λ _ j=>0 < j) λ i j=>.int (i % j)):=RZ λ i j _ _ _ _ _ hc q=>by have h1:(0:Int) < j:=hc;exact mod_int' (by omega) (by rw[Int.fmod_eq_emod_of_nonneg i (by omega)];exact q)
theorem LP:eJ X (binaryOp .Pow) (rI RI λ i j=>.int (i^j.toNat)):=RZ λ _ _ _ _ _ _ _ hc q=>pow_int_small hc.1 hc.2.1 hc.2.2 q
end
def OA:V->V->Bool
 | .aY,.aY=>true| .aY,.int _=>true| .int _,.aY=>true| .aY,.bl _=>true| .bl _,.aY=>true| .aY,.str _=>true| .str _,.aY=>true
 | .int _,.int _=>true| .bl _,.bl _=>true| .str _,.str _=>true| .Aj _,.Aj _=>true
 | .int _,.str _=>true| .str _,.int _=>true| .bl _,.str _=>true| .str _,.bl _=>true
 |_,_=>false
def Xf:R2:=λ x y H Q=>OA x y=true/\Q (.bl (decide (x=y))) H
def Xc:R2:=λ x y H Q=>OA x y=true/\Q (.bl (!decide (x=y))) H
theorem xK{i j:Int}:decide (V.int i=V.int j)=(i==j):=by rw[A0];simp
theorem DX{i j:Bool}:decide (V.bl i=V.bl j)=(i==j):=by rw[A0];simp
theorem xJ{i j:Str}:decide (V.str i=V.str j)=(i==j):=by rw[A0];simp
theorem xM{i j:Array UInt8}:decide (V.Aj i=V.Aj j)=(i.toList==j.toList):=by rw[A0];cases i;cases j;simp
section
variable {X:Cx}{a b c:Expr}{ta tb tc:TE}{pos:Pos}
theorem aN{pins:List (Addr×Obj)}{σ:St}{H:Hp}{s:Shared}{Q:VK}{k k':Bool}(I:Inv X pins σ H s)(q:Q (.bl k) H)(e:k=k'):EP X pins σ Q (.bool k') s:=by subst e;exact⟨.bl k,H,I,rfl,q⟩
theorem Pg:eJ X (compareOp .Eq) Xf:=by
 intro pins s σ H x y v u Q I rx ry h;obtain⟨hs,q⟩:=h;cases x with
 |aY=>
  cases rx;cases y with
  |aY=>cases ry;exact PySem.EqNone.eq_none_none (aN I q (by simp))
  |bl j=>cases ry;exact PySem.EqNone.eq_none_bool (aN I q (by simp))
  |int j=>obtain⟨t',rfl⟩:=ry;exact PySem.EqNone.eq_none_int (aN I q (by simp))
  |str j=>obtain⟨t',rfl⟩:=ry;exact PySem.EqNone.eq_none_str (aN I q (by simp))
  |_=>exact absurd (show false=true from hs) r0
 |bl i=>
  cases rx;cases y with
  |aY=>cases ry;exact PySem.EqNone.eq_bool_none (aN I q (by simp))
  |bl j=>cases ry;exact eq_bool (aN I q DX)
  |str j=>obtain⟨t',rfl⟩:=ry;exact PySem.EqMixed.eq_bool_str (aN I q (by simp))
  |_=>exact absurd (show false=true from hs) r0
 |int i=>
  obtain⟨t,rfl⟩:=rx;cases y with
  |aY=>cases ry;exact PySem.EqNone.eq_int_none (aN I q (by simp))
  |int j=>obtain⟨t',rfl⟩:=ry;exact eq_int (aN I q xK)
  |str j=>obtain⟨t',rfl⟩:=ry;exact PySem.EqMixed.eq_int_str (aN I q (by simp))
  |_=>exact absurd (show false=true from hs) r0
 |str i=>
  obtain⟨t,rfl⟩:=rx;cases y with
  |aY=>cases ry;exact PySem.EqNone.eq_str_none (aN I q (by simp))
  |bl j=>cases ry;exact PySem.EqMixed.eq_str_bool (aN I q (by simp))
  |int j=>obtain⟨t',rfl⟩:=ry;exact PySem.EqMixed.eq_str_int (aN I q (by simp))
  |str j=>obtain⟨t',rfl⟩:=ry;exact eq_str (aN I q xJ)
  |_=>exact absurd (show false=true from hs) r0
 |Aj i=>
  obtain⟨t,rfl⟩:=rx;cases y with
  |Aj j=>obtain⟨t',rfl⟩:=ry;exact PySem.W.eq_bytes (aN I q xM)
  |_=>exact absurd (show false=true from hs) r0
 |_=>cases y <;> exact absurd (show false=true from hs) r0
theorem Pb:eJ X (compareOp .NotEq) Xc:=by
 intro pins s σ H x y v u Q I rx ry h;obtain⟨hs,q⟩:=h;cases x with
 |aY=>
  cases rx;cases y with
  |aY=>cases ry;exact PySem.EqNone.ne_none_none (aN I q (by simp))
  |bl j=>cases ry;exact PySem.EqNone.ne_none_bool (aN I q (by simp))
  |int j=>obtain⟨t',rfl⟩:=ry;exact PySem.EqNone.ne_none_int (aN I q (by simp))
  |str j=>obtain⟨t',rfl⟩:=ry;exact PySem.EqNone.ne_none_str (aN I q (by simp))
  |_=>exact absurd (show false=true from hs) r0
 |bl i=>
  cases rx;cases y with
  |aY=>cases ry;exact PySem.EqNone.ne_bool_none (aN I q (by simp))
  |bl j=>cases ry;exact ne_bool (aN I q (G8 not DX))
  |str j=>obtain⟨t',rfl⟩:=ry;exact PySem.EqMixed.ne_bool_str (aN I q (by simp))
  |_=>exact absurd (show false=true from hs) r0
 |int i=>
  obtain⟨t,rfl⟩:=rx;cases y with
  |aY=>cases ry;exact PySem.EqNone.ne_int_none (aN I q (by simp))
  |int j=>obtain⟨t',rfl⟩:=ry;exact ne_int (aN I q (G8 not xK))
  |str j=>obtain⟨t',rfl⟩:=ry;exact PySem.EqMixed.ne_int_str (aN I q (by simp))
  |_=>exact absurd (show false=true from hs) r0
 |str i=>
  obtain⟨t,rfl⟩:=rx;cases y with
  |aY=>cases ry;exact PySem.EqNone.ne_str_none (aN I q (by simp))
  |bl j=>cases ry;exact PySem.EqMixed.ne_str_bool (aN I q (by simp))
  |int j=>obtain⟨t',rfl⟩:=ry;exact PySem.EqMixed.ne_str_int (aN I q (by simp))
  |str j=>obtain⟨t',rfl⟩:=ry;exact ne_str (aN I q (G8 not xJ))
  |_=>exact absurd (show false=true from hs) r0
 |Aj i=>
  obtain⟨t,rfl⟩:=rx;cases y with
  |Aj j=>obtain⟨t',rfl⟩:=ry;exact PySem.W.ne_bytes (aN I q (G8 not xM))
  |_=>exact absurd (show false=true from hs) r0
 |_=>cases y <;> exact absurd (show false=true from hs) r0
theorem Pc:eJ X (compareOp .Lt) (EC λ i j=>.bl (decide (i < j))):=Hl λ _ _ _ _ _ _ _ q=>lt_int q
theorem Pd:eJ X (compareOp .LtE) (EC λ i j=>.bl (decide (i<=j))):=Hl λ _ _ _ _ _ _ _ q=>le_int q
theorem Pe:eJ X (compareOp .Gt) (EC λ i j=>.bl (decide (j < i))):=Hl λ _ _ _ _ _ _ _ q=>gt_int q
theorem Pf:eJ X (compareOp .GtE) (EC λ i j=>.bl (decide (j<=i))):=Hl λ _ _ _ _ _ _ _ q=>ge_int q
theorem yV:eJ X (compareOp .In) (λ x y H Q=>∃i j,x=.str i/\y=.str j/\Q (.bl (!(Builtin.Str.occurrences j i 0 j.length 1).isEmpty)) H):=by intro pins s σ H x y v u Q I rx ry h;obtain⟨i,j,rfl,rfl,q⟩:=h;obtain⟨t,rfl⟩:=rx;obtain⟨t',rfl⟩:=ry;exact in_str (aN I q rfl)
theorem LU:eJ X (compareOp .Is) (λ x y H Q=>y=.aY/\Q (.bl (decide (x=.aY))) H):=by
 intro pins s σ H x y v u Q I rx ry h;obtain⟨rfl,q⟩:=h;cases ry;refine is_none_gen (aN I q ?_);cases x <;> first
  |(cases rx;rfl)
  |(obtain⟨t,rfl⟩:=rx;rfl)
theorem He:eJ X (compareOp .IsNot) (λ x y H Q=>y=.aY/\Q (.bl (!decide (x=.aY))) H):=by
 intro pins s σ H x y v u Q I rx ry h;obtain⟨rfl,q⟩:=h;cases ry;refine isnot_none_gen (aN I q ?_);cases x <;> first
  |(cases rx;rfl)
  |(obtain⟨t,rfl⟩:=rx;rfl)
theorem eJ.or {f:Value->Value->Sem Value}{r r':R2}(h:eJ X f r)(h':eJ X f r'):eJ X f (λ x y H Q=>r x y H Q\/r' x y H Q):=by
 intro pins s σ H x y v u Q I rx ry q;rcases q with q|q
 ·exact h pins s σ H x y v u Q I rx ry q
 ·exact h' pins s σ H x y v u Q I rx ry q
theorem GZ{op:CmpOp}{r:R2}(ho:eJ X (compareOp op) r)(ha:PE X a ta)(hb:PE X b tb)(hm:behindInMarks op b=false):PE X (.Compare a [op] [b] pos) (Og r ta tb):=by intro pins s σ H Q I h;exact wpAny_Compare1 (Nx ha hb I h λ v u s2 x y H2 I2 rx ry q=>ho pins s2 σ H2 x y v u Q I2 rx ry q) hm
def Oe(t:TE):TT:=λ σ H Q=>t σ H λ x H'=>∃k,x=.bl k/\Q k H'
theorem GO{op:CmpOp}{r:R2}(ho:eJ X (compareOp op) r)(ha:PE X a ta)(hb:PE X b tb)(hm:behindInMarks op b=false):PT X (.Compare a [op] [b] pos) (Oe (Og r ta tb)):=by
 intro pins s σ H Q I h;refine wpAny_isTrue_Compare1 (bZ (ha pins s σ H _ I h) λ v s1 ⟨x,H1,I1,r1,q1⟩=>bZ (hb pins s1 σ H1 _ I1 q1) λ u s2 ⟨y,H2,I2,r2,q2⟩=>
  bZ (ho pins s2 σ H2 x y v u _ I2 r1 r2 q2) λ c s3 ⟨z,H3,I3,r3,k,e,q3⟩=>?_) hm
 subst e;cases r3;exact x8 ⟨H3,I3,q3⟩
theorem j_:(sizeLine:Nat) < 2^63:=by rw[D9];decide
theorem uX:eJ X (binaryOp .Add) (λ x y H Q=>∃i j,x=.str i/\y=.str j/\i.length+j.length<=sizeLine/\Q (.str (i++j)) H):=by intro pins s σ H x y v u Q I rx ry h;obtain⟨i,j,rfl,rfl,hz,q⟩:=h;obtain⟨t,rfl⟩:=rx;obtain⟨t',rfl⟩:=ry;exact add_str (λ t' tk=>⟨.str (i++j),H,I.tok _,⟨_,rfl⟩,q⟩) hz
theorem vals1{x:V}{us:List Value}(r:Vals [x] us):∃u,us=[u]/\RelV x u:=by
 cases r with
 |cons r1 r2=>cases r2;exact⟨_,rfl,r1⟩
theorem zJ:de X (.type "int") (λ xs H Q=>(∃i,xs=[.int i]/\Q (.int i) H)\/∃k,xs=[.bl k]/\Q (.int (if k then 1 else 0)) H):=by
 intro pins s σ H xs us Q I r h;rcases h with⟨i,rfl,q⟩|⟨k,rfl,q⟩
 ·obtain⟨u,rfl,t,rfl⟩:=vals1 r;exact call_int_int ⟨.int i,H,I,⟨_,rfl⟩,q⟩
 ·obtain⟨u,rfl,r1⟩:=vals1 r;cases r1;exact call_int_bool ⟨.int (if k then 1 else 0),H,I.tok _,⟨_,rfl⟩,q⟩
end
set_option tactic.hygienic true in
theorem pO{h:Heap}{dx:Addr}{mA:Str->Option Value}(n:h.Ns1 dx mA):∃od,h.get? dx=some od/\∀name,PySem.W.lookIn name od=some (mA name):=by
 obtain⟨o,es,ep,ho,hd,hk,_,hm⟩:=n;refine⟨o,ho,λ name=>?_⟩;have e:=hm name;unfold nsFind findBy at e;rw[<- Array.find?_toList]at e;unfold PySem.W.lookIn;rw[hd];dsimp only;split
 ·rename_i y q;rw[q]at e;exact G8 some e
 ·rename_i q;rw[q]at e;have a:es.toList.any (·.refKey)=false:=by rw[List.any_eq_false];intro y hy;obtain⟨z,t,Ds⟩:=hk y (Array.mem_toList_iff.mp hy);simp[DictEntry.refKey,Ds]
  have a':¬es.toList.any (·.refKey)=true:=by rw[a];exact r0
  rw[J7 a'];exact G8 some e
theorem gR.some_of {v:V}{o:Option Value}(r:gR (some v) o):∃u,o=some u/\RelV v u:=by
 cases o with
 |none=>exact(show False from r).elim
 |some u=>exact⟨u,rfl,r⟩
theorem zu{v:V}{u:Value}(r:RelV v u):PySem.W.handedIn u=true:=by
 cases v with
 |aY=>cases(show u=Value.none from r);rfl
 |bl b=>cases(show u=Value.bool b from r);rfl
 |int i=>obtain⟨t,e⟩:=(show ∃t,u=Value.int i t from r);cases e;rfl
 |str x=>obtain⟨t,e⟩:=(show ∃t,u=Value.str x t from r);cases e;rfl
 |Aj b=>obtain⟨t,e⟩:=(show ∃t,u=Value.bytes b t from r);cases e;rfl
 |Sn b=>obtain⟨t,e⟩:=(show ∃t,u=Value.float b t from r);cases e;rfl
 |ref a=>cases(show u=Value.ref a from r);rfl
 |ty n=>cases(show u=Value.type n from r);rfl
section
variable {X:Cx}{pins:List (Addr×Obj)}{σ:St}{H:Hp}{s:Shared}{a C dx:Addr}{fs:List (Str×V)}{f:Str}{v:V}{A:Around}{E:Value->Shared->Prop}
theorem IL{prog:Program}{w:World}{env:Env}{e:Expr}{f:Str}{pos:Pos}{s:Shared}{Q:Value->Shared->Prop}(hb:attributeBase e f env (eval e env)=eval e env) (h:wpAny (model prog w) A (eval e env) (λ o s₁=>wpAny (model prog w) A (getAttr o f true) Q E s₁) E s):wpAny (model prog w) A (eval (.Attribute e f pos) env) Q E s:=
 Attribute_any_ h (by rw[arm_eval_Attribute,hb])
end
structure bf(k:Nat)(A:Around):Prop where
 hd:A.handled=none
 dp:A.depth+2*k+5 < recursionLimit
 un:A.units+16*k+200 < cLine
theorem bf.mono {j k:Nat}{A:Around}(r:bf k A)(h:j<=k):bf j A:=⟨r.hd,by have:=r.dp;omega,by have:=r.un;omega⟩
theorem bf.deeper {k:Nat}{A:Around}(r:bf (k+1) A)(env:Env):bf k (A.deeper env):=
 ⟨r.hd,by have:=r.dp;show A.depth+1+2*k+5 < _;omega,by have:=r.un;show A.units+3+16*k+200 < _;omega⟩
theorem ve{A:Around}{C:Addr}{us:List Value}{kw:List (Str×Value)}:(A.under (.builtin "type.__call__" ⟨.ref C::us,kw⟩)).depth=A.depth+1:=by
 first|rfl|simp[Around.under,Code.weight,Code.isCreation,Code.isGuard,Code.isCaller,Code.frames,Code.isFrame,guardIds]
theorem vd{A:Around}{C:Addr}{us:List Value}{kw:List (Str×Value)}:(A.under (.builtin "type.__call__" ⟨.ref C::us,kw⟩)).units=A.units+1:=by
 first|rfl|simp[Around.under,Code.cUnits,Code.frames,Code.isFrame]
theorem bf.make {k:Nat}{A:Around}(r:bf (k+1) A)(C:Addr)(us:List Value)(kw:List (Str×Value)):bf k (A.under (.builtin "type.__call__" ⟨.ref C::us,kw⟩)):=
 ⟨r.hd,by have:=r.dp;rw[ve];omega,by have:=r.un;rw[vd];omega⟩
theorem bf.depth {k:Nat}{A:Around}(r:bf k A):A.depth < recursionLimit:=by have:=r.dp;omega
theorem bf.units {k:Nat}{A:Around}(r:bf k A):A.units+64 < cLine:=by have:=r.un;omega
def Oi:TA:=λ _ H Q=>Q [] H
def I_(ta:TE)(tr:TA):TA:=λ σ H Q=>ta σ H λ x H1=>tr σ H1 λ xs H2=>Q (x::xs) H2
section
variable {X:Cx}{e:Expr}{es:List Expr}{te:TE}{t:TA}{pos:Pos}
theorem gB:PA X [] Oi:=λ _ _ _ _ H Q I h=>Calls.spliced_nil ⟨[],H,I,.nil,h⟩
theorem bU(ha:PE X e te)(hr:PA X es t)(hs:starEach (e::es) X.env=(false,eval e X.env)::starEach es X.env:=by rfl):PA X (e::es) (I_ te t):=by intro pos pins s σ H Q I h;rw[hs];show wpAny _ _ (spliced ((false,eval e X.env)::backTo pos (starEach es X.env))) _ _ s;refine Calls.spliced_cons (bZ (ha pins s σ H _ I h) λ u s1 ⟨x,H1,I1,r1,q1⟩=>?_);exact bZ (hr pos pins s1 σ H1 _ I1 q1) λ us s2 ⟨xs,H2,I2,r2,q2⟩=>⟨x::xs,H2,I2,.cons r1 r2,q2⟩
def SV(t:TA):TE:=λ σ H Q=>t σ H λ xs H1=>xs.length<=sizeLine/\∀p,H1 p=none->Q (.ref p) (upd H1 p (.tup xs))
def S1(t:TA):TE:=λ σ H Q=>t σ H λ xs H1=>xs.length<=sizeLine/\∀p,H1 p=none->Q (.ref p) (upd H1 p (.lst xs))
theorem Ce{x1}(h:PA X es t):PE X (.Tuple es x1 pos) (SV t):=by intro pins s σ H Q I hq;refine wpAny_Tuple_spliced (bZ (h pos pins s σ H _ I hq) λ us s1 ⟨xs,H1,I1,r,z,q⟩=>⟨by rw[<- r.length];exact z,?_⟩);have hf:H1 s1.heap.objs.size=none:=I1.aK.fresh (D8 _);refine⟨.ref s1.heap.objs.size,upd H1 s1.heap.objs.size (.tup xs),I1.laid (t':=s1.toks) (λ b u e=>j8 _ e) (D8 _) ?_,rfl,q _ hf⟩;exact⟨z,us,r,⟨_,o8 _ rfl,rfl,_,rfl⟩⟩
theorem LD(h:PA X es t):PE X (.List es pos) (S1 t):=by intro pins s σ H Q I hq;refine wpAny_List_spliced (bZ (h pos pins s σ H _ I hq) λ us s1 ⟨xs,H1,I1,r,z,q⟩=>⟨by rw[<- r.length];exact z,?_⟩);have hf:H1 s1.heap.objs.size=none:=I1.aK.fresh (D8 _);refine⟨.ref s1.heap.objs.size,upd H1 s1.heap.objs.size (.lst xs),I1.laid (t':=s1.toks) (λ b u e=>j8 _ e) (D8 _) ?_,rfl,q _ hf⟩;exact⟨z,us,0,r,o8 _ rfl⟩
end
abbrev Sp:=List V->Hp->VK->XK->Prop
abbrev Eu:=List Env->Hp->Shared->XK->Value->Shared->Prop
structure iR(P:Program)(w:World)(K:J8)(mg:Str->Option Value)(base:Heap)(A:Around)(outer:List Env)(s:Shared)(H:Hp):Prop where
 frames:A.frames=some outer
 mod:Mod K mg base
 bs:∀b o,base.get? b=some o->s.heap.get? b=some o/\H b=none
 vX:base.objs.size<=s.heap.objs.size
 gL:s.heap.FunFrames base outer
 DC:∀b∈f_ outer,H b=none
 aK:dX P w H s.heap
 bare:AllBare s.gens
def CE(outer:List Env)(P:Program)(w:World)(H:Hp)(s:Shared)(Q:VK)(u:Value)(s':Shared):Prop:=
 ∃v H',s'.os=s.os/\AllBare s'.gens/\Un (f_ outer) [] H H' s.heap s'.heap/\dX P w H' s'.heap/\RelV v u/\Q v H'
def CR(CX:Eu)(outer:List Env)(P:Program)(w:World)(H:Hp)(s:Shared)(Q:VK)(E:XK)(r:Result)(s':Shared):Prop:=
 match r with
 | .ok (.ret u)=>CE outer P w H s Q u s'
 | .ok _=>False
 | .error e=>CX outer H s E e s'
structure aX(P:Program)(w:World)(K:J8)(mg:Str->Option Value)(base:Heap)(CX:Eu)(k:Nat)(f:Addr)(fd:FuncData)(ps:List Str)(sp:Sp):Prop where
 len:∀vs H Q E,sp vs H Q E->vs.length=ps.length
 run:∀(A:Around) (outer:List Env) (s:Shared) (H:Hp) (args:Args) (us:List Value) (vs:List V) (Q:VK) (E:XK),bf k A->iR P w K mg base A outer s H->BindsTo s fd args (ps.zip us)->Vals vs us->sp vs H Q E->
  codeAny (model P w) A (.call (.ref f) args) (CR CX outer P w H s Q E) s
theorem iR.make {P:Program}{w:World}{K:J8}{mg:Str->Option Value}{base:Heap}{A:Around}{outer:List Env}{s:Shared}{H:Hp}(e:iR P w K mg base A outer s H)(C:Addr)(us:List Value)(kw:List (Str×Value)):iR P w K mg base (A.under (.builtin "type.__call__" ⟨.ref C::us,kw⟩)) outer s H:=⟨by first|exact e.frames|(simpa[Around.under,Code.envs,Code.isFrame,pushEnvs]using e.frames),e.mod,e.bs,e.vX,e.gL,e.DC,e.aK,e.bare⟩
section
variable {X:Cx}{pins:List (Addr×Obj)}{σ:St}{H:Hp}{s s':Shared}
theorem Inv.DQ (I:Inv X pins σ H s):iR X.prog X.w X.K X.mg X.base X.A X.stack s H:=
 ⟨I.ok.frames,I.ok.mod,I.bs,D3 I.ok.vX I.sz,I.stack,I.gZ,I.aK,I.bare⟩
theorem Inv.after {Q:VK}{u:Value}(I:Inv X pins σ H s)(h:CE X.stack X.prog X.w H s Q u s'):EP X pins σ Q u s':=by obtain⟨v,H',os,bare,un,aK,r,q⟩:=h;obtain⟨hh,g,d,t,O'⟩:=s';obtain rfl:O'=s.os:=os;exact⟨v,H',I.call (h':=hh) (g':=g) (d':=d) (t':=t) (ch:=[]) un aK bare (λ b z=>absurd z (by simp)),r,q⟩
end
def Ja(sp:Sp)(dvs:List V)(E:XK)(t:TA):TE:=λ σ H Q=>t σ H λ vs H1=>sp (vs++dvs) H1 Q E
def Binds(K:J8)(fd:FuncData)(ps:List Str)(ds:List Value):Prop:=
 ∀(s:Shared) (us:List Value),K.In s.heap->(us++ds).length=ps.length->BindsTo s fd ⟨us,[]⟩ (ps.zip (us++ds))
theorem Binds.all {K:J8}{fd:FuncData}{ps:List Str}(h:∀us:List Value,us.length=ps.length->bindArgs fd ⟨us,[]⟩=pure (ps.zip us)):Binds K fd ps []:=λ s us _ hl=>by rw[A1]at hl ⊢;exact .of_eq (h us hl)
def Passes(CX:Eu)(X:Cx)(E:XK):Prop:=∀(pins:List (Addr×Obj)) (σ:St) (H:Hp) (s:Shared) (e:Value) (s':Shared),Inv X pins σ H s->CX X.stack H s E e s'->X.xe e s'
section
variable {X:Cx}{CX:Eu}{k:Nat}{f C:Addr}{fd:FuncData}{ps:List Str}{sp:Sp}{dvs:List V}{ds:List Value}{E:XK}{x m:Str}{p pos apos:Pos}{e o:Expr}{es:List Expr}{ta:TE}{t:TA}
theorem Ky{pins:List (Addr×Obj)}{σ:St}{H:Hp}{s:Shared}{Q:VK}{us:List Value}{vs:List V}(F:aX X.prog X.w X.K X.mg X.base CX k f fd ps sp)(hr:bf k X.A)(hb:Binds X.K fd ps ds)(hd:Vals dvs ds)(hx:Passes CX X E) (I:Inv X pins σ H s) (r:Vals vs us) (h:sp (vs++dvs) H Q E):wpAny (model X.prog X.w) X.A (call (.ref f) us) (EP X pins σ Q) X.xe s:=by
 have r2:Vals (vs++dvs) (us++ds):=r.append hd;have hl:(us++ds).length=ps.length:=by rw[<- r2.length];exact F.len _ _ _ _ h
 refine G5 (D5 (F.run X.A X.stack s H ⟨us,[]⟩ (us++ds) (vs++dvs) Q E hr I.DQ (hb s us I.jq hl) r2 h) λ r s' hq=>?_);cases r with
 |error e=>exact hx pins σ H s e s' I hq
 |ok fl=>
  cases fl with
  |ret u=>exact I.after hq
  |next=>exact False.elim hq
  |brk=>exact False.elim hq
  |cont=>exact False.elim hq
theorem w_(F:aX X.prog X.w X.K X.mg X.base CX k f fd ps sp)(hr:bf k X.A)(hg:Gl X x)(hm:X.mg x=some (.ref f))(hk:PySem.W.keepIn X.K (.ref f)=true)(hb:Binds X.K fd ps ds)(hd:Vals dvs ds)(hx:Passes CX X E) (ha:PA X (e::es) t) (hdb:(x==("__debug__":Str))=false:=by decide) (he:starEach (e::es) X.env=(false,eval e X.env)::starEach es X.env:=by rfl) (hpl:(backTo pos (starEach es X.env)).any (·.1)=false:=by rfl):PE X (.Call (.Name x p) (e::es) [] pos) (Ja sp dvs E t):=by intro pins s σ H Q I h;refine u5 (dC I hg hm ?_ hdb);refine PySem.W.callWith_K (h₀:=X.base) I.ok.mod.Mo hk (bZ (ha pos pins s σ H _ I h) λ us s1 ⟨vs,H1,I1,r,q⟩=>⟨I1.jq,?_⟩) he hpl;exact Ky F hr hb hd hx I1 r q
end
structure cu(N P:List Str)(sc:Scope):Prop where
 kind:sc.kind=.function
 co:sc.isCoroutine=false
 gen:sc.isGenerator=false
 nd:N.Nodup
 pre:N.take P.length=P
 par:∀x∈P,sc.names.lookup x=some .local\/sc.names.lookup x=some .cell
 Me:∀y∈sc.names,y.2≠.free
theorem qh{kindOf:Str->Option NameKind}{x:Str}:∀{binds:List (Str×Value)} {m:Str->Option Value},(∀v,(x,v)∉binds)->bindL kindOf binds m x=m x
 |[],_,_=>rfl
 |(n,v)::r,m,h=>by
  unfold bindL;rw[qh λ w hw=>h w (m7 _ hw)];split
  ·have:x≠n:=by rintro rfl;exact h v q9
   simp[this]
  ·rfl
theorem qi{kindOf:Str->Option NameKind}{x:Str}:∀{binds:List (Str×Value)} {m:Str->Option Value},(∀v,(x,v)∉binds)->bindC kindOf binds m x=m x
 |[],_,_=>rfl
 |(n,v)::r,m,h=>by
  unfold bindC;rw[qi λ w hw=>h w (m7 _ hw)];split
  ·rfl
  ·have:x≠n:=by rintro rfl;exact h v q9
   simp[this]
theorem kz{kindOf:Str->Option NameKind}{x:Str}{v:Value}:∀{P:List Str} {vs:List Value} {i:Nat} {m:Str->Option Value},P.Nodup->P[i]?=some x->vs[i]?=some v->kindOf x=some .local->
  bindL kindOf (P.zip vs) m x=some v
 |[],_,_,_,_,h,_,_=>by simp at h
 |_::_,[],_,_,_,_,h,_=>by simp at h
 |p::P,w::vs,0,m,nd,h1,h2,hk=>by simp at h1 h2;subst h1;subst h2;show bindL kindOf ((p,w)::P.zip vs) m p=_;unfold bindL;rw[qh λ v hv=>(nodup_cons.mp nd).1 (of_mem_zip hv).1,J0 hk];simp
 |p::P,w::vs,i+1,m,nd,h1,h2,hk=>by show bindL kindOf ((p,w)::P.zip vs) m x=_;unfold bindL;exact kz (i:=i) (nodup_cons.mp nd).2 (by simpa using h1) (by simpa using h2) hk
theorem kG{kindOf:Str->Option NameKind}{x:Str}{v:Value}:∀{P:List Str} {vs:List Value} {i:Nat} {m:Str->Option Value},P.Nodup->P[i]?=some x->vs[i]?=some v->kindOf x≠some .local->
  bindC kindOf (P.zip vs) m x=some v
 |[],_,_,_,_,h,_,_=>by simp at h
 |_::_,[],_,_,_,_,h,_=>by simp at h
 |p::P,w::vs,0,m,nd,h1,h2,hk=>by simp at h1 h2;subst h1;subst h2;show bindC kindOf ((p,w)::P.zip vs) m p=_;unfold bindC;rw[qi λ v hv=>(nodup_cons.mp nd).1 (of_mem_zip hv).1,J7 hk];simp
 |p::P,w::vs,i+1,m,nd,h1,h2,hk=>by show bindC kindOf ((p,w)::P.zip vs) m x=_;unfold bindC;exact kG (i:=i) (nodup_cons.mp nd).2 (by simpa using h1) (by simpa using h2) hk
def start(N:List Str)(vs:List V):St:=vs.map some++List.replicate (N.length - vs.length) none
def lB(CX:Eu)(P:Program)(w:World)(K:J8)(mg:Str->Option Value)(base:Heap)(N:List Str)(qual:Str)(scope:Scope)(f:Addr)(cd:Value)(A:Around)(outer:List Env)(s:Shared)(H:Hp)(E:XK):Cx where
 prog:=P
 w:=w
 K:=K
 mg:=mg
 base:=base
 A:=A.deeper (envOfC qual scope s.heap.objs.size f cd)
 N:=N
 s₀:=s
 H₀:=H
 env:=envOfC qual scope s.heap.objs.size f cd
 outer:=outer
 stack:=envOfC qual scope s.heap.objs.size f cd::outer
 ex:=[]
 calm:=true
 fn:=λ _=>true
 pn:=[]
 xe:=λ e s'=>wpAny (model P w) (A.deeper (envOfC qual scope s.heap.objs.size f cd)) (leaving (envOfC qual scope s.heap.objs.size f cd) e) (λ _ Tc=>CX outer H s E e Tc) (λ e' Tc=>CX outer H s E e' Tc) s'
theorem nU{sc:Scope}{n:Nat}{x:Str}(h:sc.names.lookup x=some .cell):∃c,(cellsFrom n sc.names []).lookup x=some c:=by have q:=PySem.W.cellsFrom_some sc.names n [] (.inl h);exact Option.isSome_iff_exists.mp q
theorem zq{CX:Eu}{P:Program}{w:World}{K:J8}{mg:Str->Option Value}{base:Heap}{N ps:List Str}{qual:Str}{scope:Scope}{f:Addr}{cd:Value}{A:Around}{outer:List Env}{s s1:Shared}{H:Hp}{E:XK}{us:List Value}{vs:List V} (S:cu N ps scope) (hd:A.handled=none) (e0:iR P w K mg base A outer s H) (hl:vs.length=ps.length) (r:Vals vs us) (x:InCallC s s.heap.objs.size (bindL (envOfC qual scope s.heap.objs.size f cd).kindOf (ps.zip us) λ _=>none) (cellsFrom (s.heap.objs.size+1) scope.names []) (bindC (envOfC qual scope s.heap.objs.size f cd).kindOf (ps.zip us) λ _=>none) s1):Inv (lB CX P w K mg base N qual scope f cd A outer s H E) [] (start N vs) H s1:=by
 have hpl:ps.length<=N.length:=by have:=G8 List.length S.pre;rw[z7]at this;omega
 obtain⟨h1,tk,rfl,hk⟩:=x.done;have CB:∀b:Addr,b∉(lB CX P w K mg base N qual scope f cd A outer s H E).ex:=λ b z=>absurd (show b∈([]:List Addr)from z) (by simp);refine⟨⟨e0.mod,S.kind,rfl,rfl,D8 _,λ y z c h1 h2=>?_,λ y hy=>?_,λ y c _ h=>?_,λ _=>hd,Around.frames_deeper e0.frames,.inr ⟨rfl,rfl⟩,λ b z=>absurd z (CB b),e0.bs,e0.vX,λ b _ _=>CB b,λ b z=>absurd z (CB b),e0.gL,e0.DC⟩,
  rfl,e0.bare,Un.kept hk,⟨_,x.toInCall.ns,λ i y v h1 h2 h3=>?_⟩,λ y c h=>⟨_,x.cell y c h⟩,e0.aK.fresh (D8 _),λ y c h=>?_,λ p hp=>absurd (show p∈([]:List (Addr×Obj))from hp) (by simp),e0.aK.kept hk,?_⟩
 ·exact name_of_addr x.apart (o5 h1) (o5 h2)
 ·have hy:scope.names.lookup y=some .cell\/scope.names.lookup y=some .free:=hy;rcases hy with hy|hy
  ·exact nU hy
  ·exact absurd rfl (S.Me _ (o5 hy))
 ·exact D7 (x.above y c (o5 h))
 ·have hi:i < vs.length:=by
   unfold start at h2;by_cases hi:i < vs.length
   ·exact hi
   ·rw[c5 (by simpa using hi)]at h2;rw[j0]at h2;split at h2 <;> cases h2
  have ha:vs[i]?=some v:=by
   unfold start at h2;rw[h8 (by simpa using hi),x3]at h2;cases e:vs[i]? with
   |none=>rw[e]at h2;cases h2
   |some a=>rw[e]at h2;cases h2;rfl
  obtain⟨u,hu,rv⟩:=r.get ha;have hp:ps[i]?=some y:=by rw[<- S.pre,getElem?_take_of_lt (by omega)];exact h1
  have PJ:ps.Nodup:=by rw[<- S.pre];exact S.nd.sublist (take_sublist _ _)
  refine⟨u,rv,?_⟩;rcases S.par y (m8 hp)with k|k
  ·exact .inl ⟨k,kz PJ hp hu k⟩
  ·obtain⟨c,e⟩:=nU (n:=s.heap.objs.size+1) k;refine .inr ⟨.inl k,c,e,?_⟩;have q:=x.cell y c e;rw[kG PJ hp hu (by show scope.names.lookup y≠_;rw[k];decide)]at q;exact q
 ·exact e0.aK.fresh (D7 (x.above y c (o5 h)))
 ·unfold start;show _=N.length;rw[r6,A8,l8];omega
theorem DG{CX:Eu}{P:Program}{w:World}{K:J8}{mg:Str->Option Value}{base:Heap}{k:Nat}{f:Addr}{name qual:Str}{params:Arguments}{body:List Stmt}{scope:Scope}{dV kV doc pm bQ ct oc:Value}{an od:Option Addr} {pK:Array (Option Value)} {N ps:List Str} {sp:Sp} (lk:K.lookup f=some ⟨oc,od,.func (PySem.W.fnOf name qual params body scope dV kV doc pm an bQ ct),pK⟩) (hcd:PySem.W.codeIn K bQ qual=true) (S:cu N ps scope) (len:∀vs H Q E,sp vs H Q E->vs.length=ps.length) (bW:∀(A:Around) (outer:List Env) (s:Shared) (H:Hp) (vs:List V) (Q:VK) (E:XK),bf k (A.deeper (envOfC qual scope s.heap.objs.size f bQ))->sp vs H Q E->
   ∃t,nZ (lB CX P w K mg base N qual scope f bQ A outer s H E) body t/\t {nx:=λ _ H'=>Q .aY H',rt:=Q} (start N vs) H):
  aX P w K mg base CX (k+1) f (PySem.W.fnOf name qual params body scope dV kV doc pm an bQ ct) ps sp:=by
 refine⟨len,λ A outer s H args us vs Q E hr e0 hb r vp=>?_⟩;have hl:=len _ _ _ _ vp;have KX:K.In s.heap:=e0.mod.Mo.keeps λ b o e=>(e0.bs b o e).1;have lim:s.heap.NoLimit:=e0.mod.nolimit.keeps λ b o e=>(e0.bs b o e).1;have xA:∀y∈ps.zip us,scope.names.lookup y.1=some .local\/(scope.names.lookup y.1=some .cell/\((cellsFrom (s.heap.objs.size+1) scope.names []).lookup y.1).isSome=true):=λ⟨n,v⟩ hy=>by
  rcases S.par n (of_mem_zip hy).1 with q|q
  ·exact .inl q
  ·exact .inr ⟨q,PySem.W.cellsFrom_some _ _ _ (.inl q)⟩
 refine codeAny_call_function hr.depth (KX _ _ lk) rfl S.co S.gen rfl (PySem.W.codeRec_of KX hcd) (hb _ _ _ _ ?_);refine wpAny_newFunctionEnv_cells S.kind xA λ env he s1 x=>?_;subst he;refine⟨lim.keeps x.toInCall.keep,codeAny_func ?_⟩;obtain⟨t,ht,hq⟩:=bW A outer s H vs Q E (hr.deeper _) vp;have I:Inv (lB CX P w K mg base N qual scope f bQ A outer s H E) [] (start N vs) H s1:=zq S hr.hd e0 hl r x;refine G4 (ht [] s1 (start N vs) H _ I hq) (λ fl s' hs=>?_) λ e s' hs=>hs;have fin:∀{σ':St} {H':Hp} {v:V} {u:Value},Inv (lB CX P w K mg base N qual scope f bQ A outer s H E) [] σ' H' s'->RelV v u->Q v H'->CE outer P w H s Q u s':=
  λ{σ' H' v u} J rv q=>⟨v,H',J.os,J.bare,J.base,J.aK,rv,q⟩
 cases fl with
 |ret u=>obtain⟨v,σ',H',J,rv,q⟩:=hs;exact fin J rv q
 |next=>obtain⟨σ',H',J,q⟩:=hs;exact fin (v:=V.aY) (u:=Value.none) J rfl q
 |brk=>obtain⟨_,_,_,q⟩:=hs;exact False.elim q
 |cont=>obtain⟨_,_,_,q⟩:=hs;exact False.elim q
section
variable {X:Cx}{x:Str}{p pos:Pos}{e:Expr}{es:List Expr}{t:TA}{id T:String}{r:List V->Hp->VK->Prop}
def RN(r:List V->Hp->VK->Prop)(t:TA):TE:=λ σ H Q=>t σ H λ vs H1=>r vs H1 Q
theorem jn(hc:de X (.builtin id) r)(hg:Gl X x)(hm:X.mg x=none)(hv:bootBuiltins x=some (.builtin id))(ha:PA X (e::es) t)(hn:x≠"__name__":=by decide)(hdb:(x==("__debug__":Str))=false:=by decide) (he:starEach (e::es) X.env=(false,eval e X.env)::starEach es X.env:=by rfl) (hpl:(backTo pos (starEach es X.env)).any (·.1)=false:=by rfl):PE X (.Call (.Name x p) (e::es) [] pos) (RN r t):=by intro pins s σ H Q I h;refine u5 (j' I hg hm hv ?_ hn hdb);exact PyProof.Rows.callWith_builtin1 (bZ (ha pos pins s σ H _ I h) λ us s1 ⟨vs,H1,I1,r1,q1⟩=>hc pins s1 σ H1 vs us Q I1 r1 q1) he hpl
theorem pJ(hc:de X (.type T) r)(hg:Gl X x)(hm:X.mg x=none)(hv:bootBuiltins x=some (.type T))(ha:PA X (e::es) t)(hn:x≠"__name__":=by decide)(hdb:(x==("__debug__":Str))=false:=by decide) (he:starEach (e::es) X.env=(false,eval e X.env)::starEach es X.env:=by rfl) (hpl:(backTo pos (starEach es X.env)).any (·.1)=false:=by rfl):PE X (.Call (.Name x p) (e::es) [] pos) (RN r t):=by intro pins s σ H Q I h;refine u5 (j' I hg hm hv ?_ hn hdb);exact a9 (bZ (ha pos pins s σ H _ I h) λ us s1 ⟨vs,H1,I1,r1,q1⟩=>hc pins s1 σ H1 vs us Q I1 r1 q1) he hpl
end
end L2
namespace HT
open PySem PyProof.Rows
section
variable {prog:Program}{w:World}{A:Around}{E:Value->Shared->Prop}{s:Shared}
theorem IF{t b:Addr}{vs ws:List Value}{Q:Value->Shared->Prop}(ht:IsTup s.heap t vs.toArray)(hb:IsTup s.heap b ws.toArray)(hv:vs≠[]) (h1:ws=[]->Q (.ref t) s) (h2:ws≠[]->Q (.ref s.heap.objs.size) {s with heap:=s.heap.push {cls:=.type "tuple",data:=.seq (vs++ws).toArray}}) (hsz:vs.length+ws.length<=sizeLine):wpAny (model prog w) A (binaryOp .Add (.ref t) (.ref b)) Q E s:=by
 obtain⟨⟨cls,dd,data,sl⟩,ho,hc,n,hd⟩:=id ht;obtain⟨⟨ZI,Wq,data2,VB⟩,NU,Wa,n2,hd2⟩:=id hb;simp only at hc hd Wa hd2;subst hc hd Wa hd2;have e:vs.toArray++ws.toArray=(vs++ws).toArray:=by simp
 by_cases hw:ws=[]
 ·exact concat_meets ⟨_,ho,rfl⟩ ⟨_,NU,rfl⟩ noFill_tuple_add seq_tuple_add PySem.F.slot_tuple_add PySem.F.entry_tuple_add (PySem.F.args_tuple_add_2 _ _)
   (tuple_addW1 t b vs.toArray ws.toArray n n2 dd Wq sl VB (by simpa using hv) (by simp[hw])) ⟨ho,NU,h1 hw⟩
 ·refine concat_meets ⟨_,ho,rfl⟩ ⟨_,NU,rfl⟩ noFill_tuple_add seq_tuple_add PySem.F.slot_tuple_add PySem.F.entry_tuple_add (PySem.F.args_tuple_add_2 _ _)
   (tuple_addW2 t b vs.toArray ws.toArray n n2 dd Wq sl VB (by simpa using hv) (by simpa using hw) (by rw[y3,y3];exact hsz)) ⟨ho,NU,?_⟩
  rw[e];exact h2 hw
def bO(n d:Nat):Option Int->Nat
 |none=>d
 |some v=>if v < 0 then(v+(n:Int)).toNat else min v.toNat n
theorem uG(n d:Nat)(hd:d<=n)(o:Option Int):bO n d o<=n:=by
 cases o with
 |none=>exact hd
 |some v=>
  show(if v < 0 then(v+(n:Int)).toNat else min v.toNat n)<=n;by_cases hv:v < 0
  ·rw[J0 hv];omega
  ·rw[J7 hv];exact Nat.min_le_right _ _
theorem xV(v:Int)(n d:Nat):(if v < 0 then max (v+(n:Int)) 0 else min v (n:Int))=((bO n d (some v):Nat):Int):=by
 show(if v < 0 then max (v+(n:Int)) 0 else min v (n:Int))=(((if v < 0 then(v+(n:Int)).toNat else min v.toNat n):Nat):Int);by_cases hv:v < 0
 ·simp only[J0 hv];omega
 ·simp only[J7 hv];omega
theorem v_(lo hi:Option Int)(n:Nat):Builtin.Slice.sliceAdjust lo hi 1 (n:Int)=(((bO n 0 lo:Nat):Int),((bO n n hi:Nat):Int)):=by
 have h1:¬((1:Int) < 0):=by omega
 unfold Builtin.Slice.sliceAdjust;simp only[h1,G7];refine Prod.ext ?_ ?_
 ·cases lo with
  |none=>rfl
  |some v=>exact xV v n 0
 ·cases hi with
  |none=>rfl
  |some v=>exact xV v n n
theorem uT(i j:Nat):Builtin.Slice.slicePlaces (i:Int) (j:Int) 1=j - i:=by
 unfold Builtin.Slice.slicePlaces;have h1:(1:Int) > 0:=by omega
 simp only[h1,if_true,Int.ediv_one];split <;> omega
theorem mJ{v:Value}{o:Option Int}{Q:Option Int->Shared->Prop}(p:IsPart v o)(h:Q o s):wpAny (model prog w) A (Builtin.Slice.slicePartIndex v) Q E s:=by
 cases p with
 |none=>exact slicePart_none h
 |int i t=>exact slicePart_int h
theorem eV{sl:Addr}{vl vu:Value}{lo hi:Option Int}{n:Nat}{Q:Int×Int×Nat->Shared->Prop}(hs:s.heap.IsSliceOf sl vl vu .none)(pl:IsPart vl lo)(pu:IsPart vu hi) (h:Q (((bO n 0 lo:Nat):Int),1,bO n n hi - bO n 0 lo) s):wpAny (model prog w) A (Builtin.Slice.sliceApplied (.ref sl) (pure (n:Int))) Q E s:=by obtain⟨os,lX,Dx,Dv⟩:=id hs;unfold Builtin.Slice.sliceApplied Builtin.Slice.sliceFields;refine G1 (G1 (G0 lX Dv (x:=vl) rfl (G1 (G0 lX Dv (x:=vu) rfl (G1 (G0 lX Dv (x:=.none) rfl (G2 ?_)))))));refine G1 (slicePart_none ?_);show wpAny _ _ (if((1:Int)==0)=true then _ else _) _ _ s;rw[J7 (by decide)];refine G1 (mJ pl (G1 (mJ pu (G1 (G2 ?_)))));show wpAny _ _ (match Builtin.Slice.sliceAdjust lo hi 1 (n:Int)with|(lo,hi)=>pure (lo,(1:Int),Builtin.Slice.slicePlaces lo hi 1)) _ _ s;rw[v_ lo hi n];show wpAny _ _ (pure (((bO n 0 lo:Nat):Int),(1:Int),Builtin.Slice.slicePlaces ((bO n 0 lo:Nat):Int) ((bO n n hi:Nat):Int) 1)) _ _ s;rw[uT];exact G2 h
theorem B_(xs:Array Value)(i k:Nat):((List.range k).filterMap λ(m:Nat)=>xs[((i:Int)+(m:Int)*1).toNat]?).toArray=((xs.toList.drop i).take k).toArray:=by
 have e:(λ(m:Nat)=>xs[((i:Int)+(m:Int)*1).toNat]?)=λ m=>xs[i+m]?:=by
  funext m;have:((i:Int)+(m:Int)*1).toNat=i+m:=by omega
  rw[this]
 rw[e];have:=pick_run xs i k;rw[filterMap_map]at this;have e2:((λ x=>xs[x]?)∘λ x=>i+x)=λ m=>xs[i+m]?:=rfl;rw[e2]at this;rw[this]
theorem jA{t sl:Addr}{items:Array Value}{vl vu:Value}{lo hi:Option Int}{Q:Value->Shared->Prop}(ht:IsTup s.heap t items)(hs:s.heap.IsSliceOf sl vl vu .none)(pl:IsPart vl lo)(pu:IsPart vu hi) (hw:¬(bO items.size 0 lo=0/\bO items.size items.size hi=items.size)) (h:Q (.ref s.heap.objs.size) {s with heap:=s.heap.push {cls:=.type "tuple",data:=.seq ((items.toList.drop (bO items.size 0 lo)).take (bO items.size items.size hi - bO items.size 0 lo)).toArray}}) (hsz:items.size<=sizeLine):wpAny (model prog w) A (getItem (.ref t) (.ref sl)) Q E s:=by
 have xy:sizeOk (.seq ((items.toList.drop (bO items.size 0 lo)).take (bO items.size items.size hi - bO items.size 0 lo)).toArray):=by show((items.toList.drop (bO items.size 0 lo)).take (bO items.size items.size hi - bO items.size 0 lo)).toArray.size<=sizeLine;rw[y3,z7,length_drop,o7];omega
 have hj:bO items.size items.size hi<=items.size:=uG _ _ (D8 _) hi;obtain⟨os,lX,Dx,Dv⟩:=id hs;have UH:s.TypeIs (.ref sl) "slice":=⟨os,lX,Dx⟩;unfold getItem
 try with_reducible refine B8 ?_
 first|refine G1 (G2 ?_)|skip
 refine G1 (wpAny_sequenceKey ht.typeIs (by decide) ?_);refine G1 (j4 (name:=Str.ofString "__getitem__") ht.typeIs a8
  (z5 a8 ht.typeIs entry_tuple_getitem ?_ (args_tuple_getitem _ _)))
 show wpAny _ _ (Builtin.Tuple.tupleItemsOf (.ref t) >>= _) _ _ s;refine G1 (tupleItemsOf_ ht ?_);refine G1 (wpAny_typeOf UH ?_);rw[J0 (by decide)];refine G1 (eV hs pl pu ?_);have Yf:¬((((bO items.size 0 lo:Nat):Int)==0&&(1:Int)==1&&(bO items.size items.size hi - bO items.size 0 lo)==items.size)=true):=by intro q;rw[z6,z6]at q;have q1:((bO items.size 0 lo:Nat):Int)=0:=eq_of_beq q.1.1;have q2:bO items.size items.size hi - bO items.size 0 lo=items.size:=eq_of_beq q.2;exact hw ⟨by omega,by omega⟩
 show wpAny _ _ (if(((bO items.size 0 lo:Nat):Int)==0&&(1:Int)==1&&(bO items.size items.size hi - bO items.size 0 lo)==items.size)=true then _ else _) _ _ s;rw[J7 Yf,B_]
 first
  |exact G1 (m:=Builtin.Tuple.tupleExact _) (x5 (G2 ⟨_,rfl,G2 h⟩) xy)
  |exact G1 (m:=Builtin.Tuple.tupleExact _) (x5 (G1 (G2 (G2 ⟨_,rfl,G2 h⟩))) xy)
  |exact G1 (G1 (m:=Builtin.Tuple.tupleExact _) (x5 (G2 (G2 ⟨_,rfl,G2 h⟩)) xy))
  |exact G1 (G1 (m:=Builtin.Tuple.tupleExact _) (x5 (G2 ⟨_,rfl,G2 h⟩) xy))
end
end HT
namespace L2
open PySem PySem.Spec PyProof.Rows
abbrev TO:=St->Hp->(Option Int->Hp->Prop)->Prop
def PO(X:Cx)(e:Option Expr)(t:TO):Prop:=
 ∀(pins:List (Addr×Obj)) (s:Shared) (σ:St) (H:Hp) (Q:Option Int->Hp->Prop),Inv X pins σ H s->t σ H Q->
  wpAny (model X.prog X.w) X.A (evalPart e X.env) (λ u s'=>∃o H',Inv X pins σ H' s'/\IsPart u o/\Q o H') X.xe s
def Fs:TO:=λ _ H Q=>Q none H
def Of(t:TE):TO:=λ σ H Q=>t σ H λ x H1=>∃i,x=.int i/\Q (some i) H1
section
variable {X:Cx}{e:Expr}{te:TE}{lo hi:Option Expr}{tl th:TO}{pos p2:Pos}
theorem GU:PO X none Fs:=by intro pins s σ H Q I h;rw[evalPart_none];exact G2 ⟨none,H,I,.none,h⟩
theorem GS(h:PE X e te):PO X (some e) (Of te):=by intro pins s σ H Q I hw;rw[evalPart_some];refine bZ (h pins s σ H _ I hw) λ u s1 ⟨x,H1,I1,r1,q1⟩=>?_;obtain⟨i,rfl,q⟩:=q1;obtain⟨t,rfl⟩:=r1;exact⟨some i,H1,I1,.int i t,q⟩
def yc(X:Cx)(r:V->Option Int->Option Int->Hp->VK->Prop):Prop:=
 ∀(pins:List (Addr×Obj)) (s:Shared) (σ:St) (H:Hp) (x:V) (v vl vu:Value) (lo hi:Option Int) (sl:Addr) (Q:VK),Inv X pins σ H s->RelV x v->s.heap.IsSliceOf sl vl vu .none->IsPart vl lo->IsPart vu hi->r x lo hi H Q->
  ∃T id,typeLookup (.type T) "__getitem__"=pure (some (.builtin id))/\s.TypeIs v T/\wpAny (model X.prog X.w) X.A (getItem v (.ref sl)) (EP X pins σ Q) X.xe s
theorem yc.or {r r':V->Option Int->Option Int->Hp->VK->Prop}(h:yc X r)(h':yc X r'):yc X (λ x lo hi H Q=>r x lo hi H Q\/r' x lo hi H Q):=by
 intro pins s σ H x v vl vu lo hi sl Q I rx hs pl pu q;rcases q with q|q
 ·exact h pins s σ H x v vl vu lo hi sl Q I rx hs pl pu q
 ·exact h' pins s σ H x v vl vu lo hi sl Q I rx hs pl pu q
def W4(r:V->Option Int->Option Int->Hp->VK->Prop)(te:TE)(tl th:TO):TE:=λ σ H Q=>te σ H λ x H1=>tl σ H1 λ l H2=>th σ H2 λ u H3=>r x l u H3 Q
theorem Cf{r:V->Option Int->Option Int->Hp->VK->Prop}(hr:yc X r)(he:PE X e te)(hl:PO X lo tl)(hu:PO X hi th):PE X (.Subscript e (.Slice lo hi none p2) pos) (W4 r te tl th):=by intro pins s σ H Q I h;refine Subscript_ (bZ (he pins s σ H _ I h) λ v s1 ⟨x,H1,I1,r1,q1⟩=>?_);refine wpAny_Slice (bZ (hl pins s1 σ H1 _ I1 q1) λ vl s2 ⟨l,H2,I2,pl,q2⟩=>bZ (hu pins s2 σ H2 _ I2 q2) λ vu s3 ⟨u,H3,I3,pu,q3⟩=>?_);rw[evalPart_none];refine G2 ?_;have I4:Inv X pins σ H3 {s3 with heap:=s3.heap.push {cls:=.type "slice",data:=.fields #[vl,vu,.none]}}:=I3.kept (t':=s3.toks) λ b ob q=>j8 _ q;obtain⟨T,id,hT,ht,hg⟩:=hr pins {s3 with heap:=s3.heap.push {cls:=.type "slice",data:=.fields #[vl,vu,.none]}} σ H3 x v vl vu l u s3.heap.objs.size Q I4 r1 (Heap.IsSliceOf.new ..) pl pu q3;show wpAny (model X.prog X.w) X.A (subscriptTail e (.Slice lo hi none p2) v (.ref s3.heap.objs.size)) (EP X pins σ Q) X.xe {s3 with heap:=s3.heap.push {cls:=.type "slice",data:=.fields #[vl,vu,.none]}};exact tail_any (ops:=[.ref s3.heap.objs.size,v]) ht hT hg (by with_unfolding_all rfl)
def tM(xs:List V)(lo hi:Option Int):List V:=(xs.drop (HT.bO xs.length 0 lo)).take (HT.bO xs.length xs.length hi - HT.bO xs.length 0 lo)
theorem kU(xs:List V)(lo hi:Option Int):(tM xs lo hi).length<=xs.length:=by unfold tM;rw[z7,length_drop];omega
def OG(K:J8):V->Option Int->Option Int->Hp->VK->Prop:=λ x lo hi H Q=>∃a xs,x=.ref a/\gb K H a xs/\
 ¬(HT.bO xs.length 0 lo=0/\HT.bO xs.length xs.length hi=xs.length)/\∀p,H p=none->Q (.ref p) (upd H p (.tup (tM xs lo hi)))
theorem Kj:yc X (OG X.K):=by
 intro pins s σ H x v vl vu lo hi sl Q I rx hs pl pu h;obtain⟨a,xs,rfl,hx,hw,q⟩:=h;cases rx;obtain⟨au,r,ht,hz⟩:=I.tuple hx;have hlen:au.toArray.size=xs.length:=by rw[y3];exact r.length.symm
 refine⟨"tuple",_,a8.lookup,ht.typeIs,?_⟩;refine HT.jA ht hs pl pu (by rw[hlen];exact hw) ?_ (by rw[hlen];exact hz);rw[hlen];refine⟨.ref s.heap.objs.size,_,I.laid (t':=s.toks) (o:=.tup (tM xs lo hi)) (λ b ob q=>j8 _ q) (D8 _) ?_,rfl,q _ (I.aK.fresh (D8 _))⟩;exact⟨D3 (kU xs lo hi) hz,_,(r.drop (HT.bO xs.length 0 lo)).take (HT.bO xs.length xs.length hi - HT.bO xs.length 0 lo),IsTup.new _ _⟩
def OP(K:J8):R2:=λ x y H Q=>∃a b xs ys,x=.ref a/\y=.ref b/\gb K H a xs/\gb K H b ys/\xs≠[]/\xs.length+ys.length<=sizeLine/\
 (ys=[]->Q (.ref a) H)/\(ys≠[]->∀p,H p=none->Q (.ref p) (upd H p (.tup (xs++ys))))
theorem Vals.qK {xs:List V}{us:List Value}(r:Vals xs us):us=[]↔xs=[]:=by
 cases r with
 |nil=>simp
 |cons _ _=>simp
theorem Hj:eJ X (binaryOp .Add) (OP X.K):=by intro pins s σ H x y v u Q I rx ry h;obtain⟨a,b,xs,ys,rfl,rfl,ha,hb,hx,hz,q1,q2⟩:=h;cases rx;cases ry;obtain⟨au,r1,p1,_⟩:=I.tuple ha;obtain⟨My,r2,p2,_⟩:=I.tuple hb;refine HT.IF p1 p2 (λ z=>hx (r1.qK.mp z)) (λ z=>⟨.ref a,H,I,rfl,q1 (r2.qK.mp z)⟩) (λ z=>?_) (by rw[<- r1.length,<- r2.length];exact hz);refine⟨.ref s.heap.objs.size,_,I.laid (t':=s.toks) (o:=.tup (xs++ys)) (λ b ob q=>j8 _ q) (D8 _) ?_,rfl,q2 (λ w=>z (r2.qK.mpr w)) _ (I.aK.fresh (D8 _))⟩;exact⟨by rw[r6];exact hz,_,r1.append r2,IsTup.new _ _⟩
end
def zl(n:Nat)(i:Int):Option Nat:=if 0<=i then(if i < n then some i.toNat else none)else if -(n:Int)<=i then some (i+n).toNat else none
def f'{α:Type}(xs:List α)(i:Int):Option α:=(zl xs.length i).bind λ j=>xs[j]?
theorem xr{n:Nat}{i:Int}{j:Nat}(h:zl n i=some j):seqIndex? i n=some j/\j < n/\-(n:Int)<=i/\i < n:=by
 unfold zl at h;by_cases h0:0<=i
 ·rw[J0 h0]at h;by_cases h1:i < n
  ·rw[J0 h1]at h;have e:i.toNat=j:=A6 h;exact⟨by rw[seqIndex_of h0 h1,e],by omega,by omega,h1⟩
  ·rw[J7 h1]at h;cases h
 ·rw[J7 h0]at h;by_cases h1: -(n:Int)<=i
  ·rw[J0 h1]at h;have e:(i+n).toNat=j:=A6 h;exact⟨by rw[seqIndex_neg (by omega) h1,e],by omega,h1,by omega⟩
  ·rw[J7 h1]at h;cases h
theorem rC{α:Type}{xs:List α}{i:Int}{v:α}(h:f' xs i=some v):∃j,seqIndex? i xs.length=some j/\xs[j]?=some v/\j < xs.length/\-(xs.length:Int)<=i/\i < xs.length:=by
 unfold f' at h;cases e:zl xs.length i with
 |none=>rw[e]at h;cases h
 |some j=>rw[e]at h;obtain⟨h1,h2,h3,h4⟩:=xr e;exact⟨j,h1,h,h2,h3,h4⟩
theorem bt{α:Type}{xs:List α}{j:Nat}{v:α}(h:xs[j]?=some v):f' xs (j:Int)=some v:=by
 have hj:j < xs.length:=(i4.mp h).1;have e:zl xs.length (j:Int)=some j:=by unfold zl;rw[J0 (by omega),J0 (by omega)];simp
 unfold f';rw[e];exact h
def rF(b:Expr):Prop:=∀o i,subscripted b false o i=operate [o,i] (getItem o i)
def wb(X:Cx)(r:R2):Prop:=
 ∀(value slice:Expr) (pins:List (Addr×Obj)) (s:Shared) (σ:St) (H:Hp) (x y:V) (v u:Value) (Q:VK),Inv X pins σ H s->RelV x v->RelV y u->r x y H Q->
  subscripted slice false v u=operate [v,u] (getItem v u)->wpAny (model X.prog X.w) X.A (subscriptTail value slice v u) (EP X pins σ Q) X.xe s
def Vb(X:Cx)(id:String)(r:V->List V->Hp->VK->Prop):Prop:=
 ∀(pins:List (Addr×Obj)) (s:Shared) (σ:St) (H:Hp) (x:V) (xs:List V) (v:Value) (us:List Value) (Q:VK),Inv X pins σ H s->RelV x v->Vals xs us->r x xs H Q->
  wpAny (model X.prog X.w) X.A (call (.builtin id) (v::us)) (EP X pins σ Q) X.xe s
section
variable {X:Cx}{a b:Expr}{ta tb:TE}{pos:Pos}
theorem wb.or {r r':R2}(h:wb X r)(h':wb X r'):wb X (λ x y H Q=>r x y H Q\/r' x y H Q):=by
 intro value slice pins s σ H x y v u Q I rx ry q hs;rcases q with q|q
 ·exact h value slice pins s σ H x y v u Q I rx ry q hs
 ·exact h' value slice pins s σ H x y v u Q I rx ry q hs
theorem O6{r:R2}(hr:wb X r)(ha:PE X a ta)(hb:PE X b tb)(hs:rF b):PE X (.Subscript a b pos) (Og r ta tb):=by intro pins s σ H Q I h;exact Subscript_ (Nx ha hb I h λ v u s2 x y H2 I2 rx ry q=>hr a b pins s2 σ H2 x y v u Q I2 rx ry q (hs _ _))
def OM(K:J8):R2:=λ x y H Q=>∃p xs i v,x=.ref p/\y=.int i/\fb K H p xs/\f' xs i=some v/\Q v H
def OK(K:J8):R2:=λ x y H Q=>∃p xs i v,x=.ref p/\y=.int i/\gb K H p xs/\f' xs i=some v/\Q v H
def OL:R2:=λ x y H Q=>∃z i c,x=.str z/\y=.int i/\z.length<=sizeLine/\f' z.cps.toList i=some c/\Q (.str ⟨#[c]⟩) H
theorem HR:wb X (OM X.K):=by
 intro value slice pins s σ H x y v u Q I rx ry h hs;obtain⟨p,xs,i,z,rfl,rfl,hq,he,q⟩:=h;cases rx;obtain⟨t,rfl⟩:=ry;obtain⟨au,r,pl,hz⟩:=I.list hq;obtain⟨j,h1,h2,h3,h4,h5⟩:=rC he;obtain⟨w,ew,kZ⟩:=r.get h2;have hl:=r.length;have hn:=j_;have fin:EP X pins σ Q w s:=⟨z,H,I,kZ,q⟩;by_cases h0:0<=i
 ·have hj:i.toNat=j:=by rw[seqIndex_of h0 h5]at h1;exact A6 h1
  exact item_listR pl.isList h0 (by omega) (by rw[hj];simpa using ew) fin hs
 ·have hj:(i+(au.toArray.size:Int)).toNat=j:=by rw[seqIndex_neg (by omega) h4]at h1;rw[y3,<- hl];exact A6 h1
  exact subscriptTail_builtinR (x:=w) pl.isList.typeIs slot_list_getitem.lookup
   (wpAny_getItem_list_neg (Q:=λ r s'=>r=w/\EP X pins σ Q r s') pl.isList (by omega) (by rw[y3] <;> omega) (by omega) (by rw[hj];simpa using ew) ⟨rfl,fin⟩) hs
theorem Mu:wb X (OK X.K):=by
 intro value slice pins s σ H x y v u Q I rx ry h hs;obtain⟨p,xs,i,z,rfl,rfl,hq,he,q⟩:=h;cases rx;obtain⟨t,rfl⟩:=ry;obtain⟨au,r,pl,hz⟩:=I.tuple hq;obtain⟨j,h1,h2,h3,h4,h5⟩:=rC he;obtain⟨w,ew,kZ⟩:=r.get h2;have hl:=r.length;have hn:=j_;have fin:EP X pins σ Q w s:=⟨z,H,I,kZ,q⟩;exact subscriptTail_builtinR (x:=w) pl.typeIs slot_tuple_getitem.lookup
  (getItem_tuple (j:=j) (Q:=λ r s'=>r=w/\EP X pins σ Q r s') pl (by omega) (by omega) (by rw[y3,<- hl];exact h1) (by simpa using ew) ⟨rfl,fin⟩) hs
theorem Mv:wb X OL:=by
 intro value slice pins s σ H x y v u Q I rx ry h hs;obtain⟨z,i,c,rfl,rfl,hz,he,q⟩:=h;obtain⟨t,rfl⟩:=rx;obtain⟨t',rfl⟩:=ry;obtain⟨j,h1,h2,h3,h4,h5⟩:=rC he;have hl:z.cps.toList.length=z.length:=by simp[Str.length]
 rw[hl]at h1 h4 h5;have hn:=j_;exact tail_any (typeIs_str s z t) slot_str_getitem.lookup (getItem_str (c:=c) (by
  have e1:decide (i < -(2^63:Int))=false:=A4 (by omega);have e2:decide (i ≥ 2^63)=false:=A4 (by omega);rw[e1,e2,Bool.or_false]) (by rw[h1];simpa using h2) ⟨.str ⟨#[c]⟩,H,I.tok _,⟨_,rfl⟩,q⟩) hs
def Xd(K:J8):R2:=λ x y H Q=>OM K x y H Q\/OK K x y H Q\/OL x y H Q
theorem Mw:wb X (Xd X.K):=HR.or (Mu.or Mv)
theorem vc(au:List Value)(n j:Nat)(u:Value):Obj.mapSeq (·.setIfInBounds j u) {cls:=.type "list",data:=.seq au.toArray n}={cls:=.type "list",data:=.seq (au.set j u).toArray n}:=by simp[Obj.mapSeq]
theorem Inv.lst {pins:List (Addr×Obj)}{σ:St}{H:Hp}{s:Shared}{p:Addr}{xs:List V}(I:Inv X pins σ H s)(h:H p=some (.lst xs)):∃(au:List Value) (n:Nat),Vals xs au/\s.heap.get? p=some {cls:=.type "list",data:=.seq au.toArray n}/\xs.length<=sizeLine:=by obtain⟨z,au,n,r,e⟩:=I.aK p _ h;exact⟨au,n,r,e,z⟩
theorem Inv.Mi {pins:List (Addr×Obj)}{σ:St}{H:Hp}{s:Shared}{p:Addr}{xs ys:List V}{au its':List Value}{n n':Nat}{f:Obj->Obj}(I:Inv X pins σ H s)(h:H p=some (.lst xs)) (ho:s.heap.get? p=some {cls:=.type "list",data:=.seq au.toArray n}) (hf:f {cls:=.type "list",data:=.seq au.toArray n}={cls:=.type "list",data:=.seq its'.toArray n'}) (r:Vals ys its') (hz:ys.length<=sizeLine) (t:Nat):Inv X pins σ (upd H p (.lst ys)) {s with heap:=s.heap.update p f,toks:=t}:=by
 have e:(s.heap.update p f).get? p=some {cls:=.type "list",data:=.seq its'.toArray n'}:=by rw[k8 f ho (by rw[hf] <;> rfl),hf]
 refine I.write (x:=p) (e:=p) (by rw[h];trivial) (.inl rfl) (λ b u hb q=>(j9 _ _ (H9 hb)).trans q) ⟨_,e⟩ ?_;exact⟨hz,its',n',r,e⟩
def OI:V->V->V->Hp->(Hp->Prop)->Prop:=λ o i v H Q=>∃p xs k j,o=.ref p/\i=.int k/\H p=some (.lst xs)/\zl xs.length k=some j/\Q (upd H p (.lst (xs.set j v)))
theorem set_list:rG X OI:=by
 intro pins s σ H o i v ov iv u Q I ro ri rv h;obtain⟨p,xs,k,j,rfl,rfl,hp,hj,q⟩:=h;cases ro;obtain⟨t,rfl⟩:=ri;obtain⟨au,n,r,ho,hz⟩:=I.lst hp;obtain⟨h1,h2,h3,h4⟩:=xr hj;have hl:=r.length;have hn:=j_;have I':Inv X pins σ (upd H p (.lst (xs.set j v))) {s with heap:=s.heap.update p (Obj.mapSeq (·.setIfInBounds j u))}:=
  I.Mi hp ho (vc au n j u) (r.set rv j) (by rw[length_set];exact hz) s.toks
 by_cases h0:0<=k
 ·have hk:k.toNat=j:=by rw[seqIndex_of h0 h4]at h1;exact A6 h1
  exact PySem.W.ki_setAt ho h0 (by omega) (by rw[y3,<- hl];exact h4) (by rw[hk];exact⟨_,I',q⟩)
 ·have hk:(k+(au.toArray.size:Int)).toNat=j:=by rw[seqIndex_neg (by omega) h3]at h1;rw[y3,<- hl];exact A6 h1
  exact PySem.W.ki_setBack ho (by omega) (by rw[y3,<- hl];exact h3) (by omega) (by rw[hk];exact⟨_,I',q⟩)
theorem iZ(lo hi:Option Int)(n:Nat):(sliceBounds lo hi none n).1=((HT.bO n 0 lo:Nat):Int)/\(sliceBounds lo hi none n).2.1=((HT.bO n n hi:Nat):Int)/\(sliceBounds lo hi none n).2.2=1:=by
 refine⟨?_,?_,rfl⟩
 ·cases lo with
  |none=>simp[sliceBounds,HT.bO]
  |some i=>
   simp only[sliceBounds,HT.bO,Option.getD_none,show(1:Int) > 0 by decide,if_true];by_cases h:i < 0
   ·simp only[h,if_true] <;> omega
   ·simp only[h,G7] <;> omega
 ·cases hi with
  |none=>simp[sliceBounds,HT.bO]
  |some i=>
   simp only[sliceBounds,HT.bO,Option.getD_none,show(1:Int) > 0 by decide,if_true];by_cases h:i < 0
   ·simp only[h,if_true] <;> omega
   ·simp only[h,G7] <;> omega
theorem oy(au:List Value)(lo hi:Option Int):slicePick au.toArray lo hi none=((au.drop (HT.bO au.length 0 lo)).take (HT.bO au.length au.length hi - HT.bO au.length 0 lo)).toArray:=by obtain⟨h1,h2,h3⟩:=iZ lo hi au.toArray.size;unfold slicePick;rw[h1,h2,h3];simp only[sliceRange_one,pick_run,y3] <;> rfl
def OH(K:J8):V->Option Int->Option Int->Hp->VK->Prop:=λ x lo hi H Q=>∃a xs,x=.ref a/\fb K H a xs/\∀p,H p=none->Q (.ref p) (upd H p (.lst (tM xs lo hi)))
theorem Fy:yc X (OH X.K):=by intro pins s σ H x v vl vu lo hi sl Q I rx hs pl pu h;obtain⟨a,xs,rfl,hx,q⟩:=h;cases rx;obtain⟨au,r,ht,hz⟩:=I.list hx;have hlen:=r.length;refine⟨"list",_,slot_list_getitem.lookup,ht.isList.typeIs,?_⟩;refine wpAny_getItem_list_slice ht.isList hs pl pu .none (by simp) ?_ (by rw[y3] <;> omega);rw[oy,<- hlen];refine⟨.ref s.heap.objs.size,_,I.laid (t':=s.toks) (o:=.lst (tM xs lo hi)) (λ b ob q=>j8 _ q) (D8 _) ?_,rfl,q _ (I.aK.fresh (D8 _))⟩;exact⟨D3 (kU xs lo hi) hz,_,0,(r.drop (HT.bO xs.length 0 lo)).take (HT.bO xs.length xs.length hi - HT.bO xs.length 0 lo),o8 _ rfl⟩
def fV:V->Bool
 | .aY=>true
 | .bl _=>true
 | .int _=>true
 | .str _=>true
 |_=>false
def JC:V->V->Bool
 | .aY,.aY=>true
 | .bl a,.bl b=>a==b
 | .bl a,.int b=>(if a then 1 else 0)==b
 | .int a,.bl b=>a==(if b then 1 else 0)
 | .int a,.int b=>a==b
 | .str a,.str b=>a==b
 |_,_=>false
theorem MZ{A:Around}{s:Shared}{y x:V}{u v:Value}(ry:RelV y u)(rx:RelV x v)(fy:fV y=true)(fx:fV x=true):SeqAt.EqAt A s u v (JC y x):=by
 cases y with
 |aY=>
  cases ry;cases x with
  |aY=>cases rx;exact SeqAt.EqAt.same _
  |bl b=>cases rx;exact SeqAt.EqAt.none_bool b
  |int b=>obtain⟨t,rfl⟩:=rx;exact SeqAt.EqAt.none_int b t
  |str b=>obtain⟨t,rfl⟩:=rx;exact SeqAt.EqAt.none_str b t
  |_=>exact absurd (show false=true from fx) r0
 |bl a=>
  cases ry;cases x with
  |aY=>cases rx;exact SeqAt.EqAt.bool_none a
  |bl b=>cases rx;exact SeqAt.EqAt.bool_bool a b
  |int b=>obtain⟨t,rfl⟩:=rx;exact SeqAt.EqAt.bool_int a b t
  |str b=>obtain⟨t,rfl⟩:=rx;exact SeqAt.EqAt.bool_str a b t
  |_=>exact absurd (show false=true from fx) r0
 |int a=>
  obtain⟨t',rfl⟩:=ry;cases x with
  |aY=>cases rx;exact SeqAt.EqAt.int_none a t'
  |bl b=>cases rx;exact SeqAt.EqAt.int_bool a t' b
  |int b=>obtain⟨t,rfl⟩:=rx;exact SeqAt.EqAt.int_int a t' b t
  |str b=>obtain⟨t,rfl⟩:=rx;exact SeqAt.EqAt.int_str a t' b t
  |_=>exact absurd (show false=true from fx) r0
 |str a=>
  obtain⟨t',rfl⟩:=ry;cases x with
  |aY=>cases rx;exact SeqAt.EqAt.str_none a t'
  |bl b=>cases rx;exact SeqAt.EqAt.str_bool a t' b
  |int b=>obtain⟨t,rfl⟩:=rx;exact SeqAt.EqAt.str_int a t' b t
  |str b=>obtain⟨t,rfl⟩:=rx;exact SeqAt.EqAt.str_str a t' b t
  |_=>exact absurd (show false=true from fx) r0
 |_=>exact absurd (show false=true from fy) r0
def Il(x:V)(u:Value):Bool:=match u with
 | .none=>JC .aY x
 | .bool b=>JC (.bl b) x
 | .int i _=>JC (.int i) x
 | .str z _=>JC (.str z) x
 |_=>false
theorem DP{x y:V}{u:Value}(r:RelV y u)(f:fV y=true):Il x u=JC y x:=by
 cases y with
 |aY=>cases r;rfl
 |bl b=>cases r;rfl
 |int i=>obtain⟨t,rfl⟩:=r;rfl
 |str z=>obtain⟨t,rfl⟩:=r;rfl
 |_=>exact absurd (show false=true from f) r0
theorem rD{x:V}:∀{xs:List V} {us:List Value},Vals xs us->xs.all fV=true->us.any (Il x)=xs.any λ y=>JC y x
 |_,_,.nil,_=>rfl
 |y::xs,u::us,.cons r t,f=>by rw[all_cons,z6]at f;rw[any_cons,any_cons,DP r f.1,rD t f.2]
theorem nh{A:Around}{s:Shared}{x:V}{v:Value}(rx:RelV x v)(fx:fV x=true):∀{xs:List V} {us:List Value},Vals xs us->xs.all fV=true->∀u∈us,SeqAt.EqAt A s u v (Il x u)
 |_,_,.nil,_=>λ u hu=>by cases hu
 |y::xs,u::us,.cons r t,f=>λ u' hu=>by
  rw[all_cons,z6]at f;rcases C3.mp hu with rfl|hu
  ·rw[DP r f.1];exact MZ r rx f.1 fx
  ·exact nh rx fx t f.2 u' hu
def PZ(x:V)(xs:List V):Bool:=xs.any λ y=>JC y x
def Xe(K:J8)(neg:Bool):R2:=λ x y H Q=>∃p xs,y=.ref p/\(fb K H p xs\/gb K H p xs)/\fV x=true/\xs.all fV=true/\Q (.bl (if neg then !PZ x xs else PZ x xs)) H
theorem yW:eJ X (compareOp .In) (Xe X.K false):=by
 intro pins s σ H x y v u Q I rx ry h;obtain⟨p,xs,rfl,hq,fx,fs,q⟩:=h;cases ry;rcases hq with hq|hq
 ·obtain⟨au,r,pl,hz⟩:=I.list hq;refine SeqAt.in_listAt (Il x) pl.isList (λ w hw=>nh rx fx r fs w (by simpa using hw)) ⟨.bl _,H,I,rfl,?_⟩;rw[show au.toArray.any (Il x)=au.any (Il x) by simp,rD r fs];exact q
 ·obtain⟨au,r,pl,hz⟩:=I.tuple hq;refine SeqAt.in_tupleAt (Il x) pl (λ w hw=>nh rx fx r fs w (by simpa using hw)) ⟨.bl _,H,I,rfl,?_⟩;rw[show au.toArray.any (Il x)=au.any (Il x) by simp,rD r fs];exact q
theorem qJ:eJ X (compareOp .NotIn) (λ x y H Q=>∃i j,x=.str i/\y=.str j/\Q (.bl (!(!(Builtin.Str.occurrences j i 0 j.length 1).isEmpty))) H):=by intro pins s σ H x y v u Q I rx ry h;obtain⟨i,j,rfl,rfl,q⟩:=h;obtain⟨t,rfl⟩:=rx;obtain⟨t',rfl⟩:=ry;exact notIn_str ⟨.bl _,H,I,rfl,q⟩
theorem rn:de X (.builtin "len") (λ xs H Q=>∃p ys,xs=[.ref p]/\(fb X.K H p ys\/gb X.K H p ys)/\Q (.int ys.length) H):=by
 intro pins s σ H xs us Q I r h;obtain⟨p,ys,rfl,hq,q⟩:=h;obtain⟨u,rfl,rx⟩:=vals1 r;cases rx;have hn:=j_;rcases hq with hq|hq
 ·obtain⟨au,r',pl,hz⟩:=I.list hq;have hlen:=r'.length;exact Calls.call_len_list pl.isList (by simp only[y3] <;> omega) ⟨.int ys.length,H,I.tok _,⟨s.toks+1,by rw[y3,hlen]⟩,q⟩
 ·obtain⟨au,r',pl,hz⟩:=I.tuple hq;have hlen:=r'.length;exact len_tuple pl (by simp only[y3] <;> omega) ⟨.int ys.length,H,I.tok _,⟨s.toks+1,by rw[y3,hlen]⟩,q⟩
theorem rl:de X (.builtin "len") (λ xs H Q=>∃z,xs=[.str z]/\z.length<=sizeLine/\Q (.int z.length) H):=by intro pins s σ H xs us Q I r h;obtain⟨z,rfl,hz,q⟩:=h;obtain⟨u,rfl,t,rfl⟩:=vals1 r;have hn:=j_;exact len_str (by omega) ⟨.int z.length,H,I.tok _,⟨_,rfl⟩,q⟩
theorem de.or {f:Value}{r r':List V->Hp->VK->Prop}(h:de X f r)(h':de X f r'):de X f (λ xs H Q=>r xs H Q\/r' xs H Q):=by
 intro pins s σ H xs us Q I rs q;rcases q with q|q
 ·exact h pins s σ H xs us Q I rs q
 ·exact h' pins s σ H xs us Q I rs q
theorem rk:de X (.type "list") (λ xs H Q=>∃p ys,xs=[.ref p]/\(fb X.K H p ys\/gb X.K H p ys)/\∀l,H l=none->Q (.ref l) (upd H l (.lst ys))):=by
 intro pins s σ H xs us Q I r h;obtain⟨p,ys,rfl,hq,q⟩:=h;obtain⟨u,rfl,rx⟩:=vals1 r;cases rx;have fin:∀(au:List Value),Vals ys au->ys.length<=sizeLine->∀(h':Heap) (c':Nat),(∀b o',s.heap.get? b=some o'->h'.get? b=some o')->
   h'.get? s.heap.objs.size=some {cls:=.type "list",dict:=none,data:=.seq au.toArray c',slots:=#[]}->EP X pins σ Q (.ref s.heap.objs.size) {s with heap:=h'}:=λ au r' hz h' c' kp e=>
  ⟨.ref s.heap.objs.size,_,I.laid (t':=s.toks) kp (D8 _) (show br X.prog X.w _ h' _ (.lst ys)from⟨hz,au,c',r',e⟩),rfl,q _ (I.aK.fresh (D8 _))⟩
 rcases hq with hq|hq
 ·obtain⟨au,r',pl,hz⟩:=I.list hq;have hlen:=r'.length;obtain⟨o,ho,hc,n,hd⟩:=pl.isList;exact call_list_seq p (.inl rfl) ho hc hd (λ h' c' kp e=>fin au r' hz h' c' kp e) (by simp only[y3] <;> omega)
 ·obtain⟨au,r',pl,hz⟩:=I.tuple hq;have hlen:=r'.length;obtain⟨o,ho,hc,n,hd⟩:=pl;exact call_list_seq p (.inr rfl) ho hc hd (λ h' c' kp e=>fin au r' hz h' c' kp e) (by simp only[y3] <;> omega)
theorem oR:de X (.type "tuple") (λ xs H Q=>∃p ys,xs=[.ref p]/\((fb X.K H p ys/\∀l,H l=none->Q (.ref l) (upd H l (.tup ys)))\/(gb X.K H p ys/\Q (.ref p) H))):=by
 intro pins s σ H xs us Q I r h;obtain⟨p,ys,rfl,h⟩:=h;obtain⟨u,rfl,rx⟩:=vals1 r;cases rx;rcases h with⟨hq,q⟩|⟨hq,q⟩
 ·obtain⟨au,r',pl,hz⟩:=I.list hq;have hlen:=r'.length;refine call_tuple_list pl.isList (λ h' kp=>?_) (by simp only[y3] <;> omega);have I1:Inv X pins σ H {s with heap:=h'}:=I.kept (t':=s.toks) kp;have I2:Inv X pins σ (upd H h'.objs.size (.tup ys)) {s with heap:=h'.push {cls:=.type "tuple",data:=.seq au.toArray}}:=
   I1.laid (t':=s.toks) (λ b o e=>j8 _ e) (D8 _) (show br X.prog X.w _ _ _ (.tup ys)from⟨hz,au,r',IsTup.new _ _⟩)
  exact⟨.ref h'.objs.size,_,I2,rfl,q _ (I1.aK.fresh (D8 _))⟩
 ·obtain⟨au,r',pl,hz⟩:=I.tuple hq;exact call_tuple_same pl ⟨.ref p,H,I,rfl,q⟩
def RK(K:J8)(T:String)(x:V)(H:Hp):Prop:=match x with
 | .str _=>T="str"
 | .int _=>T="int"
 | .ref p=>(T="list"/\∃xs,fb K H p xs)\/(T="tuple"/\∃o,K.lookup p=some o/\o.cls=.type "tuple"/\o.dict=none)\/
   (T="dict"/\((∃kvs,H p=some (.dK kvs))\/∃kvs,H p=some (.dT kvs)))\/(T="set"/\∃S n,H p=some (.set S n))
 |_=>False
theorem AI{pins:List (Addr×Obj)}{σ:St}{H:Hp}{s:Shared}{T:String}{x:V}{v:Value}(I:Inv X pins σ H s)(r:RelV x v)(ty:RK X.K T x H):s.TypeIs v T/\∀a,v=.ref a->∃ob,s.heap.get? a=some ob/\ob.dict=none:=by
 cases x with
 |str z=>obtain⟨t,rfl⟩:=r;cases(show T="str" from ty);exact⟨typeIs_str s z t,λ _ e=>nomatch e⟩
 |int i=>obtain⟨t,rfl⟩:=r;cases(show T="int" from ty);exact⟨typeIs_int s i t,λ _ e=>nomatch e⟩
 |ref p=>
  cases r;rcases ty with⟨rfl,xs,hq⟩|⟨rfl,o,hk,hc,hd⟩|⟨rfl,hk⟩|⟨rfl,S,n,hk⟩
  ·obtain⟨au,_,pl,_⟩:=I.list hq;refine⟨pl.isList.typeIs,λ a e=>?_⟩;cases e;obtain⟨o,n,e,c,hd,_⟩:=pl;exact⟨o,e,hd⟩
  ·refine⟨⟨o,I.jq p o hk,hc⟩,λ a e=>?_⟩;cases e;exact⟨o,I.jq _ o hk,hd⟩
  ·have z:∃o,s.heap.get? p=some o/\o.ExactDict:=by
    rcases hk with⟨kvs,hk⟩|⟨kvs,hk⟩
    ·obtain⟨_,_,_,_,o,_,_,e,ex,_⟩:=I.aK p _ hk;exact⟨o,e,ex⟩
    ·obtain⟨_,_,_,_,o,_,_,e,ex,_⟩:=I.aK p _ hk;exact⟨o,e,ex⟩
   obtain⟨o,e,ex⟩:=z;refine⟨⟨o,e,ex.1⟩,λ a e2=>?_⟩;cases e2;exact⟨o,e,ex.2.1⟩
  ·obtain⟨o,_,_,_,e,ex,_⟩:=I.aK p _ hk;refine⟨⟨o,e,ex.1⟩,λ a e2=>?_⟩;cases e2;exact⟨o,e,ex.2.1⟩
 |_=>exact False.elim ty
def S4(K:J8)(T:String)(r:V->List V->Hp->VK->Prop)(to:TE):TE:=λ σ H Q=>to σ H λ x H1=>RK K T x H1/\r x [] H1 Q
def W8(K:J8)(T:String)(r:V->List V->Hp->VK->Prop)(to:TE)(t:TA):TE:=λ σ H Q=>to σ H λ x H1=>RK K T x H1/\t σ H1 λ xs H2=>r x xs H2 Q
variable {o e:Expr}{es:List Expr}{to:TE}{t:TA}{name:Str}{apos bx:Pos}{T id:String}{r:V->List V->Hp->VK->Prop}
theorem LH(pa:PlainAttrs T)(slot:Slot T name id)(hty:typeOf (.builtin id)=pure (.type "method_descriptor"))(hm:Vb X id r)(ho:PE X o to) (hbase:attributeBase o name X.env (eval o X.env)=eval o X.env:=by rfl) (hline:(apos.endLine==bx.line)=true:=by rfl):PE X (.Call (.Attribute o name apos) [] [] bx) (S4 X.K T r to):=by intro pins s σ H Q I h;refine wpAny_Call_method0_late hbase hline (bZ (ho pins s σ H _ I h) λ v s1 ⟨x,H1,I1,r1,ty,q1⟩=>?_);obtain⟨h1,h2⟩:=AI I1 r1 ty;exact⟨T,id,pa,slot,hty,h1,h2,Calls.callWith_builtin rfl (PySem.evalArgs_none (hm pins s1 σ H1 x [] v [] Q I1 r1 .nil q1))⟩
theorem O7(pa:PlainAttrs T)(slot:Slot T name id)(hty:typeOf (.builtin id)=pure (.type "method_descriptor"))(hm:Vb X id r)(ho:PE X o to)(ha:PA X (e::es) t) (hbase:attributeBase o name X.env (eval o X.env)=eval o X.env:=by rfl) (hfew:((backTo bx (starEach (e::es) X.env)).all (λ x=>!x.1)&&(backToKw bx (keywordEach [] X.env)).all (λ x=>x.1.isSome)
   &&decide ((e::es).length+([]:List Keyword).length+(if([]:List Keyword).isEmpty then 0 else 1) < 30))=true:=by rfl)
  (hline:(apos.endLine==bx.line)=true:=by rfl) (hs:starEach (e::es) X.env=(false,eval e X.env)::starEach es X.env:=by rfl) (hplain:(backTo bx (starEach es X.env)).any (·.1)=false:=by rfl):
  PE X (.Call (.Attribute o name apos) (e::es) [] bx) (W8 X.K T r to t):=by
 intro pins s σ H Q I h;refine wpAny_Call_method_late hbase hfew hline rfl (bZ (ho pins s σ H _ I h) λ v s1 ⟨x,H1,I1,r1,ty,q1⟩=>?_);obtain⟨h1,h2⟩:=AI I1 r1 ty;refine⟨T,id,pa,slot,hty,h1,h2,?_⟩;have hA:=ha bx pins s1 σ H1 _ I1 q1;rw[hs]at hA ⊢;refine Calls.callWith_builtin (by show(false||(backTo bx (starEach es X.env)).any (·.1))=false;rw[hplain] <;> rfl) (Calls.evalArgs_plain ?_);exact bZ hA λ us s2 ⟨vs,H2,I2,r2,q2⟩=>hm pins s2 σ H2 x vs v us Q I2 r1 r2 q2
end
def JM(X:Cx)(id:String)(r:V->List V->Hp->VK->Prop):Prop:=
 ∀(pins:List (Addr×Obj)) (s:Shared) (σ:St) (H:Hp) (x:V) (xs:List V) (v:Value) (us:List Value) (Q:VK),Inv X pins σ H s->RelV x v->Vals xs us->r x xs H Q->
  wpAny (model X.prog X.w) X.A (call (.builtin id) (v::us)) (EP X pins σ Q) X.xe s
theorem Vals.one:∀{x:V} {us:List Value},Vals [x] us->∃u,us=[u]/\RelV x u
 |_,_,.cons r .nil=>⟨_,rfl,r⟩
theorem Vals.zero:∀{us:List Value},Vals [] us->us=[]
 |_,.nil=>rfl
theorem Vals.dropLast {xs:List V}{us:List Value}(h:Vals xs us):Vals xs.dropLast us.dropLast:=by
 induction h with
 |nil=>exact .nil
 |cons r t ih=>
  cases t with
  |nil=>exact .nil
  |cons q t'=>exact .cons r ih
theorem Vals.eraseIdx:∀{xs:List V} {us:List Value} (i:Nat),Vals xs us->Vals (xs.eraseIdx i) (us.eraseIdx i)
 |_,_,_,.nil=>.nil
 |_,_,0,.cons _ t=>t
 |_,_,i+1,.cons r t=>.cons r (Vals.eraseIdx i t)
theorem Vals.rep {xs:List V}{us:List Value}(h:Vals xs us):∀k:Nat,Vals (List.replicate k xs).flatten (List.replicate k us).flatten
 |0=>.nil
 |k+1=>by rw[o6,o6,x6,x6];exact Vals.append h (Vals.rep h k)
theorem vA{α:Type}(l:List α):l.eraseIdx (l.length - 1)=l.dropLast:=by
 induction l with
 |nil=>rfl
 |cons a r ih=>
  cases r with
  |nil=>rfl
  |cons b r=>
   have e:(a::b::r).length - 1=((b::r).length - 1)+1:=by have h1:(a::b::r).length=r.length+2:=rfl;have h2:(b::r).length=r.length+1:=rfl;omega
   rw[e,eraseIdx_cons_succ,ih]
   all_goals rfl
theorem pQ{α:Type}:∀(l:List α) (i:Nat),(l.eraseIdx i).length<=l.length
 |[],_=>D8 _
 |_::_,0=>Nat.le_succ _
 |_::r,i+1=>Nat.succ_le_succ (pQ r i)
theorem foldl_rep(au:List Value):∀(k:Nat) (acc:List Value),
  List.foldl (λ x1 x2=>x1++x2) acc.toArray (List.replicate k au.toArray)=(acc++(List.replicate k au).flatten).toArray
 |0,acc=>by simp
 |k+1,acc=>by
  have e:acc.toArray++au.toArray=(acc++au).toArray:=by simp
  have e2:(acc++au)++(List.replicate k au).flatten=acc++(List.replicate (k+1) au).flatten:=by rw[o6,x6,append_assoc]
  rw[<- e2,<- foldl_rep au k (acc++au),<- e,o6,foldl_cons]
section
variable {X:Cx}{pins:List (Addr×Obj)}{σ:St}{H:Hp}{s:Shared}{l b:Addr}{xs ys zs:List V}
theorem Inv.Mj {au its':List Value}{n:Nat}{f:Array Value->Array Value}{t':Nat}(I:Inv X pins σ H s)(hH:H l=some (.lst xs)) (e:s.heap.get? l=some {cls:=.type "list",data:=.seq au.toArray n}) (hf:f au.toArray=its'.toArray) (hv:Vals ys its') (hz:ys.length<=sizeLine):Inv X pins σ (upd H l (.lst ys)) {s with heap:=s.heap.update l (Obj.mapSeq f),toks:=t'}:=by have q:=PySem.IsL.update e f;rw[hf]at q;refine I.write (x:=l) (e:=l) (by rw[hH];exact trivial) (.inl rfl) (λ b' u hb hu=>(j9 s.heap (Obj.mapSeq f) (H9 hb)).trans hu) ⟨_,q⟩ ?_;exact⟨hz,its',_,hv,q⟩
theorem Inv.PN {au:List Value}{t':Nat}(I:Inv X pins σ H s)(hv:Vals ys au)(hz:ys.length<=sizeLine):Inv X pins σ (upd H s.heap.objs.size (.lst ys)) {s with heap:=s.heap.push {cls:=.type "list",data:=.seq au.toArray},toks:=t'}:=
 I.laid (λ _ _ q=>j8 _ q) (D8 _) ⟨hz,au,0,hv,o8 _ rfl⟩
theorem Inv.fresh (I:Inv X pins σ H s):H s.heap.objs.size=none:=I.aK.fresh (D8 _)
theorem Inv.za (I:Inv X pins σ H s)(hH:H l=some (.lst xs)):xs.length<=sizeLine/\∃(au:List Value) (n:Nat),Vals xs au/\xs.length=au.length/\s.heap.get? l=some {cls:=.type "list",data:=.seq au.toArray n}:=by obtain⟨z,au,n,r,e⟩:=I.aK l _ hH;exact⟨z,au,n,r,r.length,e⟩
theorem CA{n:Nat}(h:n<=sizeLine):Builtin.List.listTooLong n=false:=by unfold Builtin.List.listTooLong;exact A4 (by omega)
end
section
variable {X:Cx}
def wQ:V->List V->Hp->VK->Prop:=λ x vs H Q=>∃l xs y,x=.ref l/\vs=[y]/\H l=some (.lst xs)/\xs.length < sizeLine/\Q .aY (upd H l (.lst (xs++[y])))
theorem y_:JM X "list.append" wQ:=by intro pins s σ H x vs v us Q I rx rv h;obtain⟨l,xs,y,rfl,rfl,hH,hz,q⟩:=h;cases rx;obtain⟨u,rfl,ru⟩:=rv.one;obtain⟨z,au,n,r,hl,e⟩:=I.za hH;refine G3 F.slot_list_append ⟨_,e,rfl⟩ F.entry_list_append (F.args_list_append_2 _ _) (PySem.list_append l au.toArray n u (by rw[y3];omega)) ⟨e,?_⟩;refine⟨.aY,_,I.Mj (its':=au++[u]) hH e (by simp) (r.append (.cons ru .nil)) ?_,rfl,q⟩;rw[r6,l0];omega
def Ti:V->List V->Hp->VK->Prop:=λ x vs H Q=>∃l xs y,x=.ref l/\vs=[]/\H l=some (.lst xs)/\xs[xs.length - 1]?=some y/\Q y (upd H l (.lst xs.dropLast))
theorem Mg:JM X "list.pop" Ti:=by
 intro pins s σ H x vs v us Q I rx rv h;obtain⟨l,xs,y,rfl,rfl,hH,hy,q⟩:=h;cases rx;have XX:=rv.zero;subst XX;obtain⟨z,au,n,r,hl,e⟩:=I.za hH;obtain⟨u,hu,ru⟩:=r.get hy;have HY:au.toArray[au.toArray.size - 1]?=some u:=by show au.toArray[au.length - 1]?=some u;rw[<- l7,<- hl];exact hu
 refine G3 F.slot_list_pop ⟨_,e,rfl⟩ F.entry_list_pop (F.args_list_pop_1 _) (MeetsSeq.list_pop_last l au.toArray n u HY (by rw[y3];omega)) ⟨e,?_⟩;refine⟨y,_,I.Mj (its':=au.dropLast) hH e ?_ r.dropLast ?_,ru,q⟩
 ·show au.toArray.eraseIdxIfInBounds (au.toArray.size - 1)=au.dropLast.toArray;rw[y3,eraseIdxIfInBounds_toArray,vA]
 ·rw[length_dropLast];omega
def K6:V->List V->Hp->VK->Prop:=λ x vs H Q=>∃l xs i k y,x=.ref l/\vs=[.int i]/\H l=some (.lst xs)/\-(2^63)<=i/\i < 2^63/\seqIndex? i xs.length=some k/\xs[k]?=some y/\Q y (upd H l (.lst (xs.eraseIdx k)))
theorem CH:JM X "list.pop" K6:=by
 intro pins s σ H x vs v us Q I rx rv h;obtain⟨l,xs,i,k,y,rfl,rfl,hH,h1,h2,hk,hy,q⟩:=h;cases rx;obtain⟨u,rfl,ru⟩:=rv.one;obtain⟨t,rfl⟩:=ru;obtain⟨z,au,n,r,hl,e⟩:=I.za hH;obtain⟨w,hw,kZ⟩:=r.get hy;refine G3 F.slot_list_pop ⟨_,e,rfl⟩ F.entry_list_pop (F.args_list_pop_2 _ _)
  (MeetsSeq.list_pop_at l au.toArray n i t k w (fitsIndex_both h1 h2) (by rw[y3,<- hl];exact hk) (by rw[<- l7];exact hw) (by rw[y3];omega)) ⟨e,?_⟩
 refine⟨y,_,I.Mj (its':=au.eraseIdx k) hH e ?_ (r.eraseIdx k) ?_,kZ,q⟩
 ·show au.toArray.eraseIdxIfInBounds k=(au.eraseIdx k).toArray;rw[eraseIdxIfInBounds_toArray]
 ·have:=pQ xs k;omega
def Tn:R2:=λ x y H Q=>∃l b xs zs,x=.ref l/\y=.ref b/\H l=some (.lst xs)/\H b=some (.lst zs)/\xs.length+zs.length<=sizeLine/\∀p,H p=none->Q (.ref p) (upd H p (.lst (xs++zs)))
theorem LX:eJ X (binaryOp .Add) Tn:=by
 intro pins s σ H x y v u Q I rx ry h;obtain⟨l,b,xs,zs,rfl,rfl,hH,hB,hz,q⟩:=h;cases rx;cases ry;obtain⟨z,au,n,r,hl,e⟩:=I.za hH;obtain⟨z2,My,n2,r2,Z',e2⟩:=I.za hB;refine PySem.P.add_list e e2 ?_ (by rw[y3,y3];omega);have ea:au.toArray++My.toArray=(au++My).toArray:=by simp
 rw[ea];exact⟨.ref _,_,I.PN (t':=s.toks) (r.append r2) (by rw[r6];omega),rfl,q _ I.fresh⟩
def Th:R2:=λ x y H Q=>∃l k xs,x=.ref l/\y=.int k/\H l=some (.lst xs)/\-(2^63)<=k/\k < 2^63/\xs.length*k.toNat<=sizeLine/\
 ∀p,H p=none->Q (.ref p) (upd H p (.lst (List.replicate k.toNat xs).flatten))
theorem len_rep{α:Type}(xs:List α)(k:Nat):(List.replicate k xs).flatten.length=k*xs.length:=by
 induction k with
 |zero=>simp
 |succ k ih=>rw[o6,x6,r6,ih,Nat.succ_mul,Nat.add_comm]
theorem LO:eJ X (binaryOp .Mult) Th:=by
 intro pins s σ H x y v u Q I rx ry h;obtain⟨l,k,xs,rfl,rfl,hH,h1,h2,hz,q⟩:=h;cases rx;obtain⟨t,rfl⟩:=ry;obtain⟨z,au,n,r,hl,e⟩:=I.za hH;have hlen:au.toArray.size*k.toNat<=sizeLine:=by rw[y3,<- hl];exact hz
 have UD:¬au.toArray.size*k.toNat > (2^63 - 1) / 8:=by
  have:(sizeLine:Nat)<=(2^63 - 1) / 8:=by decide
  omega
 have QF:¬(!Builtin.List.listFitsIndex k)=true:=by rw[fitsIndex_both h1 h2];exact r0
 have Qr:¬Builtin.List.listTooLong (au.toArray.size*k.toNat)=true:=by rw[CA hlen];exact r0
 have Dq:List.foldl (λ x1 x2=>x1++x2) #[] (List.replicate (if au.toArray.isEmpty=true then 0 else k.toNat) au.toArray)=(List.replicate k.toNat au).flatten.toArray:=by
  have f0:∀m:Nat,List.foldl (λ x1 x2=>x1++x2) #[] (List.replicate m au.toArray)=(List.replicate m au).flatten.toArray:=λ m=>by have:=foldl_rep au m [];rw[nil_append]at this;exact this
  rw[f0];cases au with
  |nil=>simp
  |cons a r'=>rw[J7 (by simp)]
 refine wpAny_binaryOp_repeat_ref (T:="list") (U:="int") (by decide) ⟨_,e,rfl⟩ (λ s'=>typeIs_int s' k t) noFill_list_mul F.fills_int_mul F.slot_int_rmul repeat_list F.slot_int_index.lookup
  (G3 F.slot_int_rmul (typeIs_int s k t) F.entry_int_rmul (F.args_int_rmul_2 _ _) (int___rmul___int_list k t l au.toArray n)
   ⟨e,rfl,⟨_,e,rfl⟩,G3 F.slot_list_mul ⟨_,e,rfl⟩ F.entry_list_mul (F.args_list_mul_2 _ _) (AutoListH.list___mul___list_int_3 l au.toArray n k t QF UD Qr) ⟨e,?_⟩⟩)
 rw[Dq];exact⟨.ref _,_,I.PN (t':=s.toks) (r.rep k.toNat) (by rw[len_rep,Nat.mul_comm];exact hz),rfl,q _ I.fresh⟩
end
section
variable {prog:Program}{w:World}{A:Around}{E:Value->Shared->Prop}{s:Shared}
set_option maxRecDepth 100000 in
end
end L2
namespace WM
open PySem PySem.W PySem.Calls PyProof.Rows
theorem lr{P:Params}{h:Heap}:∀(ns:List Int) (vs:List Value),WellAll P h vs (ns.map WData.int)->IntsAre vs ns:=by
 intro ns
 induction ns with
 |nil=>intro vs w;rw[map_nil]at w;cases w;exact .nil
 |cons n ns ih=>
  intro vs w;rw[C2]at w;cases w with
  |cons a b=>cases a;exact .cons _ _ (ih _ b)
theorem yE{l:OpenLaw}{n:Nat}(hn:l.most=some n){P:Params}{h:Heap}{args:List WData}{vals:List Value} (H_:l.row.toRowW.claim.pre args=true) (Ug:WellAll P h vals args):∃a vs ns,vals=[Value.ref a]/\args=[WData.list (ns.map WData.int)]/\h.get? a=some {cls:=.type "list",data:=.seq vs.toArray}/\IntsAre vs ns/\ns.length<=n:=by
 have X8:WShape.hasAll [] args [.list .int]=true:=(pre_splitW H_).1;have hc:l.pre.holds [] {args:=args}=true:=(pre_splitW H_).2;obtain⟨d,r,rfl,h1,h2⟩:=hasAllW_cons X8;obtain rfl:=hasAllW_nil h2;obtain⟨xs,rfl,h3⟩:=hasW_list h1;obtain⟨ns,rfl⟩:=items_int h3;have hlen:ns.length<=n:=by
  unfold OpenLaw.pre at hc;have h4:(WTm.not (.lt (.lit (.int (n:Int))) (.len (.arg 0)))).holds [] {args:=[.list (ns.map .int)]}=true:=by have h4:=(holds_andW hc).1;rw[hn]at h4;exact h4
  have h5:=condW_of h4 (w_not (w_lt w_lit (w_len_list (w_arg rfl))));rw[A8]at h5;refine y8 λ q=>?_;have q':(n:Int) < ((ns.length:Nat):Int):=by omega
  first
   |(rw[B5 q']at h5;exact absurd h5 (by decide))
   |(simp at h5;omega)
 cases Ug with
 |cons w1 w2=>
  cases w2;cases w1 with
  |list ho vy=>exact⟨_,_,ns,rfl,rfl,ho,lr ns _ vy,hlen⟩
theorem yP(l:OpenLaw)(args:List WData):l.row.toRowW.claim.post args (.bool true) args=true:=
 postW_of (r:=l.row.toRowW) (X:=(true==true))
  (show WShape.has [] (.bool true) .bool=true by first|rfl|decide|simp[WShape.has,WShape.arms,WShape.armsAll])
  (show(WTm.eq .res (.lit (.bool true))).value [] {args:=args,res:=some (.bool true),after:=args}=some (.bool (true==true))from w_eq_bool (w_res rfl) w_lit) rfl
theorem tV{l:OpenLaw}{n:Nat}{q:Program}{loose:List Str}{XP:(Str->Option Value)->Heap->Prop}{YP:World->Heap->Prop}{d:DefRec} (hn:l.most=some n) (QJ:d.params.defaults=[]) (call:∀(w:World) (s₀ s₁:Shared) (mg mb:Str->Option Value) (fa:Addr) (o:Obj) (pm cd doc:Value) (a:Addr) (vs:List Value) (ns:List Int),
   Ground q loose [] XP w s₀ mg mb s₁.heap->YP w s₁.heap->
   s₁.heap.get? fa=some o->o.data=.func (docDef d.name d.params d.body d.scope pm cd doc)->s₁.heap.CodeRec cd d.name->mg d.name=some (.ref fa)->
   s₁.heap.get? a=some {cls:=.type "list",data:=.seq vs.toArray}->IntsAre vs ns->ns.length<=n->s₁.gens=#[]->
   codeAny (model l.prog w) callerA (.call (.ref fa) ⟨[.ref a],[]⟩) (λ r s'=>r=.ok (.ret (.bool true))/\OldK s₁.heap s'.heap/\s'.os=s₁.os/\AllBare s'.gens) s₁):
  WalkO q loose XP YP l.row.toRowW d [] (λ f vs=>PySem.call f vs):=by
 intro w s₀ s₁ mg mb G Y fa o pm cd doc dV kV ho hd hcd hD Qo hg args vals as H_ Ym Z6 Ug Z9;obtain rfl:dV=.none:=Dflts.none hD QJ;obtain rfl:kV=.none:=Dflts.noKw hD;obtain⟨a,vs,ns,rfl,rfl,Dp,hints,hlen⟩:=yE hn H_ Ug;refine enter_call (D5 (call w s₀ s₁ mg mb fa o pm cd doc a vs ns G Y ho (fd_plain hd) hcd Qo Dp hints hlen hg) λ r s' hq=>?_);obtain⟨rfl,h2,h3,h4⟩:=hq;exact⟨.inl ⟨.bool true,.bool true,[],rfl,λ _=>rfl,.bool true,yP l _,λ _=>⟨List.Pairwise.nil,λ _ hm=>(nomatch hm)⟩⟩,h2,h3,h4⟩
end WM
namespace L2
open PySem PySem.Spec PyProof.Rows
theorem pb:∀{vs:List Value} {ns:List Int},IntsAre vs ns->Vals (ns.map V.int) vs
 |_,_,.nil=>.nil
 |_,_,.cons n t h=>.cons ⟨t,rfl⟩ (pb h)
def bz(s:Stmt):Arguments:=match s with
 | .FunctionDef _ a _ _ _ _ _ _ _ _=>a
 |_=>{posonlyargs:=[],args:=[],vararg:=none,kwonlyargs:=[],kw_defaults:=[],kwarg:=none,defaults:=[]}
def aP(s:Stmt):List Stmt:=match s with
 | .FunctionDef _ _ b _ _ _ _ _ _ _=>b
 |_=>[]
def aq(s:Stmt):Scope:=match s with
 | .FunctionDef _ _ _ _ _ _ sc _ _ _=>sc
 |_=>{kind:=.function,names:=[],isGenerator:=false,isCoroutine:=false}
abbrev di:Eu:=λ _ _ _ _ _ _=>False
abbrev E0:XK:=λ _ _ _=>False
theorem O_{X:Cx}:Passes di X E0:=λ _ _ _ _ _ _ _ h=>h.elim
structure fg(K:J8)(x qual:Str)(st:Stmt)(f:Addr)(fd:FuncData):Prop where
 ex:∃(oc:Value) (od:Option Addr) (kV doc pm:Value) (an:Option Addr) (bQ ct:Value) (pK:Array (Option Value)),
  fd=PySem.W.fnOf x qual (bz st) (aP st) (aq st) .none kV doc pm an bQ ct/\K.lookup f=some ⟨oc,od,.func fd,pK⟩/\PySem.W.codeIn K bQ qual=true
 kp:PySem.W.keepIn K (.ref f)=true
section
variable {P:Program}{w:World}{K:J8}{mg:Str->Option Value}{base:Heap}
theorem fg.ok {x qual:Str}{st:Stmt}{f:Addr}{fd:FuncData}{N ps:List Str}{k:Nat}{sp:Sp}(F:fg K x qual st f fd)(S:cu N ps (aq st))(len:∀vs H Q E,sp vs H Q E->vs.length=ps.length) (bW:∀(bQ:Value) (A:Around) (outer:List Env) (s:Shared) (H:Hp) (vs:List V) (Q:VK) (E:XK),bf k (A.deeper (envOfC qual (aq st) s.heap.objs.size f bQ))->sp vs H Q E->
   ∃t,nZ (lB di P w K mg base N qual (aq st) f bQ A outer s H E).sQ (aP st) t/\t {nx:=λ _ H'=>Q .aY H',rt:=Q} (start N vs) H):aX P w K mg base di (k+1) f fd ps sp:=by
 obtain⟨oc,od,kV,doc,pm,an,bQ,ct,pK,rfl,lk,hcd⟩:=F.ex;refine DG lk hcd S len λ A outer s H vs Q E hr vp=>?_;obtain⟨t,h,q⟩:=bW bQ A outer s H vs Q E hr vp;exact⟨t,h.sQ,q⟩
theorem fg.binds {x qual:Str}{st:Stmt}{f:Addr}{fd:FuncData}{ps:List Str}(F:fg K x qual st f fd) (h:∀(kV doc pm:Value) (an:Option Addr) (bQ ct:Value) (us:List Value),us.length=ps.length->bindArgs (PySem.W.fnOf x qual (bz st) (aP st) (aq st) .none kV doc pm an bQ ct) ⟨us,[]⟩=pure (ps.zip us)):Binds K fd ps []:=by obtain⟨oc,od,kV,doc,pm,an,bQ,ct,pK,rfl,lk,hcd⟩:=F.ex;exact .all (h kV doc pm an bQ ct)
theorem DB{x qual:Str}{st:Stmt}{f:Addr}{oc:Value}{od an:Option Addr}{pK:Array (Option Value)}{kV doc pm bQ ct:Value}(l:K.lookup f=some ⟨oc,od,.func (PySem.W.fnOf x qual (bz st) (aP st) (aq st) .none kV doc pm an bQ ct),pK⟩) (c:PySem.W.codeIn K bQ qual=true) (k:PySem.W.keepIn K (.ref f)=true):fg K x qual st f (PySem.W.fnOf x qual (bz st) (aP st) (aq st) .none kV doc pm an bQ ct):=⟨⟨oc,od,kV,doc,pm,an,bQ,ct,pK,rfl,l,c⟩,k⟩
end
section
variable {X:Cx}
theorem pv(i:Nat){x:Str}{pos:Pos}(hN:X.N[i]?=some x:=by rfl)(hv:IU X.env.scope x:=by first|exact Or.inl rfl|exact Or.inr (Or.inl rfl)|exact Or.inr (Or.inr rfl))(hd:(x==("__debug__":Str))=false:=by decide) (hcd:(x==("__classdict__":Str))=false:=by decide):PE X (.Name x pos) (Od i):=uU hN hv hd hcd
end
end L2
namespace L2
open PySem PySem.Spec PyProof.Rows
section
variable {X:Cx}{pins:List (Addr×Obj)}{σ:St}{H:Hp}{s:Shared}
theorem Inv.AK {D:Addr}{o:HO}(I:Inv X pins σ H s)(hn:H D=none)(new:br X.prog X.w (upd H D o) s.heap D o) (hL:D≠X.env.locals) (hs:X.s₀.heap.objs.size<=D) (hc:∀x c,X.env.cells.lookup x=some c->c≠D) (hp:∀p∈X.pn++pins,p.1≠D):Inv X pins σ (upd H D o) s:=by
 have ne:∀{b:Addr} {u:HO},H b=some u->b≠D:=λ e=>aV e hn;have nb:∀(b:Addr) (ob:Obj),X.s₀.heap.get? b=some ob->b≠D:=λ b ob e=>C7 (u3 (C8 e) hs);refine⟨I.ok,I.os,I.bare,⟨I.base.keep,I.base.slot,λ b ob e n hx=>?_,I.base.there,λ b xs e=>?_,λ b ob u e=>?_,λ b ps e=>?_⟩,I.loc,I.cell,?_,λ x c e=>?_,λ p Qf=>?_,λ b u e=>?_,I.len⟩
 ·rw[ar (nb b ob e)];exact I.base.free b ob e n hx
 ·have q:=I.base.dZ b xs e;rw[ar (ne q)];exact q
 ·have q:=I.base.dD b ob u e;rw[ar (ne q)];exact q
 ·obtain⟨m,q⟩:=I.base.d_ b ps e;exact⟨m,by rw[ar (ne q)];exact q⟩
 ·rw[ar (H9 hL)];exact I.free
 ·rw[ar (hc x c e)];exact I.dr x c e
 ·obtain⟨e,n,r⟩:=I.pin p Qf;exact⟨e,by rw[ar (hp p Qf)];exact n,r⟩
 ·by_cases hb:b=D
  ·subst hb;rw[aD]at e;cases e;exact new
  ·rw[ar hb]at e;exact(I.aK b u e).eK (λ c v _ q=>q) (λ c q=>by rw[ar (ne q)];exact q) λ c xs q=>by rw[ar (ne q)];exact q
end
def bc(cells:List (Str×Addr)):List (Str×NameKind)->List (Str×Addr)->List (Str×Addr)
 |[],acc=>acc
 |(n,k)::r,acc=>if(k==.free)=true then bc cells r ((n,(cells.lookup n).getD 0)::acc)else bc cells r acc
theorem fK{cells:List (Str×Addr)}:∀(names:List (Str×NameKind)) (acc:List (Str×Addr)),(∀n,(n,NameKind.free)∈names->∃c,cells.lookup n=some c)-> (∀x c,acc.lookup x=some c->cells.lookup x=some c)->∀x c,(bc cells names acc).lookup x=some c->cells.lookup x=some c
 |[],acc,_,h,x,c,e=>h x c e
 |(n,k)::r,acc,hc,h,x,c,e=>by
  unfold bc at e;by_cases hk:(k==NameKind.free)=true
  ·rw[J0 hk]at e;refine fK r _ (λ m hm=>hc m (m7 _ hm)) (λ y d q=>?_) x c e;have NV:k=NameKind.free:=by simpa using hk
   obtain⟨c0,e0⟩:=hc n (by rw[NV];exact q9);rw[y7]at q;cases hy:(y==n)with
   |true=>
    rw[hy]at q;have yn:y=n:=by simpa using hy
    subst yn;rw[e0]at q;rw[e0];exact q
   |false=>rw[hy]at q;exact h y d q
  ·rw[J7 hk]at e;exact fK r _ (λ m hm=>hc m (m7 _ hm)) h x c e
theorem gQ{cells:List (Str×Addr)}{x:Str}:∀(names:List (Str×NameKind)) (acc:List (Str×Addr)),((acc.lookup x).isSome=true)->((bc cells names acc).lookup x).isSome=true
 |[],acc,h=>h
 |(n,k)::r,acc,h=>by
  unfold bc;split
  ·refine gQ r _ ?_;rw[y7];cases hy:(x==n)with
   |true=>rfl
   |false=>exact h
  ·exact gQ r _ h
theorem ip{cells:List (Str×Addr)}{x:Str}:∀(names:List (Str×NameKind)) (acc:List (Str×Addr)),(x,NameKind.free)∈names->((bc cells names acc).lookup x).isSome=true
 |[],acc,h=>absurd h (by simp)
 |(n,k)::r,acc,h=>by
  unfold bc;rcases C3.mp h with e|h
  ·cases e;rw[J0 (by decide)];refine gQ r _ ?_;rw[y7];simp
  ·split
   ·exact ip r _ h
   ·exact ip r _ h
theorem cV{scope:Scope}{env:Env}(hc:∀n,(n,NameKind.free)∈scope.names->∃c,env.cells.lookup n=some c):closureFor scope env=pure (bc env.cells scope.names []):=by
 unfold closureFor;have all:∀(names:List (Str×NameKind)) (acc:List (Str×Addr)),(∀n,(n,NameKind.free)∈names->∃c,env.cells.lookup n=some c)->
   (forIn names acc (λ(x:Str×NameKind) (cs:List (Str×Addr))=>(match x with|(name,kind)=>if(kind==.free)=true then(do let c <- cellOf env name;pure (ForInStep.yield ((name,c)::cs)))else pure (ForInStep.yield cs):Sem (ForInStep (List (Str×Addr))))))=(pure (bc env.cells names acc):Sem (List (Str×Addr))):=by
  intro names
  induction names with
  |nil=>intro acc _;rfl
  |cons y r ih=>
   intro acc hc;obtain⟨n,k⟩:=y;rw[forIn_cons];unfold bc;dsimp only;by_cases hk:(k==NameKind.free)=true
   ·rw[J0 hk,J0 hk];have NV:k=NameKind.free:=by simpa using hk
    obtain⟨c0,e0⟩:=hc n (by rw[NV];exact q9);unfold cellOf;rw[e0];exact ih _ λ m hm=>hc m (m7 _ hm)
   ·rw[J7 hk,J7 hk];exact ih _ λ m hm=>hc m (m7 _ hm)
 have q:=all scope.names [] hc;refine Eq.trans ?_ (G8 (λ m=>m >>= pure) q);rfl
theorem mS{env:Env}:∀{names:List (Str×NameKind)} {x:Str},names.lookup x=some .free-> (names.map λ(n,k)=>if(k==NameKind.free&&env.scope.kind==.function&&env.kindOf n==some .cell)then(n,NameKind.cell)else(n,k)).lookup x=some .cell\/ (names.map λ(n,k)=>if(k==NameKind.free&&env.scope.kind==.function&&env.kindOf n==some .cell)then(n,NameKind.cell)else(n,k)).lookup x=some .free
 |[],_,h=>by simp at h
 |(n,k)::r,x,h=>by
  have ih:=@mS env r x;rw[C2];dsimp only;cases hx:x==n with
  |true=>
   rw[y7,hx]at h;have h':k=NameKind.free:=by simpa using h
   subst h';split
   ·left;rw[y7,hx]
   ·right;rw[y7,hx]
  |false=>
   rw[y7,hx]at h;have ih:=ih h;split
   ·rw[y7,hx];exact ih
   ·rw[y7,hx];exact ih
theorem rg{prog:Program}{w:World}{A:Around}{R:Result->Shared->Prop}{s:Shared}{elt target iter:Expr}{ifs:List Expr}{scope:Scope}{pos:Pos}{it acc:Value}{env:Env}(I:Nat->Shared->Prop) (turn:∀n s,I n s->wpAny (model prog w) A (pyNext it) (λ r s1=>match r with
   |none=>R (.ok .next) s1
   |some v=>wpAny (model prog w) A (letOwnedTupleGo target it v) (λ _ s2=>wpAny (model prog w) A (assign target env v) (λ _ s3=>
     wpAny (model prog w) A (forIn ifs true λ c r=>if r=true then do let ok <- isTrue c env (eval c env);pure (ForInStep.yield ok)else pure (ForInStep.yield r)) (λ ok s4=>
      if ok=true then wpAny (model prog w) A (eval elt env) (λ x s5=>
       wpAny (model prog w) A (call (.builtin "list.append") [acc,x]) (λ _ s6=>∃m,m < n/\I m s6) (λ _ _=>False) s5) (λ _ _=>False) s4
      else ∃m,m < n/\I m s4) (λ _ _=>False) s3) (λ _ _=>False) s2) (λ _ _=>False) s1) (λ _ _=>False) s)
  (n:Nat) (h:I n s):
  codeAny (model prog w) A (.compLoop (.ListComp elt [⟨target,iter,ifs,0⟩] scope pos) 0 it acc env) R s:=by
 refine codeAny_loop rfl I (λ n s hI=>?_) n h;show wpAny _ A ((compTurn (.ListComp elt [⟨target,iter,ifs,0⟩] scope pos) 0 it acc env).onRaise (λ x=>do noteFrame x env;theTreesLotGoes x)) _ _ s;refine wpAny_noted ?_;rw[compTurn_list];refine wpAny_noRaise (G1 (C5 (G1 (G4 (turn n s hI) (λ r s1 h1=>?_) λ _ _ h'=>h'))));cases r with
 |none=>exact G2 h1
 |some v=>
  refine G1 (G4 h1 (λ _ s2 h2=>?_) λ _ _ h'=>h');refine G1 (G4 h2 (λ _ s3 h3=>G1 (G4 h3 (λ ok s4 h4=>?_) λ _ _ h'=>h')) λ _ _ h'=>h');cases ok with
  |false=>exact G2 ⟨rfl,h4⟩
  |true=>exact G1 (G1 (G4 h4 (λ x s5 h5=>G1 (G4 h5 (λ _ s6 h6=>G2 (G2 ⟨rfl,h6⟩)) λ _ _ h'=>h')) λ _ _ h'=>h'))
end L2
namespace L2
open PySem PySem.Spec PyProof.Rows
def aS(X:Cx)(scope:Scope)(cl:List (Str×Addr))(bD:List Str)(fr:List Nat)(C:Addr)(fp:List Addr)(s:Shared)(H:Hp):Cx:=
 {X with N:=bD++fr.map (λ j=>X.N.getD j ""),s₀:=s,H₀:=H,env:=compEnvC scope cl C X.env,outer:=X.stack,ex:=fp,fn:=λ x=>scope.names.lookup x==some .cell,pn:=[]}
def eG(n:Nat)(fr:List Nat)(σ:St):St:=List.replicate n none++fr.map (λ j=>σ.getD j none)
structure Ey(X:Cx)(scope:Scope)(C:Addr)(h1:Heap)(cl:List (Str×Addr)):Prop where
 look:∀x c,cl.lookup x=some c->X.env.cells.lookup x=some c\/(C < c/\h1.IsCell c none)
 inj:∀x y c,cl.lookup x=some c->cl.lookup y=some c->x=y
 has:∀x,(x,NameKind.free)∈scope.names\/(x,NameKind.cell)∈scope.names->∃c,cl.lookup x=some c
 MY:∀x c,scope.names.lookup x=some .free->cl.lookup x=some c->X.env.cells.lookup x=some c
 own:∀x c,scope.names.lookup x=some .cell->cl.lookup x=some c->C < c
structure gW(X:Cx)(scope:Scope)(fr:List Nat):Prop where
 kind:scope.kind=.function
 cells:∀y∈scope.names,y.2=.cell->scope.names.lookup y.1=some .cell
 names:∀y∈scope.names,y.2=.local->scope.names.lookup y.1=some .local
 has:∀n,(n,NameKind.free)∈scope.names->X.env.kindOf n=some .cell\/X.env.kindOf n=some .free
 fr:∀j∈fr,j < X.N.length/\scope.names.lookup (X.N.getD j "")=some .free
def iP(n:Nat)(g:TG):Prop:=∀x σ H Q,g x σ H Q->g x σ H λ σ2 H2=>Q σ2 H2/\σ2.length=σ.length/\∀k,n<=k->σ2[k]?=σ[k]?
theorem qY{n i:Nat}(h:i < n):iP n (cL i):=λ x σ H Q q=>⟨q,by simp,λ k hk=>by rw[n6 (by omega)]⟩
def mq(n:Nat)(g:ya):Prop:=∀xs σ H Q,g xs σ H Q->g xs σ H λ σ2 H2=>Q σ2 H2/\σ2.length=σ.length/\∀k,n<=k->σ2[k]?=σ[k]?
theorem MX{n:Nat}:mq n vz:=λ xs σ H Q q=>⟨q.1,q.2,rfl,λ _ _=>rfl⟩
def N3(X:Cx)(ifs:List Expr)(t:TT):Prop:=
 ∀(pins:List (Addr×Obj)) (s:Shared) (σ:St) (H:Hp) (Q:Bool->Hp->Prop),Inv X pins σ H s->t σ H Q->
  wpAny (model X.prog X.w) X.A (forIn ifs true λ c r=>if r=true then do let ok <- isTrue c X.env (eval c X.env);pure (ForInStep.yield ok)else pure (ForInStep.yield r)) (TP X pins σ Q) X.xe s
def SU:TT:=λ _ H Q=>Q true H
theorem GW{X:Cx}:N3 X [] SU:=λ _ s σ H Q I h=>wpAny_tests_nil ⟨H,I,h⟩
theorem GV{X:Cx}{c:Expr}{t:TT}(h:PT X c t):N3 X [c] t:=λ pins s σ H Q I q=>wpAny_tests_one (h pins s σ H Q I q)
def rU(wi:TI)(g:TG)(tt:TT)(te:TE)(n:Nat)(fr:List Nat):TE:=λ σ H Q=>wi σ H λ J H1=>∃W:Nat->Nat->List V->Hp->Prop,(∃m,W 0 m [] H1)/\∀i m acc H,W i m acc H->
 acc.length<=sizeLine/\((J.stop i H/\∀p,H p=none->Q (.ref p) (upd H p (.lst acc)))\/
  (J.go i H/\∃N:List V->Hp->Prop,(∀Ek H',N Ek H'->∃m',m' < m/\W (i+1) m' Ek H')/\∀x H',J.EO i H x H'->g x (eG n fr σ) H' λ σ2 H2=>tt σ2 H2 λ b H3=>if b=true then te σ2 H3 λ y H4=>N (acc++[y]) H4 else N acc H3))
theorem gy{env:Env}:∀{names:List (Str×NameKind)} {x:Str} {k0:NameKind}, (names.map λ(n,k)=>if(k==NameKind.free&&env.scope.kind==.function&&env.kindOf n==some .cell)then(n,NameKind.cell)else(n,k)).lookup x=some k0->(k0=.cell\/k0=.free)->(x,NameKind.free)∈names\/(x,NameKind.cell)∈names
 |[],_,_,h,_=>by simp at h
 |(n,k)::r,x,k0,h,hk=>by
  have ih:=@gy env r x k0;rw[C2]at h;dsimp only at h;cases hx:x==n with
  |true=>
   have xn:x=n:=by simpa using hx
   subst xn;by_cases QM:(k==NameKind.free&&env.scope.kind==.function&&env.kindOf x==some .cell)=true
   ·have:k=NameKind.free:=by have:=(z6 _ _).mp QM;have:=(z6 _ _).mp this.1;simpa using this.1
    subst this;exact .inl q9
   ·rw[J7 QM,y7,hx]at h;have h':k=k0:=by simpa using h
    subst h';rcases hk with e|e
    ·subst e;exact .inr q9
    ·subst e;exact .inl q9
  |false=>
   have z:(x,NameKind.free)∈r\/(x,NameKind.cell)∈r:=by
    refine ih ?_ hk;split at h
    ·rw[y7,hx]at h;exact h
    ·rw[y7,hx]at h;exact h
   exact z.imp (m7 _) (m7 _)
theorem ib{x n:Str}{a:Addr}{acc:List (Str×Addr)}{c:Addr}(h:((n,a)::acc).lookup x=some c):(x=n/\c=a)\/(x≠n/\acc.lookup x=some c):=by
 rw[y7]at h;cases e:x==n with
 |true=>rw[e]at h;exact .inl ⟨by simpa using e,(A6 h).symm⟩
 |false=>rw[e]at h;exact .inr ⟨by simpa using e,h⟩
set_option tactic.hygienic true in
theorem rj:∀(names:List (Str×NameKind)) (h:Heap) (acc:List (Str×Addr)) (x:Str) (c:Addr),(cellsFrom h.objs.size names acc).lookup x=some c->acc.lookup x=some c\/(h.objs.size<=c/\(pushCells h names).IsCell c none)
 |[],_,_,_,_,e=>.inl e
 |(n,k)::r,h,acc,x,c,e=>by
  unfold cellsFrom at e;unfold pushCells;split at e
  ·rename_i hk;rw[J0 hk];have sz:=B6 h {cls:=.type "cell",data:=.cell none};rw[<- sz]at e;rcases rj r _ _ x c e with z|z
   ·rcases ib z with⟨_,q⟩|⟨_,q⟩
    ·subst q;exact .inr ⟨D8 _,_,pushCells_keeps r _ _ _ (o8 _ rfl),rfl⟩
    ·exact .inl q
   ·exact .inr ⟨by have:=z.1;rw[sz]at this;omega,z.2⟩
  ·rename_i hk;rw[J7 hk];exact rj r h acc x c e
theorem vR:∀(names:List (Str×NameKind)) (n:Nat) (acc:List (Str×Addr)),(∀x c,acc.lookup x=some c->c < n)->(∀x y c,acc.lookup x=some c->acc.lookup y=some c->x=y)->∀x y c,(cellsFrom n names acc).lookup x=some c->(cellsFrom n names acc).lookup y=some c->x=y
 |[],_,_,_,hi=>hi
 |(m,k)::r,n,acc,lt,hi=>by
  unfold cellsFrom;split
  ·refine vR r (n+1) _ (λ x c e=>?_) (λ x y c e1 e2=>?_)
   ·rcases ib e with⟨_,q⟩|⟨_,q⟩
    ·rw[q];exact Nat.lt_succ_self n
    ·exact y6 (lt x c q)
   ·rcases ib e1 with⟨a1,q1⟩|⟨a1,q1⟩ <;> rcases ib e2 with⟨a2,q2⟩|⟨a2,q2⟩
    ·rw[a1,a2]
    ·exact absurd (q1▸lt y c q2) (C1 _)
    ·exact absurd (q2▸lt x c q1) (C1 _)
    ·exact hi x y c q1 q2
  ·exact vR r n acc lt hi
theorem mj{x:Str}:∀(names:List (Str×NameKind)) (n:Nat) (acc:List (Str×Addr)),(∃c,acc.lookup x=some c)->∃c,(cellsFrom n names acc).lookup x=some c
 |[],_,_,h=>h
 |(m,k)::r,n,acc,⟨c,h⟩=>by
  unfold cellsFrom;split
  ·refine mj r _ _ ?_;rw[y7];cases x==m with
   |true=>exact⟨_,rfl⟩
   |false=>exact⟨c,h⟩
  ·exact mj r n acc ⟨c,h⟩
theorem vS{x:Str}:∀(names:List (Str×NameKind)) (n:Nat) (acc:List (Str×Addr)),(x,NameKind.cell)∈names->∃c,(cellsFrom n names acc).lookup x=some c
 |[],_,_,h=>absurd h (by simp)
 |(m,k)::r,n,acc,h=>by
  unfold cellsFrom;rcases C3.mp h with e|h
  ·cases e;rw[J0 (by decide)];exact mj r _ _ ⟨n,by rw[y7];simp⟩
  ·split
   ·exact vS r _ _ h
   ·exact vS r _ _ h
set_option tactic.hygienic true in
theorem vT{x:Str}:∀(names:List (Str×NameKind)) (n:Nat) (acc:List (Str×Addr)),(x,NameKind.cell)∉names->(cellsFrom n names acc).lookup x=acc.lookup x
 |[],_,_,_=>rfl
 |(m,k)::r,n,acc,h=>by
  unfold cellsFrom;split
  ·rename_i hk;rw[vT r _ _ λ z=>h (m7 _ z),y7];cases e:x==m with
   |false=>rfl
   |true=>
    have e1:x=m:=by simpa using e
    have e2:k=.cell:=by simpa using hk
    subst e1 e2;exact absurd q9 h
  ·exact vT r n acc λ z=>h (m7 _ z)
set_option tactic.hygienic true in
theorem vQ{x:Str}{lo:Nat}:∀(names:List (Str×NameKind)) (n:Nat) (acc:List (Str×Addr)),lo<=n->((x,NameKind.cell)∈names\/∀c,acc.lookup x=some c->lo<=c)->∀c,(cellsFrom n names acc).lookup x=some c->lo<=c
 |[],_,_,_,h,c,e=>by
  rcases h with h|h
  ·cases h
  ·exact h c e
 |(m,k)::r,n,acc,hn,h,c,e=>by
  unfold cellsFrom at e;split at e
  ·refine vQ r (n+1) _ (by omega) ?_ c e;rcases h with h|h
   ·rcases C3.mp h with q|q
    ·cases q;exact .inr λ c e=>by
      rcases ib e with⟨_,z⟩|⟨z,_⟩
      ·rw[z];exact hn
      ·exact absurd rfl z
    ·exact .inl q
   ·exact .inr λ c e=>by
     rcases ib e with⟨_,z⟩|⟨_,z⟩
     ·rw[z];exact hn
     ·exact h c z
  ·rename_i hk;refine vQ r n acc hn ?_ c e;rcases h with h|h
   ·rcases C3.mp h with q|q
    ·cases q;exact absurd rfl hk
    ·exact .inl q
   ·exact .inr h
section
variable {M:Model}{A:Around}{E:Value->Shared->Prop}{s:Shared}
theorem yZ{scope:Scope}{globals:Addr}{closure:List (Str×Addr)}{qual:Str}{func:Option Addr}{code:Value}{env:Env}{builtins:Addr}{Q:Env->Shared->Prop} (hQ:Q (newEnv scope s.heap.objs.size globals (cellsFrom (s.heap.objs.size+1) scope.names closure) qual func code (some env) builtins) {s with heap:=pushCells (s.heap.push {cls:=.type "dict",data:=.dict #[]}) scope.names}):wpAny M A (newFunctionEnv scope globals closure [] qual func code (some env) builtins) Q E s:=by simp only[newFunctionEnv,Option.isSome_some,if_true];refine G1 (wpAny_alloc ?_);refine G1 (wpAny_layCells _ (λ name kind cells=>by cases Ys:kind==NameKind.cell <;> simp[Ys]) _ _ _ _ ?_);rw[show({s with heap:=s.heap.push {cls:=.type "dict",data:=.dict #[]}}:Shared).heap.objs.size=s.heap.objs.size+1 from B6 ..];exact G1 (G2 (G2 hQ))
end
section
variable {X:Cx}{scope:Scope}{bD:List Str}{fr:List Nat}
theorem Nv{pins:List (Addr×Obj)}{σ:St}{H:Hp}{s:Shared}{fp:List Addr}{C:Addr}{h1:Heap}{cl:List (Str×Addr)}(B:gW X scope fr)(L:Ey X scope C h1 cl)(I:Inv X pins σ H s)(hC:s.heap.objs.size<=C)(f:∀b∈fp,jJ X pins H b)(EG:∀b∈fp,b < s.heap.objs.size): (aS X scope cl bD fr C fp s H).Ok:=by
 refine⟨I.ok.mod,B.kind,I.ok.glob,I.ok.blt,hC,L.inj,λ x hx=>?_,λ x c h e=>?_,I.ok.hd,I.ok.frames,.inl rfl,λ b hb=>⟨C7 (u3 (EG b hb) hC),λ x c e=>?_⟩,
  I.bs,D3 I.ok.vX I.sz,λ b o e hb=>?_,λ b hb hs=>?_,I.stack,I.gZ⟩
 ·rcases hx with hx|hx
  ·exact L.has x (gy hx (.inl rfl))
  ·exact L.has x (gy hx (.inr rfl))
 ·exact D3 hC (D7 (L.own x c (by simpa[aS]using h) e))
 ·rcases L.look x c e with z|z
  ·exact(f b hb).2.2.2.2.1 x c z
  ·exact λ q=>absurd (u0 hC z.1) (Nat.not_lt.mpr (D7 (q▸EG b hb)))
 ·rcases(f b hb).2.2.2.1 with z|z
  ·exact I.ok.vb b o e z
  ·exact absurd (u3 (C8 e) (D3 I.ok.vX z)) (C1 _)
 ·rcases C3.mp (I.mI b hs)with z|z
  ·exact(f b hb).2.1 z
  ·exact(f b hb).2.2.1 z
theorem IJ{pins:List (Addr×Obj)}{σ:St}{H:Hp}{s s1:Shared}{fp:List Addr}{C:Addr}{m:Str->Option Value}{cl:List (Str×Addr)}(B:gW X scope fr)(L:Ey X scope C s1.heap cl)(I:Inv X pins σ H s)(hC:s.heap.objs.size<=C)(f:∀b∈fp,jJ X pins H b)(EG:∀b∈fp,b < s.heap.objs.size) (ho:s1.os=s.os) (hg:AllBare s1.gens) (hk:∀b o,s.heap.get? b=some o->s1.heap.get? b=some o) (hn:s1.heap.Ns C m):Inv (aS X scope cl bD fr C fp s H) [] (eG bD.length fr σ) H s1:=by
 refine⟨Nv B L I hC f EG,ho,hg,Un.kept hk,⟨m,hn,λ i x v e1 e2 e3=>?_⟩,λ x c e=>?_,I.aK.fresh hC,λ x c e=>?_,λ p hp=>absurd hp (by simp[aS]),I.aK.kept hk,by simp[eG,aS]⟩
 ·-- a free name:au U7 value
  have e1:(bD++fr.map (λ j=>X.N.getD j ""))[i]?=some x:=e1;have hi:bD.length<=i:=by refine y8 λ ig=>?_;unfold eG at e2;rw[h8 (by simpa using ig),j0,J0 ig]at e2;cases e2
  unfold eG at e2;rw[c5 (by simpa using hi),l8,x3]at e2;rw[c5 hi,x3]at e1;cases ej:fr[i - bD.length]? with
  |none=>rw[ej]at e1;cases e1
  |some j=>
   rw[ej]at e1 e2;have U3:X.N.getD j ""=x:=A6 e1;have Wn:σ.getD j none=some v:=A6 e2;obtain⟨hj,hl⟩:=B.fr j (m8 ej);have hN:X.N[j]?=some x:=by rw[c6,i7 hj]at U3;rw[i7 hj];exact G8 some U3
   have hs:σ[j]?=some (some v):=by
    have Sd:j < σ.length:=by rw[I.len];exact hj
    rw[c6,i7 Sd]at Wn;rw[i7 Sd];exact G8 some Wn
   rw[U3]at hl;obtain⟨m0,Uy,Yp⟩:=I.loc;have Qp:(x,NameKind.free)∈scope.names:=o5 hl;have kinds:=B.has x Qp;obtain⟨u,ru,lu⟩:=Yp j x v hN hs (by rcases kinds with z|z;exact .inr (.inl z);exact .inr (.inr z));refine⟨u,ru,.inr ⟨mS hl,?_⟩⟩;obtain⟨c,hc⟩:=L.has x (.inl Qp);refine⟨c,hc,?_⟩;rcases lu with⟨kl,_⟩|⟨_,c',MP,z⟩
   ·rcases kinds with z|z <;> (rw[z]at kl;cases kl)
   ·have:c=c':=by have:=L.MY x c hl hc;rw[this]at MP;exact A6 MP
    subst this;obtain⟨o,ho,hd⟩:=z;exact⟨o,hk _ _ ho,hd⟩
 ·rcases L.look x c e with z|z
  ·obtain⟨v,o,zr,hd⟩:=I.cell x c z;exact⟨v,o,hk _ _ zr,hd⟩
  ·exact⟨none,z.2⟩
 ·rcases L.look x c e with z|z
  ·exact I.dr x c z
  ·exact I.aK.fresh (D3 hC (D7 z.1))
theorem Nw{pins:List (Addr×Obj)}{σ:St}{H:Hp}{s:Shared}{h2:Heap}(B:gW X scope fr)(I:Inv X pins σ H s)(hs:s.heap.objs.size<=h2.objs.size):Ey X scope h2.objs.size (pushCells (h2.push {cls:=.type "dict",data:=.dict #[]}) scope.names) (cellsFrom (h2.objs.size+1) scope.names (bc X.env.cells scope.names [])):=by
 have look:∀x c,(bc X.env.cells scope.names []).lookup x=some c->X.env.cells.lookup x=some c:=
  fK scope.names [] (λ n hn=>I.ok.has n (B.has n hn)) λ x c e=>by simp at e
 have sz:=B6 h2 {cls:=.type "dict",data:=.dict #[]};refine⟨λ x c e=>?_,vR _ _ _ (λ x c e=>?_) (λ x y c e1 e2=>I.ok.inj x y c (look x c e1) (look y c e2)),λ x h=>?_,λ x c h e=>?_,λ x c h e=>?_⟩
 ·rw[<- sz]at e;rcases rj _ _ _ x c e with z|z
  ·exact .inl (look x c z)
  ·exact .inr ⟨u3 (by rw[sz];exact Nat.lt_succ_self _) z.1,z.2⟩
 ·obtain⟨v,hv⟩:=I.cell x c (look x c e);exact y6 (u3 hv.lt hs)
 ·rcases h with h|h
  ·exact mj _ _ _ (Option.isSome_iff_exists.mp (ip scope.names [] h))
  ·exact vS _ _ _ h
 ·rw[vT _ _ _ λ z=>by have:=B.cells _ z rfl;rw[h]at this;cases this]at e;exact look x c e
 ·exact vQ (lo:=h2.objs.size+1) _ _ _ (D8 _) (.inl (o5 h)) c e
end
end L2
namespace L2
open PySem PySem.Spec PyProof.Rows
section
variable {X:Cx}{scope:Scope}{bD:List Str}{fr:List Nat}{tg elt iter:Expr}{ifs:List Expr}{pos:Pos}{wi:TI}{g:TG}{tt:TT}{te:TE}
theorem toF{α:Type}{M:Model}{A:Around}{E:Value->Shared->Prop}{s:Shared}{t:Sem α}{Q Q':α->Shared->Prop}(hE:∀e s,E e s->False)(h:wpAny M A t Q E s)(hQ:∀a s,Q a s->Q' a s):wpAny M A t Q' (λ _ _=>False) s:=
 G4 h hQ hE
theorem qd{pins:List (Addr×Obj)}{σ:St}{H:Hp}{s:Shared}{R:Value->Addr->Result->Shared->Prop}{E:Value->Shared->Prop}{J:It}{fp:List Addr}{it:Addr}{tn:Nat->Heap->Prop}{Qe:List V->Hp->Prop} (B:gW X scope fr) (hc:X.calm=true) (hE:∀e s,X.xe e s->False) (hg:∀cl C fp s H,PG (aS X scope cl bD fr C fp s H) tg g) (gk:iP bD.length g) (ht:∀cl C fp s H,N3 (aS X scope cl bD fr C fp s H) ifs tt) (he:∀cl C fp s H,PE (aS X scope cl bD fr C fp s H) elt te) (I:Inv X pins σ H s) (T:Turn X.prog X.w X.K tg J fp it tn) (st:tn 0 s.heap) (f:∀b∈fp,jJ X pins H b) (W:Nat->Nat->List V->Hp->Prop) (m0:Nat) (w0:W 0 m0 [] H) (turn:∀i m acc H,W i m acc H->acc.length<=sizeLine/\((J.stop i H/\Qe acc H)\/(J.go i H/\∃N:List V->Hp->Prop,(∀Ek H',N Ek H'->∃m',m' < m/\W (i+1) m' Ek H')/\∀x H',J.EO i H x H'->g x (eG bD.length fr σ) H' λ σ2 H2=>tt σ2 H2 λ b H3=>
   if b=true then te σ2 H3 λ y H4=>N (acc++[y]) H4 else N acc H3)))
  (fin:∀(D C:Addr) (s1:Shared) (H1:Hp) (acc:List V) (au:List Value),s.heap.objs.size<=D->s.heap.objs.size<=C->D≠C->Inv X pins σ H1 s1->H1 C=none->H1 D=none->(∃m,s1.heap.Ns C m)->
   s1.heap.PlainList D au.toArray->Vals acc au->acc.length<=sizeLine->Qe acc H1->R (.ref D) C (.ok .next) s1):
  wpAny (model X.prog X.w) X.A (newList []) (λ acc s3=>wpAny (model X.prog X.w) X.A (newFunctionEnv scope X.env.globals (bc X.env.cells scope.names []) [] X.env.qual none .none (some X.env)) (λ Rj s4=>
   codeAny (model X.prog X.w) X.A (.compStart (.ListComp elt [⟨tg,iter,ifs,0⟩] scope pos) 0 (.ref it) acc {Rj with scope:=relabel scope X.env}) (R acc Rj.locals) s4) E s3) E s:=by
 have EG:∀b∈fp,b < s.heap.objs.size:=λ b hb=>by obtain⟨o,e,_⟩:=T.obj 0 _ st b hb;exact C8 e
 refine x5 (yZ ?_);dsimp only;generalize UN:s.heap.push {cls:=.type "list",dict:=none,data:=.seq ([]:List Value).toArray}=H2;have hC:H2.objs.size=s.heap.objs.size+1:=by rw[<- UN,B6]
 have L0:=Nw (h2:=H2) B I (by omega);have Qj:(pushCells (H2.push {cls:=.type "dict",data:=.dict #[]}) scope.names).Ns H2.objs.size (λ _=>none):=(Heap.Ns.new H2 (.type "dict")).keeps (pushCells_keeps _ _);have T6:∀b o,H2.get? b=some o->(pushCells (H2.push {cls:=.type "dict",data:=.dict #[]}) scope.names).get? b=some o:=λ b o e=>pushCells_keeps _ _ b o (j8 _ e);generalize pushCells (H2.push {cls:=.type "dict",data:=.dict #[]}) scope.names=h1 at L0 Qj T6 ⊢;have MU:s.heap.objs.size≠H2.objs.size:=by omega
 have Ie:s.heap.objs.size<=H2.objs.size:=by omega
 have below:∀b,b < s.heap.objs.size->b≠H2.objs.size/\b≠s.heap.objs.size:=λ b hb=>⟨by omega,by omega⟩;have old:∀b o,s.heap.get? b=some o->h1.get? b=some o:=λ b o e=>T6 b o (UN▸j8 _ e);have zw:h1.PlainList s.heap.objs.size #[]:=⟨_,T6 _ _ (UN▸o8 _ rfl)⟩;have VA:tn 0 h1:=T.keep _ _ _ st λ b _ o e=>old b o e;have TX:∀x c,(cellsFrom (H2.objs.size+1) scope.names (bc X.env.cells scope.names [])).lookup x=some c->X.env.cells.lookup x=some c\/H2.objs.size < c:=λ x c e=>(L0.look x c e).imp id λ z=>z.1;generalize cellsFrom (H2.objs.size+1) scope.names (bc X.env.cells scope.names [])=cl at L0 TX ⊢;generalize hCd:H2.objs.size=C at*;generalize QR:s.heap.objs.size=D at*;have YV:∀b,b < D->b < s.heap.objs.size:=λ b hb=>by rw[QR];exact hb
 have fD:=I.qZ (b:=D) (H':=H) (Nat.le_of_eq QR) (I.aK.fresh (Nat.le_of_eq QR));have Jb:∀b,b≠X.env.locals->b∉X.fs->b∉f_ X.stack:=λ b h1 h2 hb=>(C3.mp (I.mI b hb)).elim h1 h2;have ou:∀b∈fp,b∉f_ X.stack:=λ b hb=>Jb b (f b hb).2.1 (f b hb).2.2.1;have ZH:∀x c,cl.lookup x=some c->c≠D:=λ x c e=>(TX x c e).elim (fD.2.2.2.2.1 x c) λ z q=>absurd (u0 Ie (q▸z)) (C1 _);have loop:∀s3:Shared,s3={s with heap:=h1}->
   codeAny (model X.prog X.w) X.A (.compLoop (.ListComp elt [⟨tg,iter,ifs,0⟩] scope pos) 0 (.ref it) (.ref D) (compEnvC scope cl C X.env)) (R (.ref D) C) s3:=by
  rintro s3 rfl;have ZU:Inv (aS X scope cl bD fr C fp s H) [] (eG bD.length fr σ) H {s with heap:=h1}:=
   IJ B L0 I (by rw[QR];exact Ie) f (λ b hb=>YV b (EG b hb)) rfl I.bare old Qj
  refine rg (λ n s'=>∃(i:Nat) (acc:List V) (au:List Value) (H':Hp),Inv (aS X scope cl bD fr C fp s H) [] (eG bD.length fr σ) H' s'/\tn i s'.heap/\(∀b∈fp,H' b=none)/\H' D=none/\
   s'.heap.PlainList D au.toArray/\Vals acc au/\W i n acc H') ?_ m0 ⟨0,[],[],H,ZU,VA,λ b hb=>(f b hb).1,fD.1,zw,.nil,w0⟩
  rintro n s3 ⟨i,acc,au,H3,I3,Oq,QX,YW,⟨nl,Dp⟩,RV,w3⟩;obtain⟨hz,h⟩:=turn i n acc H3 w3;have WL:Inv (aS X scope cl bD fr C fp s H) [(D,{cls:=.type "list",data:=.seq au.toArray nl})] (eG bD.length fr σ) H3 s3:=I3.jl λ p hp=>by
   have e:p=(D,{cls:=.type "list",data:=.seq au.toArray nl}):=by simpa using hp
   subst e;exact⟨Dp,YW,MU,Jb D fD.2.1 fD.2.2.1,λ v e=>by cases e⟩
  have fY:∀{H':Hp},(∀b∈fp,H' b=none)->∀b∈fp,jJ (aS X scope cl bD fr C fp s H) [(D,{cls:=.type "list",data:=.seq au.toArray nl})] H' b:=λ hn b hb=>
   ⟨hn b hb,(below b (EG b hb)).1,ou b hb,.inl hb,λ x c e=>(TX x c e).elim ((f b hb).2.2.2.2.1 x c) λ z q=>absurd (u3 (EG b hb) (D3 Ie (D7 (q▸z)))) (C1 _),λ p hp=>by
    have e:p=(D,{cls:=.type "list",data:=.seq au.toArray nl}):=by simpa[aS]using hp
    subst e;exact H9 (below b (EG b hb)).2⟩
  rcases h with⟨stop,q⟩|⟨go,N,hN,step⟩
  ·refine bZ (T.done (aS X scope cl bD fr C fp s H) rfl rfl rfl hc i _ s3 _ H3 _ WL (fY QX) Oq stop) λ r s4 ⟨hr,I4⟩=>?_;subst hr;have pD:=I4.pin (D,{cls:=.type "list",data:=.seq au.toArray nl}) (by simp);have IX:Inv X pins σ H3 s4:=I.qf (ch:=fp) I4.os I4.base I4.aK I4.bare λ b hb=>⟨(f b hb).2.2.2.1,(f b hb).2.1,(f b hb).2.2.2.2.1,(f b hb).2.2.2.2.2⟩;obtain⟨m4,Yh,_⟩:=I4.loc;exact fin D C s4 H3 acc au (D8 _) Ie MU IX I4.free pD.2.1 ⟨m4,Yh⟩ ⟨nl,pD.1⟩ RV hz q
  ·refine bZ (T.item (aS X scope cl bD fr C fp s H) rfl rfl rfl hc i _ s3 _ H3 _ WL (fY QX) Oq go) λ r s4 ⟨u,hr,h4⟩=>?_;subst hr;refine bZ h4 λ _ s5 ⟨x,H5,I5,r5,y5,Fv,UT⟩=>?_;have Vg:=I5.pinned (fY UT) (T.obj _ _ Fv);refine toF hE (hg _ _ _ _ _ _ s5 _ H5 x u _ Vg r5 (gk x _ H5 _ (step x H5 y5))) λ _ s6 ⟨σ6,H6,I6,q6,T3,k6⟩=>?_;refine toF hE (ht _ _ _ _ _ _ s6 σ6 H6 _ I6 q6) λ ok s7 ⟨H7,I7,q7⟩=>?_;have wk:∀{H':Hp} {s':Shared} {pl:List (Addr×Obj)},Inv (aS X scope cl bD fr C fp s H) pl σ6 H' s'->Inv (aS X scope cl bD fr C fp s H) pl (eG bD.length fr σ) H' s':=λ J=>
    J.weak T3.symm λ k v e=>by
     by_cases hk:bD.length<=k
     ·rw[k6 k hk];exact e
     ·unfold eG at e;rw[h8 (by simpa using hk),j0,J0 (by omega)]at e;cases e
   cases ok with
   |false=>simp only[r9,G7]at q7 ⊢;obtain⟨m',hm,w7⟩:=hN _ _ q7;have pD:=I7.pin (D,{cls:=.type "list",data:=.seq au.toArray nl}) (by simp);refine⟨m',hm,i+1,acc,au,H7,wk (I7.jl (pins':=[]) λ p hp=>absurd hp (by simp)),T.keep _ _ _ Fv λ b hb o e=>(I7.pin (b,o) (k9 _ (k9 _ (cT hb e)))).1,λ b hb=>?_,pD.2.1,⟨nl,pD.1⟩,RV,w7⟩;obtain⟨o,e,d⟩:=T.obj _ _ Fv b hb;exact(I7.pin (b,o) (k9 _ (k9 _ (cT hb e)))).2.1
   |true=>
    simp only[if_true]at q7 ⊢;refine toF hE (he _ _ _ _ _ _ s7 σ6 H7 _ I7 q7) λ uy s8 ⟨y,H8,I8,r8,n8⟩=>?_;obtain⟨m',hm,w8⟩:=hN _ _ n8;have pD:=I8.pin (D,{cls:=.type "list",data:=.seq au.toArray nl}) (by simp);have hits:au.toArray.size<=sizeLine:=by have:=RV.length;simp only[y3];omega
    refine wpAny_list_append_plain (hsz:=hits) (show s8.heap.PlainList D au.toArray from⟨nl,pD.1⟩) λ h9 Yn VV=>?_;have I9:Inv (aS X scope cl bD fr C fp s H) [] σ6 H8 {s8 with heap:=h9,toks:=s8.toks}:=
     (I8.jl (pins':=[]) λ p hp=>absurd hp (by simp)).turned (it:=D) (λ b o hb e=>VV.extBut b o hb e) pD.2.1 MU (.inr (Nat.le_of_eq QR)) ZH λ p hp=>absurd hp (by simp[aS])
    refine⟨m',hm,i+1,acc++[y],au++[uy],H8,wk I9,T.keep _ _ _ Fv λ b hb o e=>VV.extBut b o (below b (EG b hb)).2 (I8.pin (b,o) (k9 _ (k9 _ (cT hb e)))).1,λ b hb=>?_,pD.2.1,?_,RV.append (.cons r8 .nil),w8⟩
    ·obtain⟨o,e,d⟩:=T.obj _ _ Fv b hb;exact(I8.pin (b,o) (k9 _ (k9 _ (cT hb e)))).2.1
    ·have e:(au++[uy]).toArray=au.toArray.push uy:=by simp
     rw[e];exact Yn
 exact codeAny_compStart_list (loop _ rfl) (T.self _ 0 _ _ _ VA (loop _ rfl))
theorem qH(B:gW X scope fr)(hc:X.calm=true)(hE:∀e s,X.xe e s->False)(hi:PI X tg iter wi) (hg:∀cl C fp s H,PG (aS X scope cl bD fr C fp s H) tg g) (gk:iP bD.length g) (ht:∀cl C fp s H,N3 (aS X scope cl bD fr C fp s H) ifs tt) (he:∀cl C fp s H,PE (aS X scope cl bD fr C fp s H) elt te) (hs:∀x,foldedSetIterable iter X.env x=pure x:=by intro _;rfl):PE X (.ListComp elt [⟨tg,iter,ifs,0⟩] scope pos) (rU wi g tt te bD.length fr):=by intro pins s σ H Q I h;rw[eval_ListComp];have jL:=cV (scope:=scope) (env:=X.env) λ n hn=>I.ok.has n (B.has n hn);refine wpAny_comprehension_free (use:=none) rfl hs jL B.kind B.names (G4 (hi pins s σ H _ I h) (λ xv s1 h1=>G4 h1 (λ R5 s2 h2=>?_) λ _ _ e=>e) λ _ _ e=>e);obtain⟨it,fp,tn,J,H2,rfl,I2,T,Jc,f2,W,⟨m0,w0⟩,turn⟩:=h2;refine qd (R:=λ acc C=>compPost (model X.prog X.w) X.A X.xe none (EP X pins σ Q) acc C) (Qe:=λ acc H=>∀p,H p=none->Q (.ref p) (upd H p (.lst acc))) B hc hE hg gk ht he I2 T Jc f2 W m0 w0 turn ?_;intro D C s1 H1 acc au hD hC MU I1 nC nD ⟨m,hn⟩ hl rv hz q;refine⟨m,hn,λ h' jv=>?_⟩;have fC:=I2.qZ (b:=C) (H':=H1) hC nC;have fD:=I2.qZ (b:=D) (H':=H1) hD nD;have I3:Inv X pins σ H1 {s1 with heap:=h',toks:=s1.toks}:=I1.turned (it:=C) (λ b o hb e=>jv.extBut b o hb e) nC fC.2.1 fC.2.2.2.1 fC.2.2.2.2.1 fC.2.2.2.2.2;obtain⟨k,e⟩:=hl.extBut jv.extBut MU;exact⟨.ref D,upd H1 D (.lst acc),I3.AK nD ⟨hz,au,k,rv,e⟩ fD.2.1 (D3 I2.sz hD) fD.2.2.2.2.1 fD.2.2.2.2.2,rfl,q D nD⟩
theorem uR{i:Nat}{y:Str}{py gm:Pos}(hN:X.N.Nodup)(hiy:X.N[i]?=some y)(hy:Loc X.env.scope y)(B:gW X scope fr)(hc:X.calm=true)(hE:∀e s,X.xe e s->False)(hi:PI X tg iter wi) (hg:∀cl C fp s H,PG (aS X scope cl bD fr C fp s H) tg g) (gk:iP bD.length g) (ht:∀cl C fp s H,N3 (aS X scope cl bD fr C fp s H) ifs tt) (he:∀cl C fp s H,PE (aS X scope cl bD fr C fp s H) elt te) (hsw:swapsWith (.ListComp elt [⟨tg,iter,ifs,0⟩] scope pos) (some (.Name y py)) gm.line X.env=pure true:=by rfl) (hf:X.fn y=true\/X.env.scope.names.lookup y=some .local:=by first|exact .inl rfl|exact .inr rfl|assumption) (hs:∀x,foldedSetIterable iter X.env x=pure x:=by intro _;rfl):PS X (.Assign [.Name y py] (.ListComp elt [⟨tg,iter,ifs,0⟩] scope pos) gm) (AN (rU wi g tt te bD.length fr) (cL i)):=by
 intro pins s σ H D0 I h;rw[exec_Assign_Name_used _ _ _ _ hsw];have jL:=cV (scope:=scope) (env:=X.env) λ n hn=>I.ok.has n (B.has n hn);refine G1 (C5 (G1 ?_));show wpAny _ X.A (do let _ <- comprehension (.ListComp elt [⟨tg,iter,ifs,0⟩] scope pos) scope X.env _ (newList []) false (eval iter X.env) (some (assign (.Name y py) X.env))) _ _ s;refine G1 (G4 (wpAny_comprehension_free (use:=some (assign (.Name y py) X.env)) (Q:=λ _ s'=>SP X pins D0 .next s') rfl hs jL B.kind B.names
  (G4 (hi pins s σ H _ I h) (λ xv s1 h1=>G4 h1 (λ R5 s2 h2=>?_) λ _ _ e=>e) λ _ _ e=>e)) (λ _ s' hq=>G2 (G2 hq)) λ _ _ e=>e)
 obtain⟨it,fp,tn,J,H2,rfl,I2,T,Jc,f2,W,⟨m0,w0⟩,turn⟩:=h2;refine qd (R:=λ acc C=>compPost (model X.prog X.w) X.A X.xe (some (assign (.Name y py) X.env)) (λ _ s'=>SP X pins D0 .next s') acc C) (Qe:=λ acc H=>∀p,H p=none->cL i (.ref p) σ (upd H p (.lst acc)) D0.nx) B hc hE hg gk ht he I2 T Jc f2 W m0 w0 turn ?_;intro D C s1 H1 acc au hD hC MU I1 nC nD ⟨m,hn⟩ hl rv hz q;have fC:=I2.qZ (b:=C) (H':=H1) hC nC;have fD:=I2.qZ (b:=D) (H':=H1) hD nD;obtain⟨k,e⟩:=hl;have I3:Inv X pins σ (upd H1 D (.lst acc)) s1:=I1.AK nD ⟨hz,au,k,rv,e⟩ fD.2.1 (D3 I2.sz hD) fD.2.2.2.2.1 fD.2.2.2.2.2;show wpAny _ X.A (assign (.Name y py) X.env (.ref D)) _ _ s1;refine wpAny_assign_Name (pA I3 hN hiy hy (show RelV (.ref D) (.ref D)from rfl) (λ s2 J2 ⟨a,Um,ha⟩=>?_) hf);have aC:C≠a:=by
  rcases ha with z|z
  ·rw[z];exact fC.2.1
  ·exact H9 (fC.2.2.2.2.1 _ _ z)
 refine⟨m,hn.sameBut Um aC,λ h' jv=>?_⟩;have Xo:(upd H1 D (.lst acc)) C=none:=by rw[ar (H9 MU)];exact nC
 have I4:Inv X pins (σ.set i (some (.ref D))) (upd H1 D (.lst acc)) {s2 with heap:=h',toks:=s2.toks}:=J2.turned (it:=C) (λ b o hb e=>jv.extBut b o hb e) Xo fC.2.1 fC.2.2.2.1 fC.2.2.2.2.1 fC.2.2.2.2.2;exact⟨_,_,I4,q D nD⟩
end
end L2
namespace L2
open PySem PySem.Spec PyProof.Rows
def vO(x:Str)(lo hi:Option Int):Str:=⟨((x.cps.toList.drop (HT.bO x.length 0 lo)).take (HT.bO x.length x.length hi - HT.bO x.length 0 lo)).toArray⟩
theorem AO(lo hi:Option Int)(n:Nat):Builtin.Str.strSliceIndices lo hi 1 n=sliceRange ((HT.bO n 0 lo:Nat):Int) ((HT.bO n n hi:Nat):Int) 1:=by obtain⟨h1,h2,h3⟩:=iZ lo hi n;rw[<- h1,<- h2];rfl
set_option tactic.hygienic true in
theorem yD(x:Str)(lo hi:Option Int):Txt.slice x lo hi=vO x lo hi:=by
 have e:((Builtin.Str.strSliceIndices lo hi 1 x.length).filterMap (x.cps[·]?)).toArray=(vO x lo hi).cps:=by rw[AO,sliceRange_one,pick_run];rfl
 unfold Txt.slice;split
 ·rename_i h;have hl:(Builtin.Str.strSliceIndices lo hi 1 x.length).length=x.length:=by simpa using h
  rw[AO,sliceRange_one,A8,y0]at hl;have b1:=HT.uG x.length 0 (F0 _) lo;have b2:=HT.uG x.length x.length (D8 _) hi;have hlen:x.cps.toList.length=x.length:=by simp[Str.length]
  unfold vO;by_cases h0:x.length=0
  ·have:x.cps.toList=[]:=j5.mp (by omega);rw[this];cases x with
   |mk c=>simp at this;subst this;simp
  ·have ea:HT.bO x.length 0 lo=0:=by omega
   have eb:HT.bO x.length x.length hi=x.length:=by omega
   rw[ea,eb,drop_zero,Nat.sub_zero,j6 (by omega)]
 ·exact G8 Str.mk e
section
variable {X:Cx}
def Tg:V->Option Int->Option Int->Hp->VK->Prop:=λ x lo hi H Q=>∃z,x=.str z/\z.length<=sizeLine/\Q (.str (vO z lo hi)) H
theorem vm{h:Heap}{sl:Addr}{vl vu:Value}{lo hi:Option Int}(hs:h.IsSliceOf sl vl vu .none)(pl:IsPart vl lo)(pu:IsPart vu hi):∃l u:Option (Int×Tok),h.IsSlice sl l u none/\l.map (·.1)=lo/\u.map (·.1)=hi:=by
 cases pl with
 |none=>
  cases pu with
  |none=>exact⟨none,none,hs,rfl,rfl⟩
  |int i t=>exact⟨none,some (i,t),hs,rfl,rfl⟩
 |int i t=>
  cases pu with
  |none=>exact⟨some (i,t),none,hs,rfl,rfl⟩
  |int j u=>exact⟨some (i,t),some (j,u),hs,rfl,rfl⟩
theorem Kk:yc X Tg:=by intro pins s σ H x v vl vu lo hi sl Q I rx hs pl pu h;obtain⟨z,rfl,hz,q⟩:=h;obtain⟨t,rfl⟩:=rx;obtain⟨l,u,VU,rfl,rfl⟩:=vm hs pl pu;refine⟨"str",_,PySem.F.slot_str_getitem.lookup,typeIs_str _ _ _,wpAny_getItem_str_slice (l:=l) (u:=u) (st:=none) VU rfl ?_⟩;rw[<- yD]at q;exact post_val_or_str ⟨D3 (Txt.slice_le z _ _) hz,λ t' k=>⟨.str (Txt.slice z (l.map (·.1)) (u.map (·.1))),H,I.tok k,⟨_,rfl⟩,q⟩⟩
theorem yU:eJ X (compareOp .LtE) (λ x y H Q=>∃i j,x=.str i/\y=.str j/\Q (.bl (!decide (j.cps.toList < i.cps.toList))) H):=by intro pins s σ H x y v u Q I rx ry h;obtain⟨i,j,rfl,rfl,q⟩:=h;obtain⟨t,rfl⟩:=rx;obtain⟨t',rfl⟩:=ry;exact PySem.P.le_str ⟨.bl (!decide (j.cps.toList < i.cps.toList)),H,I,rfl,q⟩
def OJ:R2:=λ x y H Q=>∃z n,x=.str z/\y=.int n/\MulOk z n/\Q (.str (Txt.mul z n)) H
theorem uW:eJ X (binaryOp .Mult) OJ:=by intro pins s σ H x y v u Q I rx ry h;obtain⟨z,n,rfl,rfl,aK,q⟩:=h;obtain⟨t,rfl⟩:=rx;obtain⟨t',rfl⟩:=ry;exact SB.mul aK λ t' k=>⟨.str (Txt.mul z n),H,I.tok k,⟨_,rfl⟩,q⟩
theorem tQ(hc:X.calm=true):de X (.builtin "all") (λ xs H Q=>∃(p:Addr) (bs:List Bool),xs=[.ref p]/\fb X.K H p (bs.map V.bl)/\Q (.bl (bs.all id)) H):=by
 intro pins s σ H xs us Q I r h;obtain⟨p,bs,rfl,hq,q⟩:=h;obtain⟨u,rfl,r1⟩:=vals1 r;cases r1;obtain⟨au,rv,pl,hz⟩:=I.list hq;refine call_all_walk (x9 pl.isList ?_);have ie:p≠s.heap.objs.size:=by obtain⟨o,n,e,_⟩:=pl;exact C7 (C8 e)
 have hlen:au.length=bs.length:=by rw[<- rv.length,A8]
 refine⟨s.heap.objs.size,_,_,_,_,_,λ i=>(bs[i]?).getD false,rfl,Walks.list (A:=X.A.in1) (show X.A.in1.handled=none from I.ok.hd hc) s.heap.objs.size p ie au.toArray,⟨⟨_,o8 _ rfl,rfl,rfl⟩,pl.isList.at λ o e=>j8 _ e⟩,?_,λ h' tk hk=>?_⟩
 ·intro i v s' Q' E' hP hQ;have QQ:au[i]?=some v:=by simpa using hP
  have hi:i < bs.length:=by rw[<- hlen];exact(i4.mp QQ).1
  have hb:(bs.map V.bl)[i]?=some (V.bl bs[i]):=by simp[hi]
  obtain⟨u,hu,ru⟩:=rv.get hb;rw[QQ]at hu;cases hu;have e:v=Value.bool bs[i]:=ru;subst e;have:(bs[i]?).getD false=bs[i]:=by simp[hi]
  dsimp only at hQ;rw[this]at hQ;exact x8 hQ
 ·refine⟨.bl (bs.all id),H,I.kept (t':=tk) λ b o e=>hk b o (by simpa using C7 (C8 e)) (j8 _ e),?_,q⟩;show Value.bool _=Value.bool _;congr 1;rw[y3,hlen];rw[A0];simp only[z9,mem_range,id];constructor
  ·intro h b hb;obtain⟨i,hi,rfl⟩:=mem_iff_getElem.mp hb;have:=h i hi;simpa[hi]using this
  ·intro h i hi;simpa[hi]using h bs[i] (z8 hi)
end
def N4(x:Str):It:=⟨λ i _=>i < x.cps.size,λ i H v H'=>H'=H/\∃c,x.cps[i]?=some c/\v=.str ⟨#[c]⟩,λ i _=>i=x.cps.size⟩
theorem rQ{P:Program}{w:World}{K:J8}{tg:Expr}(it:Addr)(x:Str)(t:Tok)(ty:String)(hty:["enumerate","zip","dict_itemiterator","dict_reverseitemiterator","odict_iterator","itertools.zip_longest","itertools.pairwise"].contains ty=false) (W:∀A':Around,A'.handled=none->Walks P w A' it [it] [it] x.cps.size (SignAt x) (λ i h=>h.IsStrIter it ty x t i)) (self:∀(A:Around) (i:Nat) (s:Shared) (Q:Value->Shared->Prop) (E:Value->Shared->Prop),s.heap.IsStrIter it ty x t i->Q (.ref it) s->wpAny (model P w) A (pyIter (.ref it)) Q E s):Turn P w K tg (N4 x) [it] it (λ i h=>h.IsStrIter it ty x t i) where
 mem:=by simp
 obj:=λ i h st b hb=>by
  have e:b=it:=by simpa using hb
  subst e;obtain⟨o,e,c,d⟩:=st;exact⟨o,e,λ v z=>by rw[d]at z;cases z⟩
 keep:=λ i h h' st k=>by obtain⟨o,e,c,d⟩:=st;exact⟨o,k it (by simp) o e,c,d⟩
 item:=by intro X hP hw hK hc i pins s σ H E I hf st hg;subst hP hw hK;obtain⟨f0,f1,f2,f3,f4,f5⟩:=hf it (by simp);refine(W X.A (I.ok.hd hc)).item i s _ _ hg st λ v h' tk hv ux kk=>?_;obtain⟨c,u,hx,rfl⟩:=hv;have I1:Inv X pins σ H {s with heap:=h',toks:=tk}:=I.turned (λ b o hb e=>kk b o (by simpa using hb) e) f0 f1 f3 f4 f5;obtain⟨o,e,cc,d⟩:=id ux;exact⟨_,rfl,xC (s:={s with heap:=h',toks:=tk}) e cc d hty ⟨.str ⟨#[c]⟩,H,I1,⟨u,rfl⟩,⟨rfl,c,hx,rfl⟩,ux,λ b hb=>(hf b hb).1⟩⟩
 done:=by intro X hP hw hK hc i pins s σ H E I hf st hg;subst hP hw hK;obtain⟨f0,f1,f2,f3,f4,f5⟩:=hf it (by simp);have hg:i=x.cps.size:=hg;subst hg;exact(W X.A (I.ok.hd hc)).done s _ _ st λ h' tk kk=>⟨rfl,I.turned (λ b o hb e=>kk b o (by simpa using hb) e) f0 f1 f3 f4 f5⟩
 self:=self
end L2
namespace L2
open PySem PySem.Spec PyProof.Rows
section
variable {X:Cx}
theorem wb.imp {r r':R2}(h:wb X r)(k:∀x y H Q,r' x y H Q->r x y H Q):wb X r':=λ value slice pins s σ H x y v u Q I rx ry q=>h value slice pins s σ H x y v u Q I rx ry (k x y H Q q)
theorem yc.imp {r r':V->Option Int->Option Int->Hp->VK->Prop}(h:yc X r)(k:∀x lo hi H Q,r' x lo hi H Q->r x lo hi H Q):yc X r':=
 λ pins s σ H x v vl vu lo hi sl Q I rx hs pl pu q=>h pins s σ H x v vl vu lo hi sl Q I rx hs pl pu (k x lo hi H Q q)
def ZT(K:J8):R2:=λ x y H Q=>match x,y with
 | .ref p,.int i=>∃xs v,(fb K H p xs\/gb K H p xs)/\f' xs i=some v/\Q v H
 | .str z,.int i=>z.length<=sizeLine/\∃c,f' z.cps.toList i=some c/\Q (.str ⟨#[c]⟩) H
 |_,_=>False
theorem aM:wb X (ZT X.K):=Mw.imp λ x y H Q q=>by
 cases x <;> cases y <;> first
  |exact False.elim q
  |(obtain⟨xs,v,h|h,e,q⟩:=q
    ·exact .inl ⟨_,xs,_,v,rfl,rfl,h,e,q⟩
    ·exact .inr (.inl ⟨_,xs,_,v,rfl,rfl,h,e,q⟩))
  |(obtain⟨hz,c,e,q⟩:=q
    exact .inr (.inr ⟨_,_,c,rfl,rfl,hz,e,q⟩))
def ZS(K:J8):V->Option Int->Option Int->Hp->VK->Prop:=λ x lo hi H Q=>match x with
 | .str z=>z.length<=sizeLine/\Q (.str (vO z lo hi)) H
 | .ref a=>OH K (.ref a) lo hi H Q\/OG K (.ref a) lo hi H Q
 |_=>False
theorem gu:yc X (ZS X.K):=(Kk.or (Fy.or Kj)).imp λ x lo hi H Q q=>by cases x <;> first|exact False.elim q|exact .inl ⟨_,rfl,q⟩|exact .inr q
end
end L2
namespace L2
open PySem PySem.Spec PyProof.Rows
structure iD(P:Program)(w:World)(K:J8)(mg:Str->Option Value)(base:Heap)(k:Nat)(x:Str)(ps:List Str)(sp:Sp):Prop where
 ex:∃(f:Addr) (fd:FuncData),aX P w K mg base di k f fd ps sp/\mg x=some (.ref f)/\PySem.W.keepIn K (.ref f)=true/\Binds K fd ps []
theorem iD.of {P:Program}{w:World}{K:J8}{mg:Str->Option Value}{base:Heap}{k:Nat}{x qual:Str}{ps:List Str}{sp:Sp}{st:Stmt}{f:Addr}{fd:FuncData}(F:fg K x qual st f fd)(G:aX P w K mg base di k f fd ps sp)(hm:mg x=some (.ref f))(b:Binds K fd ps []):iD P w K mg base k x ps sp:=⟨f,fd,G,hm,F.kp,b⟩
def tD(sp:Sp)(t:TA):TE:=λ σ H Q=>t σ H λ vs H1=>sp vs H1 Q E0
section
variable {X:Cx}{x:Str}{p pos:Pos}{e:Expr}{es:List Expr}{t:TA}{k j:Nat}{ps:List Str}{sp:Sp}
theorem LG(d:iD X.prog X.w X.K X.mg X.base k x ps sp)(hr:bf k X.A)(hg:Gl X x)(ha:PA X (e::es) t)(hdb:(x==("__debug__":Str))=false:=by decide)(he:starEach (e::es) X.env=(false,eval e X.env)::starEach es X.env:=by rfl) (hpl:(backTo pos (starEach es X.env)).any (·.1)=false:=by rfl):PE X (.Call (.Name x p) (e::es) [] pos) (tD sp t):=by
 obtain⟨f,fd,G,hm,kp,b⟩:=d.ex;intro pins s σ H Q I h;have h':Ja sp [] E0 t σ H Q:=by
  show t σ H λ vs H1=>sp (vs++[]) H1 Q E0;have e:(λ(vs:List V) (H1:Hp)=>sp (vs++[]) H1 Q E0)=λ vs H1=>sp vs H1 Q E0:=by funext vs H1;rw[A1]
  rw[e];exact h
 exact w_ (E:=E0) G hr hg hm kp b .nil O_ ha hdb he hpl pins s σ H Q I h'
end
def tU(X:Cx)(scope:Scope)(fr:List Nat):Bool:=
 (scope.kind==.function)&&(scope.names.all λ y=>(y.2 != .cell||scope.names.lookup y.1==some .cell)&&(y.2 != .local||scope.names.lookup y.1==some .local)&&(y.2 != .free||X.env.kindOf y.1==some .cell||X.env.kindOf y.1==some .free))&&
 (fr.all λ j=>decide (j < X.N.length)&&scope.names.lookup (X.N.getD j "")==some .free)
theorem Ef{X:Cx}{scope:Scope}{fr:List Nat}(h:tU X scope fr=true):gW X scope fr:=by
 unfold tU at h;rw[z6,z6]at h;obtain⟨⟨h1,h2⟩,h3⟩:=h;rw[z9]at h2 h3;refine⟨by simpa using h1,λ y hy hl=>?_,λ y hy hl=>?_,λ n hn=>?_,λ j hj=>?_⟩
 ·have:=h2 y hy;simp only[z6]at this;have:=this.1.1;rw[hl]at this;simpa using this
 ·have:=h2 y hy;simp only[z6]at this;have:=this.1.2;rw[hl]at this;simpa using this
 ·have:=h2 _ hn;simp only[z6]at this;have:=this.2;simpa using this
 ·have:=h3 j hj;rw[z6]at this;exact⟨by simpa using this.1,by simpa using this.2⟩
section
variable {X:Cx}{tg:Expr}
def Ua(K:J8)(tl:TE):TI:=λ σ H R=>tl σ H λ x H1=>match x with
 | .str z=>R (N4 z) H1
 | .ref a=>(∃xs,fb K H1 a xs/\R (SE K a) H1)\/(∃xs,gb K H1 a xs/\R (Vd K a) H1)
 |_=>False
theorem Lx{l:Expr}{tl:TE}(hl:PE X l tl):PI X tg l (Ua X.K tl):=by
 intro pins s σ H R I h;have Dr:PE X l (λ σ' H' Q=>Q=Q/\tl σ' H' Q):=λ pins s σ H Q I q=>hl pins s σ H Q I q.2;refine bZ (hl pins s σ H _ I h) λ v s1 ⟨x,H1,I1,r1,q1⟩=>?_;have fp:∀b∈[s1.heap.objs.size],jJ X pins H1 b:=λ b hb=>by
  have e:b=s1.heap.objs.size:=by simpa using hb
  subst e;exact I1.qZ (D8 _) (I1.aK.fresh (D8 _))
 cases x with
 |str z=>
  have q:R (N4 z) H1:=q1;obtain⟨t,rfl⟩:=r1;cases ha:z.cps.all (· < 128)
  ·exact wpAny_pyIter_wide ha ⟨s1.heap.objs.size,[s1.heap.objs.size],_,N4 z,H1,rfl,I1.kept (t':=s1.toks) λ b o e=>j8 _ e,rQ _ z t "str_iterator" (by decide) (λ A' hA=>Walks.strWide hA _ z t) (λ _ _ _ _ _ st h=>wpAny_pyIter_striter_wide st h),⟨_,o8 _ rfl,rfl,rfl⟩,fp,q⟩
  ·exact wpAny_pyIter_ascii ha ⟨s1.heap.objs.size,[s1.heap.objs.size],_,N4 z,H1,rfl,I1.kept (t':=s1.toks) λ b o e=>j8 _ e,rQ _ z t "str_ascii_iterator" (by decide) (λ A' hA=>Walks.strAscii hA _ z t) (λ _ _ _ _ _ st h=>wpAny_pyIter_striter_ascii st h),⟨_,o8 _ rfl,rfl,rfl⟩,fp,q⟩
 |ref a=>
  cases(show v=Value.ref a from r1);rcases q1 with⟨xs,hq,q⟩|⟨xs,hq,q⟩
  ·obtain⟨au,rv,p,hz⟩:=I1.list hq;exact x9 p.isList ⟨s1.heap.objs.size,[s1.heap.objs.size],_,_,H1,rfl,I1.kept (t':=s1.toks) λ b o e=>j8 _ e,yw a _,⟨_,o8 _ rfl,rfl,rfl⟩,fp,q⟩
  ·obtain⟨au,rv,p,hz⟩:=I1.tuple hq;exact wpAny_pyIter_tuple (show s1.heap.IsTuple a au.toArray from p) ⟨s1.heap.objs.size,[s1.heap.objs.size],_,_,H1,rfl,I1.kept (t':=s1.toks) λ b o e=>j8 _ e,uq a _,⟨_,o8 _ rfl,rfl,rfl⟩,fp,q⟩
 |_=>exact False.elim q1
end
end L2
namespace L2
open PySem PySem.Spec PyProof.Rows
inductive IK where
 |i (n:Int)
 |t (ks:List IK)
noncomputable instance:DecidableEq IK:=λ a b=>Classical.propDecidable (a=b)
mutual
def IK.dep:IK->Nat
 | .i _=>0
 | .t ks=>IK.iu ks+1
def IK.iu:List IK->Nat
 |[]=>0
 |k::ks=>max k.dep (IK.iu ks)
end
mutual
def Dk:IK->Int
 | .i n=>hashInt n
 | .t ks=>reduceHash (Builtin.Tuple.tupleHashOf (qU ks))
def qU:List IK->List Int
 |[]=>[]
 |k::ks=>Dk k::qU ks
end
mutual
def Ac:IK->Nat
 | .i _=>1
 | .t ks=>gJ ks+1
def gJ:List IK->Nat
 |[]=>0
 |k::ks=>Ac k+gJ ks
end
def b2i(b:Bool):Int:=if b then 1 else 0
mutual
def cJ(h:Heap):IK->Value->Prop
 | .i n,v=>(∃t,v=.int n t)\/∃b:Bool,v=.bool b/\n=b2i b
 | .t ks,v=>∃(a:Addr) (o:Obj) (au:List Value) (n:Nat),v=.ref a/\h.get? a=some o/\o.cls=.type "tuple"/\o.data=.seq au.toArray n/\bP h ks au
def bP(h:Heap):List IK->List Value->Prop
 |[],vs=>vs=[]
 |k::ks,vs=>∃v r,vs=v::r/\cJ h k v/\bP h ks r
end
mutual
def uc:IK->PyData->Prop
 | .i n,d=>d=.int n\/∃b:Bool,d=.bool b/\n=b2i b
 | .t ks,d=>∃ds,d=.tuple ds/\gH ks ds
def gH:List IK->List PyData->Prop
 |[],ds=>ds=[]
 |k::ks,ds=>∃d r,ds=d::r/\uc k d/\gH ks r
end
theorem tm:∀ks:List IK,qU ks=ks.map Dk
 |[]=>by unfold qU;rfl
 |k::ks=>by unfold qU;rw[tm ks];rfl
theorem tj:∀(ks ls:List IK),gJ (ks++ls)=gJ ks+gJ ls
 |[],ls=>by rw[nil_append];unfold gJ;split <;> omega
 |k::ks,ls=>by rw[cons_append];have:=tj ks ls;show Ac k+gJ (ks++ls)=Ac k+gJ ks+gJ ls;omega
theorem Di(k:IK):gJ [k]=Ac k:=by show Ac k+gJ []=Ac k;unfold gJ;omega
theorem Dj:gJ []=0:=by unfold gJ;rfl
theorem jD:∀{ks:List IK} {k:IK},k∈ks->k.dep<=IK.iu ks
 |k0::ks,k,h=>by
  show k.dep<=max k0.dep (IK.iu ks);rcases C3.mp h with rfl|h
  ·exact Nat.le_max_left _ _
  ·exact D3 (jD h) (Nat.le_max_right _ _)
section
variable {prog:Program}{w:World}
theorem pW{A:Around}{E:Value->Shared->Prop}{s:Shared}{b:Bool}{Q:Int->Shared->Prop}(h:Q (hashInt (b2i b)) {s with toks:=s.toks+1}):wpAny (model prog w) A (pyHash (.bool b)) Q E s:=by have hT:s.TypeIs (.bool b) "bool":=rfl;have hr:=rawHash_range (b2i b);unfold pyHash;have hv:[Value.bool b].any Value.onHeap=false:=rfl;refine G1 ?_;rw[cRoomFor,J7 (by rw[hv];exact r0)];refine G2 ?_;refine G1 (B3 hT F.slot_bool_hash.lookup ?_);show wpAny _ _ (if(some (Value.builtin "int.__hash__")==some Value.none)=true then _ else _) Q E s;rw[J7 (by rw[beq_builtin_none];exact r0)];refine G1 (B3 hT F.slot_bool_hash.lookup ?_);show wpAny _ _ (callSpecialIfBoundUnlessNone? (.bool b) "__hash__" _ >>= _) Q E s;refine G1 (wpAny_callSpecialIfBoundUnlessNone?_slot hT F.slot_bool_hash (z5 F.slot_bool_hash hT entry_int_hash (show wpAny _ _ (do ret (<- mkInt (rawHash (b2i b)))) _ _ s from wpAny_ret_mkInt ?_) (args_int_hash _)));show wpAny _ _ (if(decide (-(2:Int)^63<=rawHash (b2i b))&&decide (rawHash (b2i b) < 2^63))=true then _ else _) Q E _;rw[J0 (by rw[B5 hr.1,B5 hr.2];rfl)];exact G2 h
theorem HX:∀(n:Nat) (k:IK),k.dep<=n->∀{A:Around} {E:Value->Shared->Prop} {s:Shared} {v:Value} {Q:Int->Shared->Prop},A.units+k.dep < cLine->cJ s.heap k v->Q (Dk k) {s with toks:=s.toks+Ac k}->wpAny (model prog w) A (pyHash v) Q E s:=by
 intro n
 induction n with
 |zero=>
  intro k hk A E s v Q hu hi h;cases k with
  |i m=>
   unfold cJ at hi;unfold Dk Ac at h;rcases hi with⟨t,rfl⟩|⟨b,rfl,rfl⟩
   ·exact wpAny_pyHash_int h
   ·exact pW h
  |t ks=>unfold IK.dep at hk;omega
 |succ n ih=>
  intro k hk A E s v Q hu hi h;cases k with
  |i m=>
   unfold cJ at hi;unfold Dk Ac at h;rcases hi with⟨t,rfl⟩|⟨b,rfl,rfl⟩
   ·exact wpAny_pyHash_int h
   ·exact pW h
  |t ks=>
   unfold cJ at hi;obtain⟨a,o,au,m,rfl,ho,hc,hd,hits⟩:=hi;have jy:IK.iu ks<=n:=by unfold IK.dep at hk;omega
   have Z5:A.units+(IK.iu ks+1) < cLine:=by unfold IK.dep at hu;exact hu
   have hT:s.TypeIs (.ref a) "tuple":=⟨o,ho,hc⟩;unfold pyHash;(first|unfold pyHashByItsType|skip);(first|refine G1 (wpAny_cRoomFor_or (.inr (show A.units < cLine by omega)) ?_)|skip);refine G1 (B3 hT F.slot_tuple_hash.lookup ?_);show wpAny _ _ (if(some (Value.builtin "tuple.__hash__")==some Value.none)=true then _ else _) Q E s;rw[J7 (by rw[beq_builtin_none];exact r0)];refine G1 (B3 hT F.slot_tuple_hash.lookup ?_);show wpAny _ _ (callSpecialIfBoundUnlessNone? (.ref a) "__hash__" _ >>= _) Q E s;refine G1 (wpAny_callSpecialIfBoundUnlessNone?_slot hT F.slot_tuple_hash (z5 F.slot_tuple_hash hT F.entry_tuple_hash ?_ (F.args_tuple_hash_1 _)));show wpAny _ _ (Builtin.Tuple.tupleItemsOf (.ref a) >>= _) _ _ s;refine G1 (wpAny_tupleItemsOf ho hd (G1 ?_));rw[<- Array.forIn_toList];refine wpAny_forIn_list _ (λ rest (b:Array Int) s'=>∃done left,ks=done++left/\bP s.heap left rest/\b.toList=done.map Dk/\s'={s with toks:=s.toks+gJ done}) _ ?_ ?_ _ _ ⟨[],ks,rfl,hits,rfl,by rw[Dj];rfl⟩
   ·rintro x rest b s' ⟨done,left,rfl,hl,hb,rfl⟩;cases left with
    |nil=>unfold bP at hl;cases hl
    |cons k1 left=>
     unfold bP at hl;obtain⟨v,r,e,h1,h2⟩:=hl;cases e;have hm:=jD (ks:=done++k1::left) (k:=k1) (by simp);refine G1 (ih k1 (by omega) (A:=A.in1) (show A.units+1+_ < cLine by omega) h1 ?_);have fin:∃d2 l2,done++k1::left=d2++l2/\bP s.heap l2 rest/\(b.push (Dk k1)).toList=d2.map Dk/\({s with toks:=s.toks+gJ done+Ac k1}:Shared)={s with toks:=s.toks+gJ d2}:=
      ⟨done++[k1],left,by simp,h2,by simp[hb],by rw[tj,Di,Nat.add_assoc]⟩
     first|exact G2 fin|exact G1 (G2 (G2 fin))
   ·rintro b s' ⟨done,left,rfl,hl,hb,rfl⟩;cases left with
    |cons k1 left=>unfold bP at hl;obtain⟨v,r,e,_⟩:=hl;cases e
    |nil=>
     rw[A1]at h;show wpAny _ _ (retInt (Builtin.Tuple.tupleHashOf b.toList)) _ _ _;rw[hb,<- tm];refine wpAny_ret_mkInt ?_;show wpAny _ _ (if(decide (-(2:Int)^63<=Builtin.Tuple.tupleHashOf (qU done))&&decide (Builtin.Tuple.tupleHashOf (qU done) < 2^63))=true then _ else _) Q E _;unfold Dk Ac reduceHash at h;by_cases hr:(decide (-(2:Int)^63<=Builtin.Tuple.tupleHashOf (qU done))&&decide (Builtin.Tuple.tupleHashOf (qU done) < 2^63))=true
     ·rw[J0 hr]at h ⊢;exact G2 (by simpa[Nat.add_assoc]using h)
     ·rw[J7 hr]at h ⊢;exact G1 (wpAny_rule (G2 (by simpa[Nat.add_assoc]using h)))
end
end L2
namespace L2
open PySem PySem.Spec PyProof.Rows
mutual
theorem nH{h:Heap}:∀(k:IK) {v:Value},cJ h k v->∃d as,uc k d/\Reads h v d as
 | .i n,v,x=>by
  unfold cJ at x;unfold uc;rcases x with⟨t,rfl⟩|⟨b,rfl,rfl⟩
  ·exact⟨_,_,.inl rfl,Reads.int n t⟩
  ·exact⟨_,_,.inr ⟨b,rfl,rfl⟩,Reads.bool b⟩
 | .t ks,v,x=>by unfold cJ at x;obtain⟨a,o,au,n,rfl,ho,hc,hd,q⟩:=x;obtain⟨ds,as,p,r⟩:=pU ks q;unfold uc;exact⟨_,_,⟨ds,rfl,p⟩,reads_tuple_at ho hc hd (by simpa using r)⟩
theorem pU{h:Heap}:∀(ks:List IK) {vs:List Value},bP h ks vs->∃ds as,gH ks ds/\ReadsAll h vs ds as
 |[],vs,x=>by unfold bP at x;subst x;unfold gH;exact⟨_,_,rfl,ReadsAll.nil⟩
 |k::ks,vs,x=>by unfold bP at x;obtain⟨v,r,rfl,h1,h2⟩:=x;obtain⟨d,as,p,a⟩:=nH k h1;obtain⟨ds,bs,q,b⟩:=pU ks h2;unfold gH;exact⟨_,_,⟨d,ds,rfl,p,q⟩,ReadsAll.cons a b⟩
end
mutual
theorem vn:∀(k:IK) {d:PyData},uc k d->d.canLay0=true
 | .i n,d,x=>by unfold uc at x;rcases x with rfl|⟨b,rfl,_⟩ <;> simp[PyData.canLay0]
 | .t ks,d,x=>by unfold uc at x;obtain⟨ds,rfl,q⟩:=x;simp only[PyData.canLay0];exact xt ks q
theorem xt:∀(ks:List IK) {ds:List PyData},gH ks ds->PyData.canLayAll0 ds=true
 |[],ds,x=>by unfold gH at x;subst x;simp[PyData.canLayAll0]
 |k::ks,ds,x=>by unfold gH at x;obtain⟨d,r,rfl,p,q⟩:=x;simp only[PyData.canLayAll0];rw[vn k p,xt ks q];rfl
end
mutual
theorem vo:∀(k:IK) {d:PyData},uc k d->d.depth=k.dep
 | .i n,d,x=>by unfold uc at x;unfold IK.dep;rcases x with rfl|⟨b,rfl,_⟩ <;> simp[PyData.depth]
 | .t ks,d,x=>by unfold uc at x;obtain⟨ds,rfl,q⟩:=x;unfold IK.dep;simp only[PyData.depth];rw[xu ks q]
theorem xu:∀(ks:List IK) {ds:List PyData},gH ks ds->PyData.depthAll ds=IK.iu ks
 |[],ds,x=>by unfold gH at x;subst x;unfold IK.iu;simp[PyData.depthAll]
 |k::ks,ds,x=>by unfold gH at x;obtain⟨d,r,rfl,p,q⟩:=x;unfold IK.iu;simp only[PyData.depthAll];rw[vo k p,xu ks q]
end
theorem HJ{n m:Int}{d e:PyData}(x:d=.int n\/∃b:Bool,d=.bool b/\n=b2i b)(y:e=.int m\/∃b:Bool,e=.bool b/\m=b2i b):PyData.eqv d e=true↔n=m:=by
 rcases x with rfl|⟨b,rfl,rfl⟩ <;> rcases y with rfl|⟨c,rfl,rfl⟩
 ·simp[PyData.eqv]
 ·simp[PyData.eqv,b2i]
 ·simp[PyData.eqv,b2i]
 ·cases b <;> cases c <;> simp[PyData.eqv,b2i]
mutual
theorem Jv:∀(a b:IK) {d e:PyData},uc a d->uc b e->(PyData.eqv d e=true↔a=b)
 | .i n,.i m,d,e,x,y=>by unfold uc at x y;rw[HJ x y];simp
 | .i n,.t ks,d,e,x,y=>by unfold uc at x y;obtain⟨ds,rfl,_⟩:=y;rcases x with rfl|⟨b,rfl,_⟩ <;> simp[PyData.eqv]
 | .t ks,.i n,d,e,x,y=>by unfold uc at x y;obtain⟨ds,rfl,_⟩:=x;rcases y with rfl|⟨b,rfl,_⟩ <;> simp[PyData.eqv]
 | .t ks,.t ls,d,e,x,y=>by unfold uc at x y;obtain⟨ds,rfl,p⟩:=x;obtain⟨es,rfl,q⟩:=y;simp only[PyData.eqv,IK.t.injEq];exact C_ ks ls p q
theorem C_:∀(as bs:List IK) {ds es:List PyData},gH as ds->gH bs es->(PyData.eqvAll ds es=true↔as=bs)
 |[],[],ds,es,x,y=>by unfold gH at x y;subst x;subst y;simp[PyData.eqvAll]
 |[],b::bs,ds,es,x,y=>by unfold gH at x y;obtain⟨d,r,rfl,_⟩:=y;subst x;simp[PyData.eqvAll]
 |a::as,[],ds,es,x,y=>by unfold gH at x y;obtain⟨d,r,rfl,_⟩:=x;subst y;simp[PyData.eqvAll]
 |a::as,b::bs,ds,es,x,y=>by unfold gH at x y;obtain⟨d,r,rfl,p1,p2⟩:=x;obtain⟨e,r2,rfl,q1,q2⟩:=y;simp only[PyData.eqvAll,z6,List.cons.injEq];rw[Jv a b p1 q1,C_ as bs p2 q2]
end
mutual
theorem Dg{h:Heap}:∀(x y:IK) {v:Value},cJ h x v->cJ h y v->x=y
 | .i n,.i m,v,a,b=>by
  unfold cJ at a b;rcases a with⟨t,rfl⟩|⟨c,rfl,rfl⟩ <;> rcases b with⟨u,e⟩|⟨d,e,f⟩ <;> cases e
  ·rfl
  ·rw[f]
 | .i n,.t ks,v,a,b=>by unfold cJ at a b;obtain⟨_,_,_,_,e,_⟩:=b;rcases a with⟨t,rfl⟩|⟨c,rfl,rfl⟩ <;> cases e
 | .t ks,.i n,v,a,b=>by unfold cJ at a b;obtain⟨_,_,_,_,e,_⟩:=a;rcases b with⟨t,rfl⟩|⟨c,rfl,rfl⟩ <;> cases e
 | .t ks,.t ls,v,a,b=>by unfold cJ at a b;obtain⟨a1,o1,i1,n1,rfl,g1,_,d1,q1⟩:=a;obtain⟨a2,o2,i2,n2,e,g2,_,d2,q2⟩:=b;cases e;rw[g1]at g2;cases g2;rw[d1]at d2;cases d2;rw[xx ks ls q1 q2]
theorem xx{h:Heap}:∀(xs ys:List IK) {vs:List Value},bP h xs vs->bP h ys vs->xs=ys
 |[],[],vs,_,_=>rfl
 |[],y::ys,vs,a,b=>by unfold bP at a b;subst a;obtain⟨_,_,e,_⟩:=b;cases e
 |x::xs,[],vs,a,b=>by unfold bP at a b;subst b;obtain⟨_,_,e,_⟩:=a;cases e
 |x::xs,y::ys,vs,a,b=>by unfold bP at a b;obtain⟨v,r,rfl,a1,a2⟩:=a;obtain⟨v2,r2,e,b1,b2⟩:=b;cases e;rw[Dg x y a1 b1,xx xs ys a2 b2]
end
theorem MB{h:Heap}{k:IK}{v:Value}(x:cJ h k v){d:Addr}{o:Obj}{es:Array DictEntry}{ep:Nat}(ho:h.get? d=some o)(hd:o.data=.dict es ep){h':Heap}(hs:Heap.SameBut d h h'):cJ h' k v:=by
 have gen:∀(n:Nat) (k:IK),k.dep<=n->∀v,cJ h k v->cJ h' k v:=by
  intro n
  induction n with
  |zero=>
   intro k hk v x;cases k with
   |i m=>unfold cJ at x ⊢;exact x
   |t ks=>unfold IK.dep at hk;omega
  |succ n ih=>
   intro k hk v x;cases k with
   |i m=>unfold cJ at x ⊢;exact x
   |t ks=>
    unfold cJ at x ⊢;obtain⟨a,o',au,m,e,zr,hc,jz,r⟩:=x;have ie:a≠d:=λ z=>by subst z;rw[ho]at zr;cases zr;rw[hd]at jz;cases jz
    refine⟨a,o',au,m,e,(hs.2 a ie).trans zr,hc,jz,?_⟩;have jy:IK.iu ks<=n:=by unfold IK.dep at hk;omega
    have all:∀(ls:List IK) (vs:List Value),(∀l∈ls,l.dep<=n)->bP h ls vs->bP h' ls vs:=by
     intro ls
     induction ls with
     |nil=>intro vs _ y;unfold bP at y ⊢;exact y
     |cons l ls XA=>intro vs hl y;unfold bP at y ⊢;obtain⟨v,r,e,h1,h2⟩:=y;exact⟨v,r,e,ih l (hl l (q9 ..)) v h1,XA r (λ z hz=>hl z (m7 _ hz)) h2⟩
    exact all ks au (λ l hl=>D3 (jD hl) jy) r
 exact gen k.dep k (D8 _) v x
section
variable {prog:Program}{w:World}
theorem Df:∀(n:Nat) (k:IK),k.dep<=n->∀{A:Around} {E:Value->Shared->Prop} {s:Shared} {v:Value} {Q:Bool->Shared->Prop},cJ s.heap k v->Q true s->wpAny (model prog w) A (eqIsQuiet n v) Q E s:=by
 intro n
 induction n with
 |zero=>
  intro k hk A E s v Q hi h;cases k with
  |i m=>unfold cJ at hi;rcases hi with⟨t,rfl⟩|⟨b,rfl,_⟩ <;> rw[eqIsQuiet_byValue _ rfl] <;> exact G2 h
  |t ks=>unfold IK.dep at hk;omega
 |succ n ih=>
  intro k hk A E s v Q hi h;cases k with
  |i m=>unfold cJ at hi;rcases hi with⟨t,rfl⟩|⟨b,rfl,_⟩ <;> rw[eqIsQuiet_byValue _ rfl] <;> exact G2 h
  |t ks=>
   unfold cJ at hi;obtain⟨a,o,au,m,rfl,ho,hc,hd,hits⟩:=hi;have jy:IK.iu ks<=n:=by unfold IK.dep at hk;omega
   have hT:s.TypeIs (.ref a) "tuple":=⟨o,ho,hc⟩;unfold eqIsQuiet;refine G1 (B3 hT F.slot_tuple_eq.lookup ?_);show wpAny _ _ (isInstance (.ref a) (.type "tuple") >>= _) _ _ s;refine G1 (wpAny_isInstance hT isSubtype_tuple_tuple ?_);simp only[Bool.not_true,r9,G7];refine G1 (wpAny_seqItems ho hd (G1 ?_));show wpAny _ _ (forIn au.toArray _ _) _ _ s;rw[<- Array.forIn_toList];refine wpAny_forIn_list _ (λ rest r s'=>r.1=none/\s'=s/\∃left,(∀l∈left,l∈ks)/\bP s.heap left rest) _ ?_ ?_ _ _ ⟨rfl,rfl,ks,λ l hl=>hl,hits⟩
   ·rintro x rest r s' ⟨hr,rfl,left,HZ,hl⟩;cases left with
    |nil=>unfold bP at hl;cases hl
    |cons k1 left=>unfold bP at hl;obtain⟨v,r',e,h1,h2⟩:=hl;cases e;refine G1 (ih k1 (D3 (jD (HZ k1 (q9 ..))) jy) h1 ?_);simp only[Bool.not_true,r9,G7];exact G2 ⟨rfl,rfl,left,λ l hl=>HZ l (m7 _ hl),h2⟩
   ·rintro⟨r1,r2⟩ s' ⟨hr,rfl,_⟩;simp only at hr;subst hr;exact G2 h
def iY(prog:Program)(w:World):HeapKind prog w IK where
 is:=λ h k a=>k.dep<=5/\cJ h k (.ref a)
 hash:=Dk
 draws:=Ac
 room:=λ A=>A.units+8 < cLine
 inj:=λ hx hy=>Dg _ _ hx.2 hy.2
 keeps:=λ x ho hd hs=>⟨x.1,MB x.2 ho hd hs⟩
 pyHash:=λ hu hk h=>HX 5 _ hk.1 (by have:=hk.1;omega) hk.2 h
 eqBool:=λ{A E s x y a b Q} hu hx hy h=>by
  obtain⟨dx,as,px,ra⟩:=nH x hx.2;obtain⟨dy,bs,py,rb⟩:=nH y hy.2;refine SeqAt.eqAt_reads dx dy A s _ _ _ _ ra rb (vn x px) (vn y py) ?_ prog w E Q ?_
  ·rw[vo x px,vo y py];have:=hx.1;have:=Nat.min_le_left x.dep y.dep;omega
  ·have e:PyData.eqv dx dy=decide (x=y):=by rw[A0,decide_eq_true_eq];exact Jv x y px py
   rw[e];exact h
 quiet:=λ hk h=>Df 8 _ (D3 hk.1 (by decide)) hk.2 h
end
end L2
namespace L2
open PySem PySem.Spec PyProof.Rows
section
variable {κ:Type}[DecidableEq κ]
def iG(kvs:List (κ×V))(k:κ):Option V:=(kvs.find? λ kv=>decide (kv.1=k)).map (·.2)
def putK(kvs:List (κ×V))(k:κ)(v:V):List (κ×V):=
 if(kvs.any λ kv=>decide (kv.1=k))=true then kvs.map (λ kv=>if kv.1=k then(kv.1,v)else kv)else kvs++[(k,v)]
theorem mC{p:κ×V}{r:List (κ×V)}{k:κ}(e:p.1=k):iG (p::r) k=some p.2:=by simp[iG,A3,e]
theorem mD{p:κ×V}{r:List (κ×V)}{k:κ}(e:¬p.1=k):iG (p::r) k=iG r k:=by simp[iG,A3,e]
theorem mE(k:κ):∀kvs:List (κ×V),(kvs.any λ kv=>decide (kv.1=k))=(iG kvs k).isSome
 |[]=>rfl
 |p::r=>by
  rw[any_cons];by_cases e:p.1=k
  ·simp only[mC e,B5 e,Bool.true_or,Option.isSome_some]
  ·rw[mD e,A4 e,Bool.false_or];exact mE k r
theorem gF(kvs:List (κ×V))(k:κ)(v:V):(putK kvs k v).length<=kvs.length+1:=by
 unfold putK;split
 ·rw[A8];omega
 ·rw[r6,y9,length_nil];omega
theorem gR.dJ {o:Option V}{u:Option Value}(r:gR o u):o.isSome=u.isSome:=by
 cases o with
 |none=>cases u with
  |none=>rfl
  |some _=>exact(show False from r).elim
 |some _=>cases u with
  |none=>exact(show False from r).elim
  |some _=>rfl
theorem KV.val {kvs:List (κ×V)}{vs:List (κ×Value)}(r:KV kvs vs)(k:κ):gR (iG kvs k) (valueAt vs k):=by
 unfold KV at r
 induction r with
 |nil=>exact True.intro
 |@cons p q ps qs h t ih=>
  obtain⟨h1,h2⟩:=h;by_cases e:p.1=k
  ·have e':q.1=k:=h1.symm.trans e;have b:valueAt (q::qs) k=some q.2:=by simp[valueAt,A3,e']
   rw[mC e,b];exact h2
  ·have e':¬q.1=k:=λ z=>e (h1.trans z);have b:valueAt (q::qs) k=valueAt qs k:=by simp[valueAt,A3,e']
   rw[mD e,b];exact ih
theorem KV.any {kvs:List (κ×V)}{vs:List (κ×Value)}(r:KV kvs vs)(k:κ):(kvs.any λ kv=>decide (kv.1=k))=vs.any λ kv=>decide (kv.1=k):=by
 unfold KV at r
 induction r with
 |nil=>rfl
 |cons h t ih=>rw[any_cons,any_cons,ih,h.1]
theorem KV.Bs {kvs:List (κ×V)}{vs:List (κ×Value)}(r:KV kvs vs)(k:κ){y:V}{u:Value}(ry:RelV y u):KV (kvs.map λ kv=>if kv.1=k then(kv.1,y)else kv) (vs.map λ kv=>if kv.1=k then(kv.1,u)else kv):=by
 unfold KV at r ⊢
 induction r with
 |nil=>exact .nil
 |@cons p q ps qs h t ih=>
  rw[C2,C2];refine .cons ?_ ih;obtain⟨h1,h2⟩:=h;by_cases e:p.1=k
  ·rw[J0 e,J0 (h1.symm.trans e)];exact⟨h1,ry⟩
  ·rw[J7 e,J7 (λ z=>e (h1.trans z))];exact⟨h1,h2⟩
theorem KV.put {kvs:List (κ×V)}{vs:List (κ×Value)}(r:KV kvs vs)(k:κ){y:V}{u:Value}(ry:RelV y u):KV (putK kvs k y) (stored vs k u):=by
 unfold putK stored;rw[r.any k];by_cases e:(vs.any λ kv=>decide (kv.1=k))=true
 ·rw[J0 e,J0 e];exact r.Bs k ry
 ·rw[J7 e,J7 e];exact Paired.snoc r ⟨rfl,ry⟩
theorem KV.length {kvs:List (κ×V)}{vs:List (κ×Value)}(r:KV kvs vs):kvs.length=vs.length:=C0 r
end
theorem pS{P:Program}{w:World}{k:Key}{u:Value}(r:RelV (kV k) u):(cg P w).is k u=true:=by
 cases k with
 |inl i=>obtain⟨t,e⟩:=(show ∃t,u=Value.int i t from r);subst e;exact sS P w i t
 |inr x=>obtain⟨t,e⟩:=(show ∃t,u=Value.str x t from r);subst e;exact sR P w x t
theorem pT{P:Program}{w:World}:∀{ks:List Key} {us:List Value},Vals (ks.map kV) us->ItemsAre (cg P w) ks us
 |[],_,r=>by rw[map_nil]at r;cases r;exact .nil
 |k::ks,_,r=>by
  rw[C2]at r;cases r with
  |cons h t=>exact .cons (pS h) (pT t)
abbrev KT(H:Hp):List (List Key×V)->List (List Key×Addr×Value)->Prop:=Paired λ p q=>p.1=q.1/\H q.2.1=some (.tup (p.1.map kV))/\RelV p.2 q.2.2
theorem KT.val {H:Hp}{kvs:List (List Key×V)}{xs:List (List Key×Addr×Value)}(r:KT H kvs xs)(k:List Key):gR (iG kvs k) ((atKey xs k).map (·.2)):=by
 induction r with
 |nil=>exact True.intro
 |@cons p q ps qs h t ih=>
  obtain⟨h1,_,h2⟩:=h;by_cases e:p.1=k
  ·have e':q.1=k:=h1.symm.trans e;have b:atKey (q::qs) k=some q.2:=by simp[atKey,A3,e']
   rw[mC e,b];exact h2
  ·have e':¬q.1=k:=λ z=>e (h1.trans z);have b:atKey (q::qs) k=atKey qs k:=by simp[atKey,A3,e']
   rw[mD e,b];exact ih
theorem KT.Bs {H:Hp}{kvs:List (List Key×V)}{xs:List (List Key×Addr×Value)}(r:KT H kvs xs)(k:List Key){y:V}{u:Value}(ry:RelV y u):KT H (kvs.map λ kv=>if kv.1=k then(kv.1,y)else kv) (xs.map (putAt k u)):=by
 induction r with
 |nil=>exact .nil
 |@cons p q ps qs h t ih=>
  rw[C2,C2];refine .cons ?_ ih;obtain⟨h1,h2,h3⟩:=h;unfold putAt;by_cases e:p.1=k
  ·rw[J0 e,J0 (h1.symm.trans e)];exact⟨h1,h2,ry⟩
  ·rw[J7 e,J7 (λ z=>e (h1.trans z))];exact⟨h1,h2,h3⟩
theorem KT.put {H:Hp}{kvs:List (List Key×V)}{xs:List (List Key×Addr×Value)}(r:KT H kvs xs)(k:List Key){b:Addr}{y:V}{u:Value}(hb:H b=some (.tup (k.map kV)))(ry:RelV y u):KT H (putK kvs k y) (storedH xs k b u):=by
 have e:(kvs.any λ kv=>decide (kv.1=k))=(atKey xs k).isSome:=by rw[mE,(r.val k).dJ,y2]
 unfold putK storedH;rw[e];by_cases q:(atKey xs k).isSome=true
 ·rw[J0 q,J0 q];exact r.Bs k ry
 ·rw[J7 q,J7 q];exact Paired.snoc r ⟨rfl,hb,ry⟩
theorem KT.keeps {H H':Hp}{kvs:List (List Key×V)}{xs:List (List Key×Addr×Value)}(r:KT H kvs xs)(ht:∀b ys,H b=some (.tup ys)->H' b=some (.tup ys)):KT H' kvs xs:=
 Paired.qO r λ _ _ z=>⟨z.1,ht _ _ z.2.1,z.2.2⟩
section
variable {P:Program}{w:World}{H:Hp}{h:Heap}{a:Addr}
theorem Jk{u:HO}(ok:dX P w H h)(e:Rd H a u):br P w H h a u:=e.ok ok
theorem qb{kvs:List (Key×V)}(ok:dX P w H h)(e:Rd H a (.dK kvs)):kvs.length<=sizeLine/\(a==sysModules)=false/\∃vs,KV kvs vs/\h.DictOf (cg P w) a vs:=
 show br P w H h a (.dK kvs)from Jk ok e
theorem JE{kvs:List (Key×V)}(ok:dX P w H h)(e:H a=some (.dK kvs)):kvs.length<=sizeLine/\(a==sysModules)=false/\∃vs,KV kvs vs/\h.DictOf (cg P w) a vs:=qb ok (.inl e)
theorem nF{ks:List Key}(ok:dX P w H h)(e:H a=some (.tup (ks.map kV))):(tupleKind (cg P w)).is h ks a:=by obtain⟨_,au,r,o,h1,h2,n,h3⟩:=(show br P w H h a (.tup (ks.map kV))from ok a _ e);exact⟨o,au.toArray,n,h1,h2,h3,by simpa using pT r⟩
theorem tE{kvs:List (List Key×V)}(ok:dX P w H h)(e:Rd H a (.dT kvs)):kvs.length<=sizeLine/\(a==sysModules)=false/\
  ∃xs,KT H kvs xs/\h.DictOfH (tupleKind (cg P w)) a xs:=by
 obtain⟨z,y,xs,r,o,es,ep,h1,h2,h3,h4,h5⟩:=(show br P w H h a (.dT kvs)from Jk ok e);refine⟨z,y,xs,r,o,es,ep,h1,h2,h3,h4,λ x hx=>?_,h5⟩;have all:∀{l:List (List Key×V)} {m:List (List Key×Addr×Value)},KT H l m->∀x∈m,(tupleKind (cg P w)).is h x.1 x.2.1:=by
  intro l m q
  induction q with
  |nil=>intro x hx;exact nomatch hx
  |@cons p q ps qs hq t ih=>
   intro x hx;rcases C3.mp hx with e|hx
   ·subst e;exact nF ok (by rw[<- hq.1];exact hq.2.1)
   ·exact ih x hx
 exact all r x hx
theorem Q0{kvs:List (List Key×V)}(ok:dX P w H h)(e:H a=some (.dT kvs)):kvs.length<=sizeLine/\(a==sysModules)=false/\
  ∃xs,KT H kvs xs/\h.DictOfH (tupleKind (cg P w)) a xs:=tE ok (.inl e)
end
def oW(H:Hp)(a:Addr)(y:V)(r:Option V):Prop:=
 (∃kvs k,Rd H a (.dK kvs)/\y=kV k/\r=iG kvs k)\/∃kvs k b,Rd H a (.dT kvs)/\y=.ref b/\H b=some (.tup (k.map kV))/\r=iG kvs k
def Er(H:Hp)(a:Addr)(y v:V)(H':Hp):Prop:=
 (∃kvs k,H a=some (.dK kvs)/\y=kV k/\kvs.length < sizeLine/\H'=upd H a (.dK (putK kvs k v)))\/
 ∃kvs k b,H a=some (.dT kvs)/\y=.ref b/\H b=some (.tup (k.map kV))/\kvs.length < sizeLine/\H'=upd H a (.dT (putK kvs k v))
theorem oW.k {H:Hp}{a:Addr}{kvs:List (Key×V)}{k:Key}(e:H a=some (.dK kvs)):oW H a (kV k) (iG kvs k):=.inl ⟨kvs,k,.inl e,rfl,rfl⟩
theorem Er.k {H:Hp}{a:Addr}{kvs:List (Key×V)}{k:Key}{v:V}(e:H a=some (.dK kvs))(hl:kvs.length < sizeLine):Er H a (kV k) v (upd H a (.dK (putK kvs k v))):=.inl ⟨kvs,k,e,rfl,hl,rfl⟩
section
variable {X:Cx}{pins:List (Addr×Obj)}{σ:St}{H:Hp}{s:Shared}{a:Addr}{y v:V}{u r:Value}{o:Option V}{A:Around}{E:Value->Shared->Prop}
theorem Inv.big (I:Inv X pins σ H s):sysModules < s.heap.objs.size:=by have h:mainGlobals < s.heap.objs.size:=(I.mod.glob.keeps I.bk).lt;exact Nat.lt_trans (by decide) h
theorem zD{Q:Value->Shared->Prop}(hu:A.units+1 < cLine)(I:Inv X pins σ H s)(g:oW H a y (some v))(ry:RelV y u)(h:∀w' s',Inv X pins σ H s'->RelV v w'->Q w' s'):wpAny (model X.prog X.w) A (getItem (.ref a) u) Q E s:=by
 rcases g with⟨kvs,k,e,ey,l⟩|⟨kvs,k,b,e,ey,eb,l⟩
 ·subst ey;obtain⟨z,hd,vs,rel,dd⟩:=qb I.aK e;obtain⟨w',hw,kZ⟩:=gR.some_of (v:=v) (o:=valueAt vs k) (by rw[l];exact rel.val k);exact wpAny_getItem_of (pS ry) dd.mapOf hw (h w' _ (I.tok _) kZ)
 ·subst ey;cases(show u=Value.ref b from ry);obtain⟨z,hd,xs,rel,dd⟩:=tE I.aK e;obtain⟨w',hw,kZ⟩:=gR.some_of (v:=v) (o:=(atKey xs k).map (·.2)) (by rw[l];exact rel.val k);obtain⟨p,hp,iJ⟩:=Option.map_eq_some_iff.mp hw;refine wpAny_getItem_heap (w5 hu) (nF I.aK eb) dd hp ?_;rw[iJ];exact h w' _ (I.tok _) kZ
theorem U5{Q:Value->Shared->Prop}(hu:A.units+1 < cLine)(I:Inv X pins σ H s)(g:oW H a y o)(ry:RelV y u)(h:∀s',Inv X pins σ H s'->Q (.bool o.isSome) s'):wpAny (model X.prog X.w) A (compareOp .In u (.ref a)) Q E s:=by
 rcases g with⟨kvs,k,e,ey,l⟩|⟨kvs,k,b,e,ey,eb,l⟩
 ·subst ey;obtain⟨z,hd,vs,rel,dd⟩:=qb I.aK e;refine wpAny_in_of (pS ry) hd dd.mapOf ?_;rw[<- (rel.val k).dJ,<- l];exact h _ (I.tok _)
 ·subst ey;cases(show u=Value.ref b from ry);obtain⟨z,hd,xs,rel,dd⟩:=tE I.aK e;refine wpAny_in_heap (w5 hu) (nF I.aK eb) hd dd ?_;have q:=(rel.val k).dJ;rw[y2]at q;rw[<- q,<- l];exact h _ (I.tok _)
theorem Iv{Q:Value->Shared->Prop}(hu:A.units+1 < cLine)(I:Inv X pins σ H s)(g:oW H a y o)(ry:RelV y u)(h:∀s',Inv X pins σ H s'->Q (.bool (!o.isSome)) s'):wpAny (model X.prog X.w) A (compareOp .NotIn u (.ref a)) Q E s:=by
 rcases g with⟨kvs,k,e,ey,l⟩|⟨kvs,k,b,e,ey,eb,l⟩
 ·subst ey;obtain⟨z,hd,vs,rel,dd⟩:=qb I.aK e;refine wpAny_notIn_of (pS ry) hd dd.mapOf ?_;rw[<- (rel.val k).dJ,<- l];exact h _ (I.tok _)
 ·subst ey;cases(show u=Value.ref b from ry);obtain⟨z,hd,xs,rel,dd⟩:=tE I.aK e;refine wpAny_notIn_heap (w5 hu) (nF I.aK eb) hd dd ?_;have q:=(rel.val k).dJ;rw[y2]at q;rw[<- q,<- l];exact h _ (I.tok _)
theorem jE{h':Heap}{t':Nat}{ob:HO}(I:Inv X pins σ H s)(mu:Ry (H a))(hs:Heap.SameBut a s.heap h')(he:∃q,h'.get? a=some q)(new:br X.prog X.w (upd H a ob) h' a ob):Inv X pins σ (upd H a ob) {s with heap:=h',toks:=t'}:=
 I.write (x:=a) (e:=a) mu (.inl rfl) (λ b q hb z=>(hs.2 b hb).trans z) he new
theorem DS{P:Program}{w:World}{H':Hp}{h':Heap}{kvs:List (Key×V)}{vs:List (Key×Value)}(z:kvs.length<=sizeLine)(hd:(a==sysModules)=false)(rel:KV kvs vs)(dd:h'.DictOf (cg P w) a vs):br P w H' h' a (.dK kvs):=⟨z,hd,vs,rel,dd⟩
theorem zB{H':Hp}{Q:Unit->Shared->Prop}(hu:A.units+1 < cLine)(I:Inv X pins σ H s)(g:Er H a y v H')(ry:RelV y u)(rv:RelV v r)(h:∀s',Inv X pins σ H' s'->Q () s'):wpAny (model X.prog X.w) A (setItem (.ref a) u r) Q E s:=by
 rcases g with⟨kvs,k,e,ey,l,eH⟩|⟨kvs,k,b,e,ey,eb,l,eH⟩
 ·subst ey eH;obtain⟨z,hd,vs,rel,dd⟩:=JE I.aK e;have hz:vs.length<=sizeLine:=by rw[<- rel.length];exact z
  have hl:(putK kvs k v).length<=sizeLine:=by have:=gF kvs k v;omega
  refine wpAny_setItem_pairs (hsz:=hz) (pS ry) dd λ h' Ag hs=>h _ ?_;have he:∃q,h'.get? a=some q:=let⟨q,_,_,hq,_⟩:=Ag;⟨q,hq⟩
  exact jE I (by rw[e];exact True.intro) hs he (DS hl hd (rel.put k rv) Ag)
 ·subst ey eH;cases(show u=Value.ref b from ry);obtain⟨z,hd,xs,rel,dd⟩:=Q0 I.aK e;have hz:xs.length<=sizeLine:=by rw[<- C0 rel];exact z
  have hl:(putK kvs k v).length<=sizeLine:=by have:=gF kvs k v;omega
  refine wpAny_setItem_heap (hsz:=hz) (w5 hu) (nF I.aK eb) dd λ h' Ag hs=>h _ ?_;obtain⟨q,es,ep,hq,h2,h3,h4,_,h5⟩:=Ag;refine jE I (by rw[e];exact True.intro) hs ⟨q,hq⟩ ⟨hl,hd,_,(rel.put k eb rv).keeps λ c ys ec=>?_,q,es,ep,hq,h2,h3,h4,h5⟩;rw[ar (aZ ec e (λ z=>nomatch z))];exact ec
end
section
variable {X:Cx}{pins:List (Addr×Obj)}{σ:St}{H:Hp}{s:Shared}{a:Addr}{kvs:List (Key×V)}{k:Key}{u:Value}{A:Around}{E:Value->Shared->Prop}
theorem Q5{Q:Value->Shared->Prop}(I:Inv X pins σ H s)(e:Rd H a (.dK kvs))(h:∀t s',Inv X pins σ H s'->Q (.int kvs.length t) s'):wpAny (model X.prog X.w) A (call (.builtin "len") [.ref a]) Q E s:=by obtain⟨z,hd,vs,rel,dd⟩:=qb I.aK e;refine call_len_dict hd dd (by rw[<- rel.length];rw[D9]at z;omega) ?_;rw[<- rel.length];exact h _ _ (I.tok _)
end
theorem tG{X:Cx}{pins:List (Addr×Obj)}{σ:St}{H:Hp}{s:Shared}{a:Addr}{y:V}{o:Option V}(I:Inv X pins σ H s)(g:oW H a y o):s.TypeIs (.ref a) "dict":=by
 rcases g with⟨kvs,k,e,_,_⟩|⟨kvs,k,b,e,_,_,_⟩
 ·obtain⟨_,_,vs,_,dd⟩:=qb I.aK e;exact dd.typeIs
 ·obtain⟨_,_,xs,_,dd⟩:=tE I.aK e;exact dd.typeIs
theorem DT{P:Program}{w:World}{H:Hp}(h:Heap)(hb:sysModules < h.objs.size):br P w H (h.push {cls:=.type "dict",data:=.dict #[]}) h.objs.size (.dK []):=
 ⟨F0 _,beq_eq_false_iff_ne.mpr (H9 (C7 hb)),[],.nil,Heap.DictOf.new h⟩
end L2
namespace L2
open PySem PySem.Spec PyProof.Rows
mutual
def gG(K:J8)(H:Hp):IK->V->Prop
 | .i n,v=>v=.int n\/∃b:Bool,v=.bl b/\n=b2i b
 | .t ks,v=>∃p xs,v=.ref p/\gb K H p xs/\kQ K H ks xs
def kQ(K:J8)(H:Hp):List IK->List V->Prop
 |[],xs=>xs=[]
 |k::ks,xs=>∃x r,xs=x::r/\gG K H k x/\kQ K H ks r
end
section
variable {X:Cx}{pins:List (Addr×Obj)}{σ:St}{H:Hp}{s:Shared}
mutual
theorem nA(I:Inv X pins σ H s):∀(k:IK) {v:V} {u:Value},gG X.K H k v->RelV v u->cJ s.heap k u
 | .i n,v,u,h,r=>by
  unfold gG at h;unfold cJ;rcases h with rfl|⟨b,rfl,rfl⟩
  ·exact .inl r
  ·exact .inr ⟨b,r,rfl⟩
 | .t ks,v,u,h,r=>by unfold gG at h;obtain⟨p,xs,rfl,hq,hk⟩:=h;cases(show u=Value.ref p from r);obtain⟨au,rv,⟨o,ho,hc,n,hd⟩,_⟩:=I.tuple hq;unfold cJ;exact⟨p,o,au,n,rfl,ho,hc,hd,xq I ks hk rv⟩
theorem xq(I:Inv X pins σ H s):∀(ks:List IK) {xs:List V} {us:List Value},kQ X.K H ks xs->Vals xs us->bP s.heap ks us
 |[],xs,us,h,r=>by unfold kQ at h;subst h;cases r;unfold bP;rfl
 |k::ks,xs,us,h,r=>by
  unfold kQ at h;obtain⟨x,N8,rfl,h1,h2⟩:=h;cases r with
  |cons r1 r2=>unfold bP;exact⟨_,_,rfl,nA I k h1 r1,xq I ks h2 r2⟩
end
end
abbrev eh:=IK×Addr×V
def UZ(x:IK×Addr×Value):DictEntry:=⟨Dk x.1,.ref x.2.1,x.2.2⟩
abbrev Am:List eh->List (IK×Addr×Value)->Prop:=Paired λ p q=>p.1=q.1/\p.2.1=q.2.1/\RelV p.2.2 q.2.2
def U4(a:Addr)(kvs:List eh)(h:Heap):Prop:=kvs.length<=sizeLine/\(a==sysModules)=false/\∃xs,Am kvs xs/\∃o es ep,h.get? a=some o/\o.ExactDict/\o.data=.dict es ep/\es.toList=xs.map UZ/\(xs.map (·.1)).Nodup
def rN(a:Addr)(kvs:List eh):HO:=.ext (U4 a kvs)
theorem vC{P:Program}{w:World}{H:Hp}{h:Heap}{a:Addr}{kvs:List eh}(x:U4 a kvs h):br P w H h a (rN a kvs):=by obtain⟨z,y,xs,r,o,es,ep,e,c⟩:=id x;exact⟨x,⟨o,e⟩,λ h1 h2 ⟨z,y,xs,r,o,es,ep,e,c⟩ q=>⟨z,y,xs,r,o,es,ep,q o e,c⟩⟩
noncomputable def iX (kvs:List eh)(k:IK):Option V:=(kvs.find? λ p=>decide (p.1=k)).map (·.2.2)
noncomputable def jg (kvs:List eh)(k:IK)(p:Addr)(v:V):List eh:=if(iX kvs k).isSome=true then kvs.map (λ x=>if x.1=k then(x.1,x.2.1,v)else x)else kvs++[(k,p,v)]
theorem sL(kvs:List eh)(k:IK)(p:Addr)(v:V):(jg kvs k p v).length<=kvs.length+1:=by
 unfold jg;split
 ·simp
 ·simp
theorem Am.val {kvs:List eh}{xs:List (IK×Addr×Value)}(r:Am kvs xs)(k:IK):gR (iX kvs k) ((atKey xs k).map (·.2)):=by
 induction r with
 |nil=>exact True.intro
 |@cons p q ps qs h t ih=>
  obtain⟨h1,_,h2⟩:=h;unfold iX atKey at ih ⊢;by_cases e:p.1=k
  ·have e':q.1=k:=h1.symm.trans e;simp only[A3,B5 e,B5 e',Option.map_some];exact h2
  ·have e':¬q.1=k:=λ z=>e (h1.trans z);simp only[A3,A4 e,A4 e'];exact ih
theorem Am.Bs {kvs:List eh}{xs:List (IK×Addr×Value)}(r:Am kvs xs)(k:IK){y:V}{u:Value}(ry:RelV y u):Am (kvs.map λ x=>if x.1=k then(x.1,x.2.1,y)else x) (xs.map (putAt k u)):=by
 induction r with
 |nil=>exact .nil
 |@cons p q ps qs h t ih=>
  rw[C2,C2];refine .cons ?_ ih;obtain⟨h1,h2,h3⟩:=h;unfold putAt;by_cases e:p.1=k
  ·rw[J0 e,J0 (h1.symm.trans e)];exact⟨h1,h2,ry⟩
  ·rw[J7 e,J7 (λ z=>e (h1.trans z))];exact⟨h1,h2,h3⟩
theorem qS{o:Option V}{u:Option Value}(r:gR o u):o.isSome=u.isSome:=r.dJ
theorem Am.put {kvs:List eh}{xs:List (IK×Addr×Value)}(r:Am kvs xs)(k:IK){b:Addr}{y:V}{u:Value}(ry:RelV y u):Am (jg kvs k b y) (storedH xs k b u):=by
 have e:(iX kvs k).isSome=(atKey xs k).isSome:=by rw[qS (r.val k),y2]
 unfold jg storedH;rw[e];by_cases q:(atKey xs k).isSome=true
 ·rw[J0 q,J0 q];exact r.Bs k ry
 ·rw[J7 q,J7 q];exact Paired.snoc r ⟨rfl,rfl,ry⟩
structure oj(K:J8)(H:Hp)(a:Addr)(kvs:List eh):Prop where
 at_:H a=some (rN a kvs)
 key:∀p∈kvs,p.1.dep<=5/\gG K H p.1 (.ref p.2.1)
section
variable {X:Cx}{pins:List (Addr×Obj)}{σ:St}{H:Hp}{s:Shared}{a b:Addr}{kvs:List eh}{k:IK}{A:Around}{E:Value->Shared->Prop}{v:V}{u r:Value}
theorem oj.of (I:Inv X pins σ H s)(d:oj X.K H a kvs):kvs.length<=sizeLine/\(a==sysModules)=false/\∃xs,Am kvs xs/\s.heap.DictOfH (iY X.prog X.w) a xs:=by
 obtain⟨⟨z,y,xs,rel,o,es,ep,h1,h2,h3,h4,h5⟩,_,_⟩:=(show br X.prog X.w H s.heap a (rN a kvs)from I.aK a _ d.at_);refine⟨z,y,xs,rel,o,es,ep,h1,h2,h3,h4,?_,h5⟩;have all:∀{l:List eh} {m:List (IK×Addr×Value)},Am l m->(∀p∈l,p.1.dep<=5/\gG X.K H p.1 (.ref p.2.1))->∀x∈m,(iY X.prog X.w).is s.heap x.1 x.2.1:=by
  intro l m q
  induction q with
  |nil=>intro _ x hx;cases hx
  |@cons p q ps qs hq t ih=>
   intro hl x hx;rcases C3.mp hx with rfl|hx
   ·obtain⟨c1,c2⟩:=hl p (q9 ..);rw[hq.1,hq.2.1]at c2;rw[hq.1]at c1;exact⟨c1,nA I _ c2 rfl⟩
   ·exact ih (λ p hp=>hl p (m7 _ hp)) x hx
 exact all rel d.key
theorem jb(hu:A.units+64 < cLine):(iY X.prog X.w).room A.in1:=(show A.units+1+8 < cLine by omega)
theorem yA{Q:Value->Shared->Prop}(hu:A.units+64 < cLine)(I:Inv X pins σ H s)(d:oj X.K H a kvs)(hk:k.dep<=5)(ue:gG X.K H k (.ref b))(g:iX kvs k=some v)(h:∀w' s',Inv X pins σ H s'->RelV v w'->Q w' s'):wpAny (model X.prog X.w) A (getItem (.ref a) (.ref b)) Q E s:=by obtain⟨z,hd,xs,rel,dd⟩:=d.of I;obtain⟨w',hw,kZ⟩:=gR.some_of (v:=v) (o:=(atKey xs k).map (·.2)) (by rw[<- g];exact rel.val k);obtain⟨p,hp,iJ⟩:=Option.map_eq_some_iff.mp hw;refine wpAny_getItem_heap (jb hu) ⟨hk,nA I k ue rfl⟩ dd hp ?_;rw[iJ];exact h w' _ (I.tok _) kZ
theorem SS{Q:Value->Shared->Prop}(hu:A.units+64 < cLine)(I:Inv X pins σ H s)(d:oj X.K H a kvs)(hk:k.dep<=5)(ue:gG X.K H k (.ref b))(h:∀s',Inv X pins σ H s'->Q (.bool (iX kvs k).isSome) s'):wpAny (model X.prog X.w) A (compareOp .In (.ref b) (.ref a)) Q E s:=by obtain⟨z,hd,xs,rel,dd⟩:=d.of I;refine wpAny_in_heap (jb hu) ⟨hk,nA I k ue rfl⟩ hd dd ?_;have q:=qS (rel.val k);rw[y2]at q;rw[<- q];exact h _ (I.tok _)
theorem Fp{Q:Value->Shared->Prop}(hu:A.units+64 < cLine)(I:Inv X pins σ H s)(d:oj X.K H a kvs)(hk:k.dep<=5)(ue:gG X.K H k (.ref b))(h:∀s',Inv X pins σ H s'->Q (.bool (!(iX kvs k).isSome)) s'):wpAny (model X.prog X.w) A (compareOp .NotIn (.ref b) (.ref a)) Q E s:=by obtain⟨z,hd,xs,rel,dd⟩:=d.of I;refine wpAny_notIn_heap (jb hu) ⟨hk,nA I k ue rfl⟩ hd dd ?_;have q:=qS (rel.val k);rw[y2]at q;rw[<- q];exact h _ (I.tok _)
theorem yz{Q:Unit->Shared->Prop}(hu:A.units+64 < cLine)(I:Inv X pins σ H s)(d:oj X.K H a kvs)(hk:k.dep<=5)(ue:gG X.K H k (.ref b))(hl:kvs.length < sizeLine)(rv:RelV v r)(h:∀s',Inv X pins σ (upd H a (rN a (jg kvs k b v))) s'->Q () s'):wpAny (model X.prog X.w) A (setItem (.ref a) (.ref b) r) Q E s:=by
 obtain⟨z,hd,xs,rel,dd⟩:=d.of I;have hz:xs.length<=sizeLine:=by rw[<- C0 rel];exact z
 have Dr:(jg kvs k b v).length<=sizeLine:=by have:=sL kvs k b v;omega
 refine wpAny_setItem_heap (hsz:=hz) (jb hu) ⟨hk,nA I k ue rfl⟩ dd λ h' Ag hs=>h _ ?_;obtain⟨q,es,ep,hq,h2,h3,h4,_,h5⟩:=Ag;exact jE I (by rw[d.at_];exact True.intro) hs ⟨q,hq⟩ (vC ⟨Dr,hd,_,rel.put k rv,q,es,ep,hq,h2,h3,h4,h5⟩)
end
section
variable {X:Cx}{pos:Pos}
theorem Io(h:Heap)(hb:sysModules < h.objs.size):U4 h.objs.size [] (h.push {cls:=.type "dict",data:=.dict #[]}):=
 ⟨F0 _,beq_eq_false_iff_ne.mpr (H9 (C7 hb)),[],.nil,_,#[],0,o8 _ rfl,⟨rfl,rfl,rfl⟩,rfl,rfl,nodup_nil⟩
end
section
variable {prog:Program}{w:World}
theorem K5{d:Addr}(hd:(d==sysModules)=false):MeetsIn prog w (Builtin.«dict.__len__» ⟨[.ref d],[]⟩) (λ _ R s=>∃o es ep,s.heap.get? d=some o/\o.data=.dict es ep/\R (.ok (.ret (.int es.size s.toks))) {s with toks:=s.toks+1}):=
 .of_wp λ A R s ⟨o,es,ep,ho,MM,h⟩=>by show wpAny _ _ (dictSize d >>= _) _ _ s;unfold dictSize;refine G1 (G1 (wpAny_dictEntries ho MM (G2 ?_)));show wpAny _ _ (Builtin.Dict.pendingCount d >>= _) _ _ s;refine G1 (wpAny_pendingCount_other hd (wpAny_ret_mkInt ?_));rw[Nat.add_zero];exact h
theorem tO{A:Around}{E:Value->Shared->Prop}{s:Shared}{d:Addr}{o:Obj}{es:Array DictEntry}{ep:Nat}{Q:Value->Shared->Prop}(hd:(d==sysModules)=false)(ho:s.heap.get? d=some o)(hc:o.cls=.type "dict")(MM:o.data=.dict es ep)(hz:es.size<=sizeLine) (h:∀t n,Q (.int es.size t) {s with toks:=n}):wpAny (model prog w) A (call (.builtin "len") [.ref d]) Q E s:=by
 have hT:s.TypeIs (.ref d) "dict":=⟨o,ho,hc⟩;have VU:sizeLine=16777216:=by decide
 have QF:((es.size:Nat):Int) < 2^63:=by omega
 refine Calls.call_function_entry kind_len plain_len entry_len (args_len1 _) ?_;unfold Builtin.«len»;refine G1 (m:=oneArg "len" _) (G2 ?_);refine G1 (m:=callSpecial? (.ref d) (Str.ofString "__len__")) (j4 (name:=Str.ofString "__len__") hT F.slot_dict_len (call_meetsIn F.slot_dict_len hT F.entry_dict_len (F.args_dict_len_1 _) (K5 hd) ⟨o,es,ep,ho,MM,?_⟩));show wpAny _ _ _ _ _ {s with toks:=s.toks+1};refine G1 (B8 (G2 (G1 (wpAny_letGo ?_))));show wpAny _ _ (if((es.size:Nat):Int) < 0 then _ else _) _ _ _;rw[J7 (by omega)];show wpAny _ _ (if((es.size:Nat):Int) ≥ 2^63 then _ else _) _ _ _;rw[J7 (by omega)];exact G1 (wpAny_mkInt (G2 ⟨_,rfl,h _ _⟩))
end
section
variable {X:Cx}{pins:List (Addr×Obj)}{σ:St}{H:Hp}{s:Shared}{a:Addr}{kvs:List eh}{A:Around}{E:Value->Shared->Prop}
theorem Oc{Q:Value->Shared->Prop}(I:Inv X pins σ H s)(e:H a=some (rN a kvs))(h:∀t s',Inv X pins σ H s'->Q (.int kvs.length t) s'):wpAny (model X.prog X.w) A (call (.builtin "len") [.ref a]) Q E s:=by
 obtain⟨⟨z,y,xs,rel,o,es,ep,h1,h2,h3,h4,h5⟩,_,_⟩:=(show br X.prog X.w H s.heap a (rN a kvs)from I.aK a _ e);have e1:es.size=kvs.length:=by rw[<- o7,h4,A8];exact(C0 rel).symm
 refine tO y h1 h2.1 h3 (by rw[e1];exact z) λ t n=>?_;rw[e1];exact h t _ (I.tok _)
end
end L2
namespace L2
open PySem PySem.Spec PyProof.Rows
structure iA where
 name:Str
 qual:Str
 params:Arguments
 body:FuncBody
 scope:Scope
 pm:Value
abbrev HM(L:iA)(cl:List (Str×Addr))(c:Addr)(doc fJ:Value):FuncData:={name:=L.name,qualname:=L.qual,params:=L.params,body:=L.body,scope:=L.scope,globals:=mainGlobals,closure:=cl,defaults:=.none,kwdefaults:=.none,doc:=doc,pyModule:=L.pm,annotations:=none,code:=.ref c,closureTuple:=fJ,builtins:=builtinsNs}
abbrev kb(L:iA)(cl:List (Str×Addr))(c:Addr)(doc fJ:Value):Obj:={cls:=.type "function",data:=.func (HM L cl c doc fJ)}
abbrev ka(f:Addr)(L:iA)(c:Addr)(cl:List (Str×Addr)):Heap->Prop:=λ h=>∃doc fJ,h.get? f=some (kb L cl c doc fJ)
abbrev rh(c:Addr)(q:Str):Heap->Prop:=λ h=>h.CodeRec (.ref c) q
abbrev Ed(c:Addr)(v:V):Heap->Prop:=λ h=>∃u,RelV v u/\h.IsCell c (some u)
abbrev fO(o:Obj)(c:Addr)(v:V):HO:=.ck o (.ck o (.ext (Ed c v)))
theorem xp{h:Heap}{f c:Addr}{L:iA}{cl:List (Str×Addr)}{doc fJ:Value}(e:h.get? f=some (kb L cl c doc fJ)):∃o,∀{P:Program} {w:World} {H:Hp},br P w H h f (.ck o (.ext (ka f L c cl))):=
 ⟨_,λ{_ _ _}=>⟨e,⟨doc,fJ,e⟩,⟨_,e⟩,λ h1 h2 ⟨d,t,q⟩ k=>⟨d,t,k _ q⟩⟩⟩
theorem IB{h:Heap}{c:Addr}{q:Str}(x:h.CodeRec (.ref c) q):∃o,∀{P:Program} {w:World} {H:Hp},br P w H h c (.ck o (.ext (rh c q))):=by obtain⟨c',o,vs,t,e,h1,h2,h3⟩:=id x;cases e;exact⟨o,λ{_ _ _}=>⟨h1,x,⟨o,h1⟩,λ a b ⟨c',o,vs,t,e,h1,h2,h3⟩ k=>by cases e;exact⟨_,o,vs,t,rfl,k _ h1,h2,h3⟩⟩⟩
theorem IE{h:Heap}{c:Addr}{v:V}{u:Value}(r:RelV v u)(x:h.IsCell c (some u)):∃o,h.get? c=some o/\∀{P:Program} {w:World} {H:Hp},br P w H h c (fO o c v):=by obtain⟨o,h1,h2⟩:=id x;exact⟨o,h1,λ{_ _ _}=>⟨h1,h1,⟨u,r,x⟩,⟨o,h1⟩,λ a b ⟨u,r,o,h1,h2⟩ k=>⟨u,r,o,k _ h1,h2⟩⟩⟩
def mH(cs:List (Pos×Addr)):List Value:=cs.flatMap λ p=>[rawInt p.1.line,rawInt p.1.col,.ref p.2]
theorem qq:∀cs,TriplesOk (mH cs)
 |[]=>trivial
 |p::cs=>qq cs
theorem pj{pos:Pos}{u:Value}:∀{cs:List (Pos×Addr)},codeAmong pos (mH cs)=some u->∃p∈cs,u=.ref p.2
 |[],e=>by cases e
 |p::cs,e=>by
  have e:(if(((p.1.line:Int)==pos.line)&&((p.1.col:Int)==pos.col))=true then some (Value.ref p.2)else codeAmong pos (mH cs))=some u:=e;split at e
  ·exact⟨p,.head _,(A6 e).symm⟩
  ·obtain⟨q,h,r⟩:=pj e;exact⟨q,.tail _ h,r⟩
structure EL(mg:Str->Option Value)(base:Heap)(c P:Addr):Prop where
 bm:∃bm ob,mg "__builtins__"=some (.ref bm)/\bm≠builtinsNs/\base.get? bm=some ob/\ob.cls=.type "module"/\ob.dict=some builtinsNs/\ob.data=.plain
 cd:PySem.W.CodeHd base c P
def JL(H:Hp)(P:Addr)(q:Str):Prop:=∃cs:List (Pos×Addr),H P=some (.lM (mH cs).toArray)/\∀p∈cs,∃o,H p.2=some (.ck o (.ext (rh p.2 q)))
section
variable {X:Cx}{pins:List (Addr×Obj)}{σ:St}{H:Hp}{s:Shared}
theorem JL.grow {H H':Hp}{P:Addr}{q:Str}(t:JL H P q)(k:∀b o u,H b=some (.ck o u)->H' b=some (.ck o u))(e:H' P=H P):JL H' P q:=by obtain⟨cs,h1,h2⟩:=t;exact⟨cs,e.trans h1,λ p hp=>let⟨o,z⟩:=h2 p hp;⟨o,k _ _ _ z⟩⟩
def Ka(P:Addr)(L:iA)(cells:List (Str×Addr)):TE:=λ σ H Q=>JL H P L.qual/\∀(f c:Addr) (H':Hp),H f=none->(∀x d,cells.lookup x=some d->d≠f)->(∀b u,b≠P->H b=some u->H' b=some u)->JL H' P L.qual->(∃o,H' c=some (.ck o (.ext (rh c L.qual))))->(∃o,H' f=some (.ck o (.ext (ka f L c (bc cells L.scope.names [])))))->Q (.ref f) H'
theorem pz(cs:List (Pos×Addr))(pos:Pos)(c:Addr):(mH cs).toArray++#[rawInt pos.line,rawInt pos.col,.ref c]=(mH (cs++[(pos,c)])).toArray:=by simp[mH]
theorem Xu{M:Model}{A:Around}{E:Value->Shared->Prop}{s:Shared}{L:iA}{env:Env}{c P:Addr}{ps:Array Value}{pos:Pos}{n:Nat}{mg:Str->Option Value}{Ea:List (Str×Addr)}{Q:Value->Shared->Prop} (jL:closureFor L.scope env=pure Ea) (Du:env.globals=mainGlobals) (hg:s.heap.Ns mainGlobals mg) (eD:env.code=.ref c) (C:PySem.W.CodeHd s.heap c P) (hP:s.heap.get? P=some (PySem.W.tabObj ps)) (ht:TriplesOk ps.toList) (V2:codeAmong pos ps.toList=none) (Sf:mainGlobals≠P) (hb:s.heap.BuiltinsAt mg P) (Ad:L.pm=(mg "__name__").getD .none) (h:∀c' doc fJ h' tk,Heap.ExtBut P s.heap h'->s.heap.objs.size<=c'->c' < h'.objs.size->h'.CodeRec (.ref c') L.qual->h'.get? P=some (PySem.W.tabObj (ps++#[rawInt pos.line,rawInt pos.col,.ref c']))->
   Q (.ref h'.objs.size) {s with heap:=h'.push (kb L Ea c' doc fJ),toks:=tk}):
  wpAny M A (makeFunction L.name L.qual L.params L.body L.scope env [] [] [] pos n) Q E s:=by
 obtain⟨nm,q,pr,b,sc,pm⟩:=L;cases(show pm=_ from Ad);cases b with
 |expr e=>exact PySem.W.kla_makeFunction jL Du hg eD C hP ht V2 Sf hb λ c' fJ h' tk=>h c' .none fJ h' tk
 |stmts b=>exact PySem.W.makeFunction_K jL Du hg eD C hP ht V2 Sf hb λ c' fJ doc h' tk=>h c' doc fJ h' tk
theorem PL{M:Model}{A:Around}{E:Value->Shared->Prop}{s:Shared}{L:iA}{env:Env}{c P c':Addr}{ps:Array Value}{pos:Pos}{n:Nat}{mg:Str->Option Value}{Ea:List (Str×Addr)}{Q:Value->Shared->Prop} (jL:closureFor L.scope env=pure Ea) (Du:env.globals=mainGlobals) (hg:s.heap.Ns mainGlobals mg) (eD:env.code=.ref c) (C:PySem.W.CodeHd s.heap c P) (hP:s.heap.get? P=some (PySem.W.tabObj ps)) (ht:TriplesOk ps.toList) (hf:codeAmong pos ps.toList=some (.ref c')) (hb:s.heap.BuiltinsAt mg P) (Ad:L.pm=(mg "__name__").getD .none) (h:∀(doc fJ:Value) (h':Heap) (tk:Tok),(∀b o,s.heap.get? b=some o->h'.get? b=some o)->s.heap.objs.size<=h'.objs.size->Q (.ref h'.objs.size) {s with heap:=h'.push (kb L Ea c' doc fJ),toks:=tk}):wpAny M A (makeFunction L.name L.qual L.params L.body L.scope env [] [] [] pos n) Q E s:=by
 obtain⟨nm,q,pr,b,sc,pm⟩:=L;cases(show pm=_ from Ad);cases b with
 |expr e=>exact PySem.W.kla_makeFunctionHit jL Du hg eD C hP ht hf hb λ fJ h' tk=>h .none fJ h' tk
 |stmts b=>exact PySem.W.makeFunction_hit jL Du hg eD C hP ht hf hb λ fJ doc h' tk=>h doc fJ h' tk
theorem O5{L:iA}{c P:Addr}{pos:Pos}{n:Nat}(eD:X.env.code=.ref c)(B:EL X.mg X.base c P)(Ad:L.pm=(X.mg "__name__").getD .none) (ou:∀n,(n,NameKind.free)∈L.scope.names->X.env.kindOf n=some .cell\/X.env.kindOf n=some .free) {Q:VK} (I:Inv X pins σ H s) (h:Ka P L X.env.cells σ H Q):wpAny (model X.prog X.w) X.A (makeFunction L.name L.qual L.params L.body L.scope X.env [] [] [] pos n) (λ u s'=>∃v H',Inv X pins σ H' s'/\RelV v u/\Q v H') X.xe s:=by
 obtain⟨⟨cs,hP,Dx⟩,k⟩:=h;have jL:closureFor L.scope X.env=pure (bc X.env.cells L.scope.names []):=cV λ n hn=>I.ok.has n (ou n hn);have oP:s.heap.get? P=some (PySem.W.tabObj (mH cs).toArray):=I.aK P _ hP;have hg:s.heap.Ns mainGlobals X.mg:=I.mod.glob.keeps I.bk;have C:=B.cd.keeps I.bk;obtain⟨bm,ob,b1,b2,b3,b4,b5,b6⟩:=B.bm;have Sf:mainGlobals≠P:=λ q=>by obtain⟨o,es,ep,e,hd,_⟩:=id hg;rw[q,oP]at e;cases e;cases hd
 have YE:bm≠P:=λ q=>by have e:=I.bk _ _ b3;rw[q,oP]at e;cases e;cases b4
 have YF:bm≠mainGlobals:=λ q=>by obtain⟨o,es,ep,e,hd,_⟩:=id hg;have e2:=I.bk _ _ b3;rw[q,e]at e2;cases e2;rw[hd]at b6;cases b6
 have hb:s.heap.BuiltinsAt X.mg P:=⟨bm,ob,b1,b2,YF,YE,I.bk _ _ b3,b4,b5,b6⟩;have Wj:∀{f:Addr},s.heap.objs.size<=f->∀x d,X.env.cells.lookup x=some d->d≠f:=λ hf x d e z=>by obtain⟨v,o,ho,_⟩:=I.cell x d e;exact absurd (C8 ho) (by rw[z];exact Nat.not_lt.mpr hf)
 cases hc:codeAmong pos (mH cs).toArray.toList with
 |none=>
  refine Xu jL I.ok.glob hg eD C oP (by simpa using qq cs) hc Sf hb Ad λ c' doc fJ h' tk hx NX ig Up Qa=>?_;have hf:h'.objs.size=h'.objs.size:=rfl;generalize hF:h'.objs.size=f at*;have Ul:s.heap.objs.size<=f:=D3 NX (D7 ig);have nc:H c'=none:=I.aK.fresh NX;have nf:H f=none:=I.aK.fresh Ul;have cf:c'≠f:=C7 ig;have cP:c'≠P:=λ z=>by rw[z,hP]at nc;cases nc
  have fP:f≠P:=λ z=>by rw[z,hP]at nf;cases nf
  have up:∀b o,h'.get? b=some o->(h'.push (kb L (bc X.env.cells L.scope.names []) c' doc fJ)).get? b=some o:=λ b o e=>j8 _ e;have hl:(h'.push (kb L (bc X.env.cells L.scope.names []) c' doc fJ)).get? f=some (kb L (bc X.env.cells L.scope.names []) c' doc fJ):=by rw[<- hF];exact o8 _ rfl
  have Qb:(h'.push (kb L (bc X.env.cells L.scope.names []) c' doc fJ)).CodeRec (.ref c') L.qual:=by obtain⟨c2,o,vs,t,e,h1,h2,h3⟩:=Up;exact⟨c2,o,vs,t,e,up _ _ h1,h2,h3⟩
  have Qa:=up _ _ Qa;rw[pz]at Qa;have kp:∀b o,b≠P->s.heap.get? b=some o->(h'.push (kb L (bc X.env.cells L.scope.names []) c' doc fJ)).get? b=some o:=λ b o n e=>up b o (hx b o n e);generalize h'.push (kb L (bc X.env.cells L.scope.names []) c' doc fJ)=g at*;obtain⟨of,zf⟩:=xp (L:=L) hl;obtain⟨oc,zc⟩:=IB Qb;obtain⟨H',eH⟩:∃H':Hp,H'=upd (upd (upd H c' (.ck oc (.ext (rh c' L.qual)))) P (.lM (mH (cs++[(pos,c')])).toArray)) f (.ck of (.ext (ka f L c' (bc X.env.cells L.scope.names [])))):=⟨_,rfl⟩;have Hf:H' f=some (.ck of (.ext (ka f L c' (bc X.env.cells L.scope.names [])))):=by rw[eH];exact aD
  have HP:H' P=some (.lM (mH (cs++[(pos,c')])).toArray):=by rw[eH,ar fP.symm];exact aD
  have Hc:H' c'=some (.ck oc (.ext (rh c' L.qual))):=by rw[eH,ar cf,ar cP];exact aD
  have Ho:∀b,b≠f->b≠P->b≠c'->H' b=H b:=λ b n1 n2 n3=>by rw[eH,ar n1,ar n2,ar n3]
  have old:∀b u,b≠P->H b=some u->H' b=some u:=λ b u n e=>(Ho b (aV e nf) n (aV e nc)).trans e;have I2:Inv X pins σ H' {s with heap:=g,toks:=tk}:=by
   refine I.un (H':=H') (h':=g) (t':=tk) ⟨λ b o e n _ _=>kp b o (λ z=>by rw[z,hP]at n;cases n) e,λ b o e n _ _=>⟨o.slots,kp b o (λ z=>by rw[z,hP]at n;cases n) e⟩,λ b o e n _=>?_,λ b o e _=>?_,λ b xs e=>old b _ (λ z=>by rw[z,hP]at e;cases e) e,λ b o u e=>old b _ (λ z=>by rw[z,hP]at e;cases e) e,λ b ps e=>?_⟩ λ b u e=>?_
   ·have lt:=C8 e;rw[Ho b (C7 (u3 lt Ul)) (λ z=>by rw[z,hP]at n;cases n) (C7 (u3 lt NX))];exact n
   ·by_cases z:b=P
    ·subst z;exact⟨_,Qa⟩
    ·exact⟨o,kp b o z e⟩
   ·by_cases z:b=P
    ·subst z;rw[hP]at e;cases e;exact⟨#[rawInt pos.line,rawInt pos.col,.ref c'],by rw[HP,pz]⟩
    ·exact⟨#[],by rw[old b _ z e];simp⟩
   ·by_cases z1:b=f
    ·subst z1;rw[Hf]at e;cases e;exact zf
    ·by_cases z2:b=P
     ·subst z2;rw[HP]at e;cases e;exact Qa
     ·by_cases z3:b=c'
      ·subst z3;rw[Hc]at e;cases e;exact zc
      ·rw[Ho b z1 z2 z3]at e;refine(I.aK b u e).eK (λ d v hd q=>kp d v ?_ q) (λ d q=>old d _ (λ z=>by rw[z,hP]at q;cases q) q) λ d xs q=>old d _ (λ z=>by rw[z,hP]at q;cases q) q;rcases hd with rfl|hd
       ·exact z2
       ·exact λ z=>by rw[z,hP]at hd;cases hd
  refine⟨.ref f,H',I2,rfl,k f c' H' nf (Wj Ul) old ⟨_,HP,λ p hp=>?_⟩ ⟨oc,Hc⟩ ⟨of,Hf⟩⟩;rcases A9.mp hp with hp|hp
  ·obtain⟨o,z⟩:=Dx p hp;exact⟨o,old _ _ (λ y=>by rw[y,hP]at z;cases z) z⟩
  ·rw[u4.mp hp];exact⟨oc,Hc⟩
 |some u=>
  obtain⟨p,hp,rfl⟩:=pj (by simpa using hc);refine PL jL I.ok.glob hg eD C oP (by simpa using qq cs) hc hb Ad λ doc fJ h' tk hx hsz=>?_;have nf:H h'.objs.size=none:=I.aK.fresh hsz;have fP:h'.objs.size≠P:=λ z=>by rw[z,hP]at nf;cases nf
  have hl:(h'.push (kb L (bc X.env.cells L.scope.names []) p.2 doc fJ)).get? h'.objs.size=some (kb L (bc X.env.cells L.scope.names []) p.2 doc fJ):=o8 _ rfl;obtain⟨of,zf⟩:=xp (L:=L) hl;have t:∀b u,H b=some u->upd H h'.objs.size (.ck of (.ext (ka h'.objs.size L p.2 (bc X.env.cells L.scope.names [])))) b=some u:=λ b u e=>by rw[ar (aV e nf)];exact e
  have I2:=I.laid (t':=tk) (a:=h'.objs.size) (h':=h'.push (kb L (bc X.env.cells L.scope.names []) p.2 doc fJ)) (λ b u e=>j8 _ (hx b u e)) hsz (o:=.ck of (.ext (ka h'.objs.size L p.2 (bc X.env.cells L.scope.names [])))) zf;obtain⟨oc,zc⟩:=Dx p hp;exact⟨.ref h'.objs.size,_,I2,rfl,k _ p.2 _ nf (Wj hsz) (λ b u _ e=>t b u e) ⟨cs,t _ _ hP,λ p hp=>let⟨o,z⟩:=Dx p hp;⟨o,t _ _ z⟩⟩ ⟨oc,t _ _ zc⟩ ⟨of,aD⟩⟩
def iA.aL (L:iA):List Stmt:=match L.body with
 | .stmts b=>b
 |_=>[]
theorem GR{L:iA}{c P:Addr}{pos:Pos}{i:Nat}(hi:X.N[i]?=some L.name)(eD:X.env.code=.ref c)(B:EL X.mg X.base c P)(QK:L.params.defaults=[])(MJ:L.params.kw_defaults=[])(ha:annTrees L.params none X.env=[])(Ad:L.pm=(X.mg "__name__").getD .none)(hq:qualnameIn X.env L.name L.name=L.qual) (ou:∀n,(n,NameKind.free)∈L.scope.names->X.env.kindOf n=some .cell\/X.env.kindOf n=some .free) (hb:L.body=.stmts L.aL) (hN:X.N.Nodup) (hx:Loc X.env.scope L.name) (hf:X.fn L.name=true\/X.env.scope.names.lookup L.name=some .local):PS X (.FunctionDef L.name L.params L.aL [] none [] L.scope none L.name pos) (AN (Ka P L X.env.cells) (cL i)):=by intro pins s σ H E I h;refine PySem.W.nestDef_K QK MJ ha ?_;rw[hq,<- hb];exact bZ (O5 eD B Ad ou I h) λ u s1 ⟨v,H1,I1,rv,q⟩=>gj I1 hN hi hx rv (λ s' I'=>⟨_,_,I',q⟩) hf
end
end L2
namespace L3
open PySem PySem.Spec L2
inductive D where
 |aY|bl (b:Bool)|int (i:Int)|str (x:Str)|ty (n:String)|ref (a:Addr)
 |tup (xs:List D)
 |fl (xs:List D)
def EN(K:J8)(H:Hp)(p:Addr)(xs:List V):Prop:=
 (∃o,H p=some (.ck o (.lst xs)))\/∃(o:Obj) (au:Array Value) (n:Nat),K.lookup p=some o/\o.cls=.type "list"/\o.dict=none/\o.data=.seq au n/\au.size<=sizeLine/\Vals xs au.toList
theorem EN.sq {K:J8}{H:Hp}{p:Addr}{xs:List V}(h:EN K H p xs):fb K H p xs:=by
 rcases h with h|h
 ·exact .inl (.inr h)
 ·exact .inr h
mutual
def Dat(K:J8)(H:Hp):D->V->Prop
 | .aY,v=>v=.aY
 | .bl b,v=>v=.bl b
 | .int i,v=>v=.int i
 | .str x,v=>v=.str x
 | .ty n,v=>v=.ty n
 | .ref a,v=>v=.ref a
 | .tup ds,v=>∃p xs,v=.ref p/\gb K H p xs/\ay K H ds xs
 | .fl ds,v=>∃p xs,v=.ref p/\EN K H p xs/\ay K H ds xs
def ay(K:J8)(H:Hp):List D->List V->Prop
 |[],xs=>xs=[]
 |d::ds,xs=>∃x r,xs=x::r/\Dat K H d x/\ay K H ds r
end
structure ah(H H':Hp):Prop where
 tup:∀b xs,H b=some (.tup xs)->H' b=some (.tup xs)
 ck:∀b o u,H b=some (.ck o u)->H' b=some (.ck o u)
theorem ah.refl (H:Hp):ah H H:=⟨λ _ _ h=>h,λ _ _ _ h=>h⟩
theorem ah.trans {H H1 H2:Hp}(a:ah H H1)(b:ah H1 H2):ah H H2:=⟨λ c xs h=>b.tup c xs (a.tup c xs h),λ c o u h=>b.ck c o u (a.ck c o u h)⟩
theorem ah.laid {H:Hp}{p:Addr}{o:HO}(h:H p=none):ah H (upd H p o):=
 ⟨λ b xs e=>by rw[ar (aV e h)];exact e,λ b ob u e=>by rw[ar (aV e h)];exact e⟩
theorem ah.lst {H:Hp}{p:Addr}{xs:List V}{o:HO}(h:H p=some (.lst xs)):ah H (upd H p o):=
 ⟨λ b ys e=>by rw[ar (aZ e h (by intro z;cases z))];exact e,λ b ob u e=>by rw[ar (aZ e h (by intro z;cases z))];exact e⟩
theorem ah.mut {H:Hp}{p:Addr}{u o:HO}(h:H p=some u)(n1:∀xs,u≠.tup xs)(n2:∀ob w,u≠.ck ob w):ah H (upd H p o):=
 ⟨λ b ys e=>by rw[ar (λ z=>by subst z;rw[h]at e;exact n1 ys (A6 e))];exact e,λ b ob w e=>by rw[ar (λ z=>by subst z;rw[h]at e;exact n2 ob w (A6 e))];exact e⟩
structure zQ(H H':Hp):Prop where
 tup:∀b xs,H b=some (.tup xs)->H' b=some (.tup xs)
 ft:∀b o xs,H b=some (.ck o (.tup xs))->H' b=some (.ck o (.tup xs))
 fl:∀b o xs,H b=some (.ck o (.lst xs))->H' b=some (.ck o (.lst xs))
theorem ah.sub {H H':Hp}(t:ah H H'):zQ H H':=⟨t.tup,λ b o _=>t.ck b o _,λ b o _=>t.ck b o _⟩
theorem wu{K:J8}{H H':Hp}(t:zQ H H'){p:Addr}{xs:List V}(h:gb K H p xs):gb K H' p xs:=by
 rcases h with(h|⟨o,h⟩)|h
 ·exact .inl (.inl (t.tup _ _ h))
 ·exact .inl (.inr ⟨o,t.ft _ _ _ h⟩)
 ·exact .inr h
theorem xG{K:J8}{H H':Hp}(t:zQ H H'){p:Addr}{xs:List V}(h:EN K H p xs):EN K H' p xs:=by
 rcases h with⟨o,h⟩|h
 ·exact .inl ⟨o,t.fl _ _ _ h⟩
 ·exact .inr h
theorem AU{K:J8}{H H':Hp}(t:ah H H'){p:Addr}{xs:List V}(h:gb K H p xs):gb K H' p xs:=wu t.sub h
theorem DE{K:J8}{H H':Hp}(t:ah H H'){p:Addr}{xs:List V}(h:EN K H p xs):EN K H' p xs:=xG t.sub h
mutual
theorem Dat.mon {K:J8}{H H':Hp}(t:zQ H H'):∀(d:D) {v:V},Dat K H d v->Dat K H' d v
 | .aY,v,h=>by unfold Dat at h ⊢;exact h
 | .bl b,v,h=>by unfold Dat at h ⊢;exact h
 | .int i,v,h=>by unfold Dat at h ⊢;exact h
 | .str x,v,h=>by unfold Dat at h ⊢;exact h
 | .ty n,v,h=>by unfold Dat at h ⊢;exact h
 | .ref a,v,h=>by unfold Dat at h ⊢;exact h
 | .tup ds,v,h=>by unfold Dat at h ⊢;obtain⟨p,xs,e,q,r⟩:=h;exact⟨p,xs,e,wu t q,ay.mon t ds r⟩
 | .fl ds,v,h=>by unfold Dat at h ⊢;obtain⟨p,xs,e,q,r⟩:=h;exact⟨p,xs,e,xG t q,ay.mon t ds r⟩
theorem ay.mon {K:J8}{H H':Hp}(t:zQ H H'):∀(ds:List D) {xs:List V},ay K H ds xs->ay K H' ds xs
 |[],xs,h=>by unfold ay at h ⊢;exact h
 |d::ds,xs,h=>by unfold ay at h ⊢;obtain⟨x,r,e,a,b⟩:=h;exact⟨x,r,e,Dat.mon t d a,ay.mon t ds b⟩
end
theorem Dat.mono {K:J8}{H H':Hp}(t:ah H H')(d:D){v:V}(h:Dat K H d v):Dat K H' d v:=Dat.mon t.sub d h
theorem ay.mono {K:J8}{H H':Hp}(t:ah H H')(ds:List D){xs:List V}(h:ay K H ds xs):ay K H' ds xs:=ay.mon t.sub ds h
section
variable {K:J8}{H:Hp}
theorem cq{v:V}:Dat K H .aY v↔v=.aY:=by unfold Dat;exact Iff.rfl
theorem aH{b:Bool}{v:V}:Dat K H (.bl b) v↔v=.bl b:=by unfold Dat;exact Iff.rfl
theorem aw{i:Int}{v:V}:Dat K H (.int i) v↔v=.int i:=by unfold Dat;exact Iff.rfl
theorem aI{x:Str}{v:V}:Dat K H (.str x) v↔v=.str x:=by unfold Dat;exact Iff.rfl
theorem Nf{n:String}{v:V}:Dat K H (.ty n) v↔v=.ty n:=by unfold Dat;exact Iff.rfl
theorem aG{a:Addr}{v:V}:Dat K H (.ref a) v↔v=.ref a:=by unfold Dat;exact Iff.rfl
theorem aW{ds:List D}{v:V}:Dat K H (.tup ds) v↔∃p xs,v=.ref p/\gb K H p xs/\ay K H ds xs:=by rw[Dat]
theorem km{ds:List D}{v:V}:Dat K H (.fl ds) v↔∃p xs,v=.ref p/\EN K H p xs/\ay K H ds xs:=by rw[Dat]
theorem av{xs:List V}:ay K H [] xs↔xs=[]:=by unfold ay;exact Iff.rfl
theorem aj{d:D}{ds:List D}{xs:List V}:ay K H (d::ds) xs↔∃x r,xs=x::r/\Dat K H d x/\ay K H ds r:=by rw[ay]
theorem ay.length:∀{ds:List D} {xs:List V},ay K H ds xs->xs.length=ds.length
 |[],xs,h=>by rw[av]at h;subst h;rfl
 |d::ds,xs,h=>by rw[aj]at h;obtain⟨x,r,rfl,_,q⟩:=h;rw[y9,y9,q.length]
theorem ay.get:∀{ds:List D} {xs:List V} {i:Nat} {d:D},ay K H ds xs->ds[i]?=some d->∃x,xs[i]?=some x/\Dat K H d x
 |[],xs,i,d,h,e=>by simp at e
 |d0::ds,xs,i,d,h,e=>by
  rw[aj]at h;obtain⟨x,r,rfl,a,q⟩:=h;cases i with
  |zero=>simp at e;subst e;exact⟨x,rfl,a⟩
  |succ i=>obtain⟨y,h1,h2⟩:=ay.get q (by simpa using e);exact⟨y,by simpa using h1,h2⟩
theorem ay.DA:∀{ds:List D} {xs:List V} {i:Nat} {x:V},ay K H ds xs->xs[i]?=some x->∃d,ds[i]?=some d/\Dat K H d x
 |[],xs,i,x,h,e=>by rw[av]at h;subst h;simp at e
 |d0::ds,xs,i,x,h,e=>by
  rw[aj]at h;obtain⟨y,r,rfl,a,q⟩:=h;cases i with
  |zero=>simp at e;subst e;exact⟨d0,rfl,a⟩
  |succ i=>obtain⟨d,h1,h2⟩:=ay.DA q (by simpa using e);exact⟨d,by simpa using h1,h2⟩
theorem ay.append:∀{ds es:List D} {xs ys:List V},ay K H ds xs->ay K H es ys->ay K H (ds++es) (xs++ys)
 |[],es,xs,ys,h,q=>by rw[av]at h;subst h;exact q
 |d::ds,es,xs,ys,h,q=>by rw[aj]at h;obtain⟨x,r,rfl,a,b⟩:=h;rw[cons_append,cons_append,aj];exact⟨x,_,rfl,a,b.append q⟩
theorem ay.one {d:D}{v:V}(h:Dat K H d v):ay K H [d] [v]:=by rw[aj];exact⟨v,[],rfl,h,by rw[av]⟩
theorem ay.take:∀{ds:List D} {xs:List V} (n:Nat),ay K H ds xs->ay K H (ds.take n) (xs.take n)
 |ds,xs,0,h=>by simp[av]
 |[],xs,n+1,h=>by rw[av]at h;subst h;simp[av]
 |d::ds,xs,n+1,h=>by rw[aj]at h;obtain⟨x,r,rfl,a,b⟩:=h;rw[take_succ_cons,take_succ_cons,aj];exact⟨x,_,rfl,a,b.take n⟩
theorem ay.drop:∀{ds:List D} {xs:List V} (n:Nat),ay K H ds xs->ay K H (ds.drop n) (xs.drop n)
 |ds,xs,0,h=>h
 |[],xs,n+1,h=>by rw[av]at h;subst h;simp[av]
 |d::ds,xs,n+1,h=>by rw[aj]at h;obtain⟨x,r,rfl,a,b⟩:=h;exact b.drop n
theorem ay.set {d:D}{x:V}(hd:Dat K H d x):∀{ds:List D} {xs:List V} (n:Nat),ay K H ds xs->ay K H (ds.set n d) (xs.set n x)
 |[],xs,n,h=>by rw[av]at h;subst h;simp[av]
 |d0::ds,xs,0,h=>by rw[aj]at h;obtain⟨y,r,rfl,a,b⟩:=h;rw[set_cons_zero,set_cons_zero,aj];exact⟨x,_,rfl,hd,b⟩
 |d0::ds,xs,n+1,h=>by rw[aj]at h;obtain⟨y,r,rfl,a,b⟩:=h;rw[set_cons_succ,set_cons_succ,aj];exact⟨y,_,rfl,a,b.set hd n⟩
theorem ki:∀(ns:List Int),ay K H (ns.map D.int) (ns.map V.int)
 |[]=>by simp[av]
 |n::ns=>by rw[C2,C2,aj];exact⟨_,_,rfl,aw.mpr rfl,ki ns⟩
theorem nS:∀{bs:List Bool} {xs:List V},ay K H (bs.map D.bl) xs->xs=bs.map V.bl
 |[],xs,h=>by rw[map_nil,av]at h;exact h
 |b::bs,xs,h=>by rw[C2,aj]at h;obtain⟨x,r,rfl,a,q⟩:=h;rw[aH]at a;rw[a,nS q];rfl
end
def lh:Key->D
 | .inl i=>.int i
 | .inr x=>.str x
mutual
def lW:IK->D
 | .i n=>.int n
 | .t ks=>.tup (kg ks)
def kg:List IK->List D
 |[]=>[]
 |k::ks=>lW k::kg ks
end
mutual
theorem kj{K:J8}{H:Hp}:∀(k:IK) {v:V},Dat K H (lW k) v->gG K H k v
 | .i n,v,h=>by unfold lW at h;unfold gG;exact .inl (aw.mp h)
 | .t ks,v,h=>by unfold lW at h;obtain⟨p,xs,rfl,hq,hx⟩:=aW.mp h;unfold gG;exact⟨p,xs,rfl,hq,tH ks hx⟩
theorem tH{K:J8}{H:Hp}:∀(ks:List IK) {xs:List V},ay K H (kg ks) xs->kQ K H ks xs
 |[],xs,h=>by unfold kg at h;unfold kQ;exact av.mp h
 |k::ks,xs,h=>by unfold kg at h;obtain⟨x,r,rfl,h1,h2⟩:=aj.mp h;unfold kQ;exact⟨x,r,rfl,kj k h1,tH ks h2⟩
end
mutual
theorem qV:∀{a b:IK},lW a=lW b->a=b
 | .i n,.i m,h=>by unfold lW at h;cases h;rfl
 | .i n,.t ks,h=>by unfold lW at h;cases h
 | .t ks,.i n,h=>by unfold lW at h;cases h
 | .t ks,.t ls,h=>by unfold lW at h;rw[tq (D.tup.inj h)]
theorem tq:∀{as bs:List IK},kg as=kg bs->as=bs
 |[],[],_=>rfl
 |[],b::bs,h=>by unfold kg at h;cases h
 |a::as,[],h=>by unfold kg at h;cases h
 |a::as,b::bs,h=>by
  unfold kg at h;injection h with h1 h2
  rw[qV h1,tq h2]
end
theorem sZ{a b:Key}(h:lh a=lh b):a=b:=by
 cases a with
 |inl i=>cases b with
  |inl j=>have e:D.int i=D.int j:=h;cases e;rfl
  |inr y=>have e:D.int i=D.str y:=h;cases e
 |inr x=>cases b with
  |inl j=>have e:D.str x=D.int j:=h;cases e
  |inr y=>have e:D.str x=D.str y:=h;cases e;rfl
theorem md{K:J8}{H:Hp}{k:Key}{v:V}(h:Dat K H (lh k) v):v=kV k:=by
 cases k with
 |inl i=>exact aw.mp h
 |inr x=>exact aI.mp h
inductive XM where
 |lam (L:iA) (cl:List (Str×Addr))|xX (d:D)|lM (q:Str)
  |Su (kvs:List (List Bool×D))
inductive MO where
 |lst (ds:List D)
 |hX (x:XM)
  |bI (t:Bool) (kvs:List (D×D))
abbrev Es(K:J8)(H:Hp):List (D×D)->List (Key×V)->Prop:=Paired λ p q=>p.1=lh q.1/\Dat K H p.2 q.2
abbrev Aa(K:J8)(H:Hp):List (D×D)->List eh->Prop:=Paired λ p q=>p.1=lW q.1/\q.1.dep<=5/\Dat K H p.1 (.ref q.2.1)/\Dat K H p.2 q.2.2
def ZO(bs:List Bool):IK:=.t (bs.map λ b=>.i (b2i b))
def ZN(bs:List Bool):D:=.tup (bs.map D.bl)
abbrev SI(K:J8)(H:Hp):List (List Bool×D)->List eh->Prop:=Paired λ p q=>q.1=ZO p.1/\Dat K H (ZN p.1) (.ref q.2.1)/\Dat K H p.2 q.2.2
theorem SI.mono {K:J8}{H H':Hp}(t:ah H H'){kvs:List (List Bool×D)}{xs:List eh}(h:SI K H kvs xs):SI K H' kvs xs:=Paired.qO h λ p q z=>⟨z.1,Dat.mono t _ z.2.1,Dat.mono t _ z.2.2⟩
theorem Es.mono {K:J8}{H H':Hp}(t:ah H H'){kvs:List (D×D)}{xs:List (Key×V)}(h:Es K H kvs xs):Es K H' kvs xs:=Paired.qO h λ p q z=>⟨z.1,Dat.mono t _ z.2⟩
theorem Aa.mono {K:J8}{H H':Hp}(t:ah H H'){kvs:List (D×D)}{xs:List eh}(h:Aa K H kvs xs):Aa K H' kvs xs:=Paired.qO h λ p q z=>⟨z.1,z.2.1,Dat.mono t _ z.2.2.1,Dat.mono t _ z.2.2.2⟩
abbrev Mem:=Addr->Option MO
def af(M:Mem)(a:Addr)(o:MO):Mem:=λ b=>if b=a then some o else M b
theorem ae{M:Mem}{a:Addr}{o:MO}:af M a o a=some o:=by unfold af;rw[J0 rfl]
theorem ak{M:Mem}{a b:Addr}{o:MO}(h:b≠a):af M a o b=M b:=by unfold af;rw[J7 h]
theorem cD{M:Mem}{a:Addr}{o u:MO}:af (af M a o) a u=af M a u:=by funext b;unfold af;split <;> rfl
def oS(K:J8)(H:Hp)(a:Addr):MO->Prop
 | .lst ds=>∃xs,H a=some (.lst xs)/\ay K H ds xs
 | .bI false kvs=>∃xs,H a=some (.dK xs)/\Es K H kvs xs
 | .bI true kvs=>∃xs,H a=some (rN a xs)/\Aa K H kvs xs
 | .hX (.lam L cl)=>∃c,(∃o,H a=some (.ck o (.ext (ka a L c cl))))/\∃o,H c=some (.ck o (.ext (rh c L.qual)))
 | .hX (.xX d)=>∃o v,H a=some (fO o a v)/\Dat K H d v
 | .hX (.lM q)=>JL H a q
 | .hX (.Su kvs)=>∃xs,H a=some (rN a xs)/\SI K H kvs xs
def RelM(K:J8)(H:Hp)(M:Mem):Prop:=∀a o,M a=some o->oS K H a o
theorem oS.there {K:J8}{H:Hp}{a:Addr}{o:MO}(h:oS K H a o):∃u,H a=some u:=by
 cases o with
 |hX x=>
  cases x with
  |lam L cl=>obtain⟨_,⟨o,h⟩,_⟩:=h;exact⟨_,h⟩
  |xX d=>obtain⟨o,v,h,_⟩:=h;exact⟨_,h⟩
  |lM q=>obtain⟨cs,h,_⟩:=h;exact⟨_,h⟩
  |Su kvs=>obtain⟨xs,h,_⟩:=h;exact⟨_,h⟩
 |lst ds=>obtain⟨xs,h,_⟩:=h;exact⟨_,h⟩
 |bI t kvs=>
  cases t with
  |false=>obtain⟨xs,h,_⟩:=h;exact⟨_,h⟩
  |true=>obtain⟨xs,h,_⟩:=h;exact⟨_,h⟩
theorem oS.mono {K:J8}{H H':Hp}{a:Addr}{o:MO}(h:oS K H a o)(t:ah H H')(e:H' a=H a):oS K H' a o:=by
 cases o with
 |hX x=>
  cases x with
  |lam L cl=>obtain⟨c,⟨o,h⟩,o',h'⟩:=h;exact⟨c,⟨o,e.trans h⟩,o',t.ck _ _ _ h'⟩
  |xX d=>obtain⟨o,v,h,q⟩:=h;exact⟨o,v,e.trans h,Dat.mono t d q⟩
  |lM q=>exact JL.grow h t.ck e
  |Su kvs=>obtain⟨xs,h,q⟩:=h;exact⟨xs,e.trans h,q.mono t⟩
 |lst ds=>obtain⟨xs,h,q⟩:=h;exact⟨xs,e.trans h,ay.mono t ds q⟩
 |bI b kvs=>
  cases b with
  |false=>obtain⟨xs,h,q⟩:=h;exact⟨xs,e.trans h,q.mono t⟩
  |true=>obtain⟨xs,h,q⟩:=h;exact⟨xs,e.trans h,q.mono t⟩
theorem RelM.free {K:J8}{H:Hp}{M:Mem}(h:RelM K H M){p:Addr}(n:H p=none):M p=none:=by
 cases e:M p with
 |none=>rfl
 |some o=>obtain⟨u,q⟩:=(h p o e).there;rw[n]at q;cases q
theorem RelM.laid {K:J8}{H:Hp}{M:Mem}(h:RelM K H M){p:Addr}{o:HO}(n:H p=none):RelM K (upd H p o) M:=λ a u e=>by obtain⟨w,q⟩:=(h a u e).there;exact(h a u e).mono (ah.laid n) (ar (aV q n))
theorem RelM.put {K:J8}{H:Hp}{M:Mem}(h:RelM K H M){p:Addr}{o:HO}{u:MO}(t:ah H (upd H p o))(new:oS K (upd H p o) p u):RelM K (upd H p o) (af M p u):=λ a w e=>by
 by_cases ha:a=p
 ·subst ha;rw[ae]at e;cases e;exact new
 ·rw[ak ha]at e;exact(h a w e).mono t (ar ha)
def n_(M M':Mem):Prop:=∀a o,M a=some o->M' a=some o
theorem n_.refl (M:Mem):n_ M M:=λ _ _ h=>h
theorem n_.put {M M':Mem}{p:Addr}{o:MO}(h:n_ M M')(n:M p=none):n_ M (af M' p o):=λ a u e=>by rw[ak (λ z=>by subst z;rw[n]at e;cases e)];exact h a u e
theorem RelM.sub {K:J8}{H:Hp}{M M':Mem}(h:RelM K H M')(s:n_ M M'):RelM K H M:=λ a o e=>h a o (s a o e)
abbrev bY:=List (Option D)
structure bF(K:J8)(H:Hp)(δ:bY)(σ:St):Prop where
 len:δ.length=σ.length
 get:∀(i:Nat) (d:D),δ[i]?=some (some d)->∃v,σ[i]?=some (some v)/\Dat K H d v
theorem bF.mono {K:J8}{H H':Hp}{δ:bY}{σ:St}(h:bF K H δ σ)(t:ah H H'):bF K H' δ σ:=
 ⟨h.len,λ i d e=>let⟨v,q,r⟩:=h.get i d e;⟨v,q,Dat.mono t d r⟩⟩
theorem bF.set {K:J8}{H:Hp}{δ:bY}{σ:St}(h:bF K H δ σ){i:Nat}{d:D}{v:V}(r:Dat K H d v):bF K H (δ.set i (some d)) (σ.set i (some v)):=by
 refine⟨by rw[length_set,length_set];exact h.len,λ j e hj=>?_⟩;by_cases MK:i=j
 ·subst MK;have hi:i < δ.length:=by have:=(i4.mp hj).1;simpa using this
  rw[k7 hi]at hj;cases hj;exact⟨v,by rw[k7 (by rw[<- h.len];exact hi)],r⟩
 ·rw[n6 MK]at hj;obtain⟨u,q,w⟩:=h.get j e hj;exact⟨u,by rw[n6 MK];exact q,w⟩
abbrev bu:=D->Mem->Prop
abbrev bJ:=bY->Mem->bu->Prop
abbrev dN:=bY->Mem->(Bool->Mem->Prop)->Prop
abbrev dE:=bY->Mem->(List D->Mem->Prop)->Prop
structure cQ where
 nx:bY->Mem->Prop
 rt:bu
 bk:bY->Mem->Prop:=λ _ _=>False
 ct:bY->Mem->Prop:=λ _ _=>False
abbrev fQ:=cQ->bY->Mem->Prop
def iB(K:J8)(H:Hp)(Q2:bu)(Q:VK):Prop:=∀v H' d M',Dat K H' d v->RelM K H' M'->ah H H'->Q2 d M'->Q v H'
def t_(K:J8)(H:Hp)(Q2:Bool->Mem->Prop)(Q:Bool->Hp->Prop):Prop:=∀b H' M',RelM K H' M'->ah H H'->Q2 b M'->Q b H'
def RG(K:J8)(H:Hp)(Q2:List D->Mem->Prop)(Q:List V->Hp->Prop):Prop:=∀vs H' ds M',ay K H' ds vs->RelM K H' M'->ah H H'->Q2 ds M'->Q vs H'
def kX(K:J8)(H:Hp)(N2:bY->Mem->Prop)(N:St->Hp->Prop):Prop:=∀σ' H' δ' M',bF K H' δ' σ'->RelM K H' M'->ah H H'->N2 δ' M'->N σ' H'
structure ql(K:J8)(H:Hp)(D2:cQ)(E:Ends):Prop where
 nx:kX K H D2.nx E.nx
 rt:iB K H D2.rt E.rt
 bk:kX K H D2.bk E.bk
 ct:kX K H D2.ct E.ct
theorem iB.mono {K:J8}{H H1:Hp}{Q2:bu}{Q:VK}(c:iB K H Q2 Q)(t:ah H H1):iB K H1 Q2 Q:=λ v H' d M' a b e q=>c v H' d M' a b (t.trans e) q
theorem t_.mono {K:J8}{H H1:Hp}{Q2:Bool->Mem->Prop}{Q:Bool->Hp->Prop}(c:t_ K H Q2 Q)(t:ah H H1):t_ K H1 Q2 Q:=λ v H' M' b e q=>c v H' M' b (t.trans e) q
theorem kX.mono {K:J8}{H H1:Hp}{N2:bY->Mem->Prop}{N:St->Hp->Prop}(c:kX K H N2 N)(t:ah H H1):kX K H1 N2 N:=λ v H' d M' a b e q=>c v H' d M' a b (t.trans e) q
theorem ql.mono {K:J8}{H H1:Hp}{D2:cQ}{E:Ends}(c:ql K H D2 E)(t:ah H H1):ql K H1 D2 E:=⟨c.nx.mono t,c.rt.mono t,c.bk.mono t,c.ct.mono t⟩
def up(K:J8)(t:bJ):TE:=λ σ H Q=>∃δ M Q2,bF K H δ σ/\RelM K H M/\t δ M Q2/\iB K H Q2 Q
def Ez(K:J8)(t:dN):TT:=λ σ H Q=>∃δ M Q2,bF K H δ σ/\RelM K H M/\t δ M Q2/\t_ K H Q2 Q
def Vi(K:J8)(t:dE):TA:=λ σ H Q=>∃δ M Q2,bF K H δ σ/\RelM K H M/\t δ M Q2/\RG K H Q2 Q
def SQ(K:J8)(t:fQ):TS:=λ E σ H=>∃δ M D2,bF K H δ σ/\RelM K H M/\t D2 δ M/\ql K H D2 E
abbrev QE(X:Cx)(e:Expr)(t:bJ):Prop:=PE X e (up X.K t)
abbrev QT(X:Cx)(e:Expr)(t:dN):Prop:=PT X e (Ez X.K t)
abbrev QW(X:Cx)(e:Expr)(t:dN):Prop:=PW X e (Ez X.K t)
abbrev QA(X:Cx)(es:List Expr)(t:dE):Prop:=PA X es (Vi X.K t)
abbrev QS(X:Cx)(st:Stmt)(t:fQ):Prop:=PS X st (SQ X.K t)
abbrev zU(X:Cx)(aL:List Stmt)(t:fQ):Prop:=nZ X aL (SQ X.K t)
theorem bK{X:Cx}{e:Expr}{t t':TE}(h:PE X e t)(k:∀σ H Q,t' σ H Q->t σ H Q):PE X e t':=λ pins s σ H Q I q=>h pins s σ H Q I (k σ H Q q)
theorem BS{X:Cx}{e:Expr}{t t':TT}(h:PT X e t)(k:∀σ H Q,t' σ H Q->t σ H Q):PT X e t':=λ pins s σ H Q I q=>h pins s σ H Q I (k σ H Q q)
theorem Jo{X:Cx}{e:Expr}{t t':TT}(h:PW X e t)(k:∀σ H Q,t' σ H Q->t σ H Q):PW X e t':=λ wh pins s σ H Q I q=>h wh pins s σ H Q I (k σ H Q q)
theorem Cm{X:Cx}{es:List Expr}{t t':TA}(h:PA X es t)(k:∀σ H Q,t' σ H Q->t σ H Q):PA X es t':=λ pos pins s σ H Q I q=>h pos pins s σ H Q I (k σ H Q q)
theorem eZ{X:Cx}{st:Stmt}{t t':TS}(h:PS X st t)(k:∀E σ H,t' E σ H->t E σ H):PS X st t':=λ pins s σ H E I q=>h pins s σ H E I (k E σ H q)
theorem uQ{X:Cx}{aL:List Stmt}{t t':TS}(h:nZ X aL t)(k:∀E σ H,t' E σ H->t E σ H):nZ X aL t':=λ pins s σ H E I q=>h pins s σ H E I (k E σ H q)
end L3
namespace L3
open PySem PySem.Spec L2
abbrev fh:=D->D->Mem->bu->Prop
def NB(K:J8)(r:R2)(r2:fh):Prop:=∀x y d e H M Q2 Q,Dat K H d x->Dat K H e y->RelM K H M->r2 d e M Q2->iB K H Q2 Q->r x y H Q
def NC(K:J8)(r:List V->Hp->VK->Prop)(r2:List D->Mem->bu->Prop):Prop:=∀xs ds H M Q2 Q,ay K H ds xs->RelM K H M->r2 ds M Q2->iB K H Q2 Q->r xs H Q
def U'(K:J8)(r:V->List V->Hp->VK->Prop)(r2:D->List D->Mem->bu->Prop):Prop:=∀x xs d ds H M Q2 Q,Dat K H d x->ay K H ds xs->RelM K H M->r2 d ds M Q2->iB K H Q2 Q->r x xs H Q
def Ru(K:J8)(r:V->Option Int->Option Int->Hp->VK->Prop)(r2:D->Option Int->Option Int->Mem->bu->Prop):Prop:=∀x d lo hi H M Q2 Q,Dat K H d x->RelM K H M->r2 d lo hi M Q2->iB K H Q2 Q->r x lo hi H Q
def ff(X:Cx)(f:Value->Value->Sem Value)(r2:fh):Prop:=∃r,eJ X f r/\NB X.K r r2
def RA(X:Cx)(r2:fh):Prop:=∃r,wb X r/\NB X.K r r2
def Rv(X:Cx)(r2:D->Option Int->Option Int->Mem->bu->Prop):Prop:=∃r,yc X r/\Ru X.K r r2
def dz(X:Cx)(f:Value)(r2:List D->Mem->bu->Prop):Prop:=∃r,de X f r/\NC X.K r r2
def NG(X:Cx)(id:String)(r2:D->List D->Mem->bu->Prop):Prop:=∃r,Vb X id r/\U' X.K r r2
section
variable {X:Cx}{a b c e:Expr}{ta tb tc:bJ}{pos:Pos}
def eW(i:Nat):bJ:=λ δ M Q=>match δ[i]? with
 |some (some d)=>Q d M
 |_=>False
def sC(d:D):bJ:=λ _ M Q=>Q d M
theorem Xg(i:Nat){x:Str}(hN:X.N[i]?=some x:=by rfl)(hv:IU X.env.scope x:=by first|exact Or.inl rfl|exact Or.inr (Or.inl rfl)|exact Or.inr (Or.inr rfl))(hd:(x==("__debug__":Str))=false:=by decide) (hcd:(x==("__classdict__":Str))=false:=by decide):QE X (.Name x pos) (eW i):=bK (uU hN hv hd hcd) λ σ H Q ⟨δ,M,Q2,hs,hm,q,k⟩=>by
 unfold eW at q;cases e:δ[i]? with
 |none=>rw[e]at q;exact q.elim
 |some o=>
  cases o with
  |none=>rw[e]at q;exact q.elim
  |some d=>rw[e]at q;obtain⟨v,h1,h2⟩:=hs.get i d e;exact⟨v,h1,k v H d M h2 hm (ah.refl H) q⟩
theorem OW{i j}:QE X (.Constant (.int i) j pos) (sC (.int i)):=bK LF λ σ H Q ⟨δ,M,Q2,hs,hm,q,k⟩=>k _ H (.int i) M (aw.mpr rfl) hm (ah.refl H) q
theorem Tr{i j}:QE X (.Constant (.bool i) j pos) (sC (.bl i)):=bK O8 λ σ H Q ⟨δ,M,Q2,hs,hm,q,k⟩=>k _ H (.bl i) M (aH.mpr rfl) hm (ah.refl H) q
theorem Jm{i j}:QE X (.Constant (.str i) j pos) (sC (.str i)):=bK Lz λ σ H Q ⟨δ,M,Q2,hs,hm,q,k⟩=>k _ H (.str i) M (aI.mpr rfl) hm (ah.refl H) q
theorem OU{j}:QE X (.Constant .none j pos) (sC .aY):=bK LC λ σ H Q ⟨δ,M,Q2,hs,hm,q,k⟩=>k _ H .aY M (cq.mpr rfl) hm (ah.refl H) q
structure En(K:J8)(mg:Str->Option Value)(x:Str)(d:D):Prop where
 ex:∃u v,mg x=some u/\RelV v u/\∀H,Dat K H d v
theorem Lk{x:Str}{d:D}(G:En X.K X.mg x d)(hg:Gl X x)(hd:(x==("__debug__":Str))=false:=by decide):QE X (.Name x pos) (sC d):=by obtain⟨u,v,hm,r,hD⟩:=G.ex;exact bK (GY hg hm r hd) λ σ H Q ⟨δ,M,Q2,hs,hm,q,k⟩=>k _ H d M (hD H) hm (ah.refl H) q
def yG(r2:fh)(ta tb:bJ):bJ:=λ δ M Q=>ta δ M λ d M1=>tb δ M1 λ e M2=>r2 d e M2 Q
theorem lT{K:J8}{r:R2}{r2:fh}(hr:NB K r r2):∀σ H Q,up K (yG r2 ta tb) σ H Q->Og r (up K ta) (up K tb) σ H Q:=by rintro σ H Q ⟨δ,M,Q2,hs,hm,q,k⟩;refine⟨δ,M,_,hs,hm,q,λ x H1 d M1 hd bG t1 q1=>?_⟩;refine⟨δ,M1,_,hs.mono t1,bG,q1,λ y H2 e M2 he jw t2 q2=>?_⟩;exact hr x y d e H2 M2 Q2 Q (Dat.mono t2 d hd) he jw q2 (k.mono (t1.trans t2))
theorem To{op:Operator}{r2:fh}(o:ff X (binaryOp op) r2)(ha:QE X a ta)(hb:QE X b tb):QE X (.BinOp a op b pos) (yG r2 ta tb):=by obtain⟨r,ho,hr⟩:=o;exact bK (O4 ho ha hb) (lT hr)
theorem OY{op:CmpOp}{r2:fh}(o:ff X (compareOp op) r2)(ha:QE X a ta)(hb:QE X b tb)(hm:behindInMarks op b=false):QE X (.Compare a [op] [b] pos) (yG r2 ta tb):=by obtain⟨r,ho,hr⟩:=o;exact bK (GZ ho ha hb hm) (lT hr)
def kN(t:bJ):dN:=λ δ M Q=>t δ M λ d M1=>match d with
 | .bl k=>Q k M1
 |_=>False
theorem pf{K:J8}{H:Hp}{Q2:Bool->Mem->Prop}{Q:Bool->Hp->Prop}(k:t_ K H Q2 Q):iB K H (λ d M1=>match d with| .bl k=>Q2 k M1|_=>False) (λ x H'=>∃k,x=.bl k/\Q k H'):=λ v H' d M' hd hm t q=>by
 cases d with
 |bl b=>exact⟨b,aH.mp hd,k b H' M' hm t q⟩
 |_=>exact q.elim
theorem K'{op:CmpOp}{r2:fh}(o:ff X (compareOp op) r2)(ha:QE X a ta)(hb:QE X b tb)(hm:behindInMarks op b=false):QT X (.Compare a [op] [b] pos) (kN (yG r2 ta tb)):=by obtain⟨r,ho,hr⟩:=o;refine BS (GO ho ha hb hm) ?_;rintro σ H Q ⟨δ,M,Q2,hs,hm,q,k⟩;exact lT hr σ H _ ⟨δ,M,_,hs,hm,q,pf k⟩
theorem K9(h:QE X e ta)(he:∀whole,isTrue e X.env whole=(do let v <- whole;standAt e.pos;holding [v] (truthy v)):=by intro _;rfl):QT X e (kN ta):=by refine BS (Lq h he) ?_;rintro σ H Q ⟨δ,M,Q2,hs,hm,q,k⟩;exact⟨δ,M,_,hs,hm,q,pf k⟩
variable {tA tB:dN}{rest:List Expr}
def Kw(t u:dN):dN:=λ δ M Q=>t δ M λ c M1=>if c=true then u δ M1 Q else Q false M1
def RT(t u:dN):dN:=λ δ M Q=>t δ M λ c M1=>if c=true then Q true M1 else u δ M1 Q
def Kr(t:dN):dN:=λ δ M Q=>t δ M λ c M1=>Q (!c) M1
theorem Gk(ha:QT X a tA):QW X (.BoolOp .And [a] pos) tA:=GK ha
theorem K7(ha:QT X a tA):QW X (.BoolOp .Or [a] pos) tA:=Ln ha
theorem K8(ha:QT X a tA)(hb:QW X (.BoolOp .And (b::rest) pos) tB):QW X (.BoolOp .And (a::b::rest) pos) (Kw tA tB):=Jo (Lp ha hb) λ σ H Q ⟨δ,M,Q2,hs,hm,q,k⟩=>by
 refine⟨δ,M,_,hs,hm,q,λ c H1 M1 bG t1 q1=>?_⟩;cases c with
 |true=>rw[J0 rfl]at q1 ⊢;exact⟨δ,M1,Q2,hs.mono t1,bG,q1,k.mono t1⟩
 |false=>rw[J7 r0]at q1 ⊢;exact k _ _ _ bG t1 q1
theorem OQ(ha:QT X a tA)(hb:QW X (.BoolOp .Or (b::rest) pos) tB):QW X (.BoolOp .Or (a::b::rest) pos) (RT tA tB):=Jo (O0 ha hb) λ σ H Q ⟨δ,M,Q2,hs,hm,q,k⟩=>by
 refine⟨δ,M,_,hs,hm,q,λ c H1 M1 bG t1 q1=>?_⟩;cases c with
 |true=>rw[J0 rfl]at q1 ⊢;exact k _ _ _ bG t1 q1
 |false=>rw[J7 r0]at q1 ⊢;exact⟨δ,M1,Q2,hs.mono t1,bG,q1,k.mono t1⟩
theorem K_(ha:QT X a tA):QT X (.UnaryOp .Not a pos) (Kr tA):=BS (Lr ha) λ σ H Q ⟨δ,M,Q2,hs,hm,q,k⟩=>⟨δ,M,_,hs,hm,q,λ c H1 M1 bG t1 q1=>k _ _ _ bG t1 q1⟩
variable {es:List Expr}{t:dE}
def oA:dE:=λ _ M Q=>Q [] M
def eX(ta:bJ)(tr:dE):dE:=λ δ M Q=>ta δ M λ d M1=>tr δ M1 λ ds M2=>Q (d::ds) M2
theorem BQ:QA X [] oA:=Cm gB λ σ H Q ⟨δ,M,Q2,hs,hm,q,k⟩=>k [] H [] M (by rw[av]) hm (ah.refl H) q
theorem wU(ha:QE X e ta)(hr:QA X es t)(hs:starEach (e::es) X.env=(false,eval e X.env)::starEach es X.env:=by rfl):QA X (e::es) (eX ta t):=Cm (bU ha hr hs) λ σ H Q ⟨δ,M,Q2,hs,hm,q,k⟩=>by refine⟨δ,M,_,hs,hm,q,λ x H1 d M1 hd bG t1 q1=>?_⟩;refine⟨δ,M1,_,hs.mono t1,bG,q1,λ xs H2 ds M2 Dv jw t2 q2=>?_⟩;exact k (x::xs) H2 (d::ds) M2 (aj.mpr ⟨x,xs,rfl,Dat.mono t2 d hd,Dv⟩) jw (t1.trans t2) q2
def Kp(t:dE):bJ:=λ δ M Q=>t δ M λ ds M1=>ds.length<=sizeLine/\Q (.tup ds) M1
theorem gY{K:J8}{H:Hp}{p:Addr}{xs:List V}{ds:List D}(hp:H p=none)(h:ay K H ds xs):Dat K (upd H p (.tup xs)) (.tup ds) (.ref p):=aW.mpr ⟨p,xs,rfl,gb.of aD,ay.mono (ah.laid hp) ds h⟩
theorem OT{x1}(h:QA X es t):QE X (.Tuple es x1 pos) (Kp t):=bK (Ce h) λ σ H Q ⟨δ,M,Q2,hs,hm,q,k⟩=>by refine⟨δ,M,_,hs,hm,q,λ xs H1 ds M1 hd bG t1 q1=>?_⟩;refine⟨by rw[hd.length];exact q1.1,λ p hp=>?_⟩;exact k _ _ (.tup ds) M1 (gY hp hd) (bG.laid hp) (t1.trans (ah.laid hp)) q1.2
def Ks(t:dE):bJ:=λ δ M Q=>t δ M λ ds M1=>ds.length<=sizeLine/\∀p,M1 p=none->Q (.ref p) (af M1 p (.lst ds))
theorem dB{K:J8}{H:Hp}{M:Mem}{p:Addr}{xs:List V}{ds:List D}(hp:H p=none)(h:ay K H ds xs)(hm:RelM K H M):RelM K (upd H p (.lst xs)) (af M p (.lst ds)):=
 hm.put (ah.laid hp) ⟨xs,aD,ay.mono (ah.laid hp) ds h⟩
theorem OV(h:QA X es t):QE X (.List es pos) (Ks t):=bK (LD h) λ σ H Q ⟨δ,M,Q2,hs,hm,q,k⟩=>by refine⟨δ,M,_,hs,hm,q,λ xs H1 ds M1 hd bG t1 q1=>?_⟩;refine⟨by rw[hd.length];exact q1.1,λ p hp=>?_⟩;exact k _ _ (.ref p) _ (aG.mpr rfl) (dB hp hd bG) (t1.trans (ah.laid hp)) (q1.2 p (bG.free hp))
theorem Tp{r2:fh}(o:RA X r2)(ha:QE X a ta)(hb:QE X b tb)(hs:rF b):QE X (.Subscript a b pos) (yG r2 ta tb):=by obtain⟨r,ho,hr⟩:=o;exact bK (O6 ho ha hb hs) (lT hr)
abbrev EJ:=bY->Mem->(Option Int->Mem->Prop)->Prop
def RE(K:J8)(H:Hp)(Q2:Option Int->Mem->Prop)(Q:Option Int->Hp->Prop):Prop:=∀o H' M',RelM K H' M'->ah H H'->Q2 o M'->Q o H'
def WU(K:J8)(t:EJ):TO:=λ σ H Q=>∃δ M Q2,bF K H δ σ/\RelM K H M/\t δ M Q2/\RE K H Q2 Q
abbrev QO(X:Cx)(e:Option Expr)(t:EJ):Prop:=PO X e (WU X.K t)
theorem BY{e:Option Expr}{t t':TO}(h:PO X e t)(k:∀σ H Q,t' σ H Q->t σ H Q):PO X e t':=λ pins s σ H Q I q=>h pins s σ H Q I (k σ H Q q)
def lN:EJ:=λ _ M Q=>Q none M
def Bl(t:bJ):EJ:=λ δ M Q=>t δ M λ d M1=>match d with
 | .int i=>Q (some i) M1
 |_=>False
theorem Gw:QO X none lN:=BY GU λ σ H Q ⟨δ,M,Q2,hs,hm,q,k⟩=>k _ _ _ hm (ah.refl H) q
theorem Gv(h:QE X e ta):QO X (some e) (Bl ta):=BY (GS h) λ σ H Q ⟨δ,M,Q2,hs,hm,q,k⟩=>by
 refine⟨δ,M,_,hs,hm,q,λ x H1 d M1 hd bG t1 q1=>?_⟩;cases d with
 |int i=>exact⟨i,aw.mp hd,k _ _ _ bG t1 q1⟩
 |_=>exact q1.elim
variable {lo hi:Option Expr}{tl th:EJ}{p2:Pos}
def RS(r2:D->Option Int->Option Int->Mem->bu->Prop)(te:bJ)(tl th:EJ):bJ:=λ δ M Q=>te δ M λ d M1=>tl δ M1 λ l M2=>th δ M2 λ u M3=>r2 d l u M3 Q
theorem GD{r2:D->Option Int->Option Int->Mem->bu->Prop}(o:Rv X r2)(he:QE X e ta)(hl:QO X lo tl)(hu:QO X hi th):QE X (.Subscript e (.Slice lo hi none p2) pos) (RS r2 ta tl th):=by obtain⟨r,ho,hr⟩:=o;refine bK (Cf ho he hl hu) ?_;rintro σ H Q ⟨δ,M,Q2,hs,hm,q,k⟩;refine⟨δ,M,_,hs,hm,q,λ x H1 d M1 hd bG t1 q1=>?_⟩;refine⟨δ,M1,_,hs.mono t1,bG,q1,λ l H2 M2 jw t2 q2=>?_⟩;refine⟨δ,M2,_,hs.mono (t1.trans t2),jw,q2,λ u H3 M3 MI t3 q3=>?_⟩;exact hr x d l u H3 M3 Q2 Q (Dat.mono (t2.trans t3) d hd) MI q3 (k.mono (t1.trans (t2.trans t3)))
def Ku(r2:List D->Mem->bu->Prop)(t:dE):bJ:=λ δ M Q=>t δ M λ ds M1=>r2 ds M1 Q
variable {x:Str}{p:Pos}{id T:String}
theorem xY{K:J8}{r:List V->Hp->VK->Prop}{r2:List D->Mem->bu->Prop}(hr:NC K r r2):∀σ H Q,up K (Ku r2 t) σ H Q->RN r (Vi K t) σ H Q:=by rintro σ H Q ⟨δ,M,Q2,hs,hm,q,k⟩;exact⟨δ,M,_,hs,hm,q,λ xs H1 ds M1 hd bG t1 q1=>hr xs ds H1 M1 Q2 Q hd bG q1 (k.mono t1)⟩
theorem GJ{r2:List D->Mem->bu->Prop}(o:dz X (.builtin id) r2)(hg:Gl X x)(hm:X.mg x=none)(hv:bootBuiltins x=some (.builtin id))(ha:QA X (e::es) t)(hn:x≠"__name__":=by decide)(hdb:(x==("__debug__":Str))=false:=by decide) (he:starEach (e::es) X.env=(false,eval e X.env)::starEach es X.env:=by rfl) (hpl:(backTo pos (starEach es X.env)).any (·.1)=false:=by rfl):QE X (.Call (.Name x p) (e::es) [] pos) (Ku r2 t):=by obtain⟨r,ho,hr⟩:=o;exact bK (jn ho hg hm hv ha hn hdb he hpl) (xY hr)
theorem GG{r2:List D->Mem->bu->Prop}(o:dz X (.type T) r2)(hg:Gl X x)(hm:X.mg x=none)(hv:bootBuiltins x=some (.type T))(ha:QA X (e::es) t)(hn:x≠"__name__":=by decide)(hdb:(x==("__debug__":Str))=false:=by decide) (he:starEach (e::es) X.env=(false,eval e X.env)::starEach es X.env:=by rfl) (hpl:(backTo pos (starEach es X.env)).any (·.1)=false:=by rfl):QE X (.Call (.Name x p) (e::es) [] pos) (Ku r2 t):=by obtain⟨r,ho,hr⟩:=o;exact bK (pJ ho hg hm hv ha hn hdb he hpl) (xY hr)
end
end L3
namespace L3
open PySem PySem.Spec L2
def NM(T:String)(d:D)(M:Mem):Prop:=match d with
 | .str _=>T="str"
 | .ref a=>T="list"/\∃ds,M a=some (.lst ds)
 |_=>False
theorem NM.v {K:J8}{H:Hp}{M:Mem}{T:String}{d:D}{x:V}(h:NM T d M)(r:Dat K H d x)(hm:RelM K H M):RK K T x H:=by
 cases d with
 |str z=>cases(aI.mp r);exact h
 |ref a=>cases(aG.mp r);obtain⟨e,ds,q⟩:=h;obtain⟨xs,hx,_⟩:=hm a _ q;exact .inl ⟨e,xs,fb.of hx⟩
 |_=>exact h.elim
section
variable {X:Cx}{o e:Expr}{es:List Expr}{to:bJ}{t:dE}{T id:String}{name:Str}{apos bx:Pos}
def NN(T:String)(r2:D->List D->Mem->bu->Prop)(to:bJ)(t:dE):bJ:=λ δ M Q=>to δ M λ d M1=>NM T d M1/\t δ M1 λ ds M2=>r2 d ds M2 Q
def Kv(T:String)(r2:D->List D->Mem->bu->Prop)(to:bJ):bJ:=λ δ M Q=>to δ M λ d M1=>NM T d M1/\r2 d [] M1 Q
theorem OZ{r2:D->List D->Mem->bu->Prop}(pa:PlainAttrs T)(slot:Slot T name id)(hty:typeOf (.builtin id)=pure (.type "method_descriptor"))(hm:NG X id r2)(ho:QE X o to) (hbase:attributeBase o name X.env (eval o X.env)=eval o X.env:=by rfl) (hline:(apos.endLine==bx.line)=true:=by rfl):QE X (.Call (.Attribute o name apos) [] [] bx) (Kv T r2 to):=by obtain⟨r,h1,hr⟩:=hm;refine bK (LH pa slot hty h1 ho hbase hline) ?_;rintro σ H Q ⟨δ,M,Q2,hs,hm,q,k⟩;exact⟨δ,M,_,hs,hm,q,λ x H1 d M1 hd bG t1 q1=>⟨q1.1.v hd bG,hr x [] d [] H1 M1 Q2 Q hd (by rw[av]) bG q1.2 (k.mono t1)⟩⟩
theorem Tq{r2:D->List D->Mem->bu->Prop}(pa:PlainAttrs T)(slot:Slot T name id)(hty:typeOf (.builtin id)=pure (.type "method_descriptor"))(hm:NG X id r2)(ho:QE X o to)(ha:QA X (e::es) t) (hbase:attributeBase o name X.env (eval o X.env)=eval o X.env:=by rfl) (hfew:((backTo bx (starEach (e::es) X.env)).all (λ x=>!x.1)&&(backToKw bx (keywordEach [] X.env)).all (λ x=>x.1.isSome)
   &&decide ((e::es).length+([]:List Keyword).length+(if([]:List Keyword).isEmpty then 0 else 1) < 30))=true:=by rfl)
  (hline:(apos.endLine==bx.line)=true:=by rfl) (hs:starEach (e::es) X.env=(false,eval e X.env)::starEach es X.env:=by rfl) (hplain:(backTo bx (starEach es X.env)).any (·.1)=false:=by rfl):
  QE X (.Call (.Attribute o name apos) (e::es) [] bx) (NN T r2 to t):=by
 obtain⟨r,h1,hr⟩:=hm;refine bK (O7 pa slot hty h1 ho ha hbase hfew hline hs hplain) ?_;rintro σ H Q ⟨δ,M,Q2,hs,hm,q,k⟩;refine⟨δ,M,_,hs,hm,q,λ x H1 d M1 hd bG t1 q1=>⟨q1.1.v hd bG,δ,M1,_,hs.mono t1,bG,q1.2,λ xs H2 ds M2 Dv jw t2 q2=>?_⟩⟩;exact hr x xs d ds H2 M2 Q2 Q (Dat.mono t2 d hd) Dv jw q2 (k.mono (t1.trans t2))
end
abbrev gc:=List D->Mem->bu->Prop
def cw(K:J8)(sp:gc):Sp:=λ vs H Q _=>∃ds M Q2,ay K H ds vs/\RelM K H M/\sp ds M Q2/\iB K H Q2 Q
def sD(sp:gc)(t:dE):bJ:=λ δ M Q=>t δ M λ ds M1=>sp ds M1 Q
abbrev cR(P:Program)(w:World)(K:J8)(mg:Str->Option Value)(base:Heap)(k:Nat)(x:Str)(ps:List Str)(sp:gc):Prop:=iD P w K mg base k x ps (cw K sp)
section
variable {X:Cx}{x:Str}{p pos:Pos}{e:Expr}{es:List Expr}{t:dE}{k j:Nat}{ps:List Str}{sp:gc}
theorem OX(d:cR X.prog X.w X.K X.mg X.base k x ps sp)(hr:bf k X.A)(hg:Gl X x)(ha:QA X (e::es) t)(hdb:(x==("__debug__":Str))=false:=by decide)(he:starEach (e::es) X.env=(false,eval e X.env)::starEach es X.env:=by rfl) (hpl:(backTo pos (starEach es X.env)).any (·.1)=false:=by rfl):QE X (.Call (.Name x p) (e::es) [] pos) (sD sp t):=by refine bK (LG d hr hg ha hdb he hpl) ?_;rintro σ H Q ⟨δ,M,Q2,hs,hm,q,k⟩;exact⟨δ,M,_,hs,hm,q,λ xs H1 ds M1 hd bG t1 q1=>⟨ds,M1,Q2,hd,bG,q1,k.mono t1⟩⟩
end
def dQ(N:List Str)(ds:List D):bY:=ds.map some++List.replicate (N.length - ds.length) none
theorem jR{K:J8}{H:Hp}{N:List Str}{ds:List D}{vs:List V}(h:ay K H ds vs):bF K H (dQ N ds) (L2.start N vs):=by
 have hl:=h.length;refine⟨by unfold dQ L2.start;simp[hl],λ i d e=>?_⟩;unfold dQ at e;by_cases hi:i < ds.length
 ·rw[h8 (by simpa using hi),x3]at e;cases q:ds[i]? with
  |none=>rw[q]at e;cases e
  |some d'=>
   rw[q]at e;have e:d'=d:=by simpa using e
   subst e;obtain⟨v,hv,r⟩:=h.get q;refine⟨v,?_,r⟩;unfold L2.start;rw[h8 (by simp;omega),x3,hv];rfl
 ·rw[c5 (by simpa using hi),j0]at e;split at e <;> cases e
def fin2(Q:bu):bu:=λ d M'=>∃og,n_ og M'/\Q d og
theorem ax{Q:bu}{d:D}{M:Mem}(q:Q d M):fin2 Q d M:=⟨M,n_.refl M,q⟩
section
variable {P:Program}{w:World}{K:J8}{mg:Str->Option Value}{base:Heap}
theorem Xi{x qual:Str}{st:Stmt}{f:Addr}{fd:FuncData}{N ps:List Str}{k:Nat}{sp:gc}(F:fg K x qual st f fd)(S:cu N ps (aq st))(len:∀ds M Q,sp ds M Q->ds.length=ps.length) (bW:∀(bQ:Value) (A:Around) (outer:List Env) (s:Shared) (H:Hp) (E:XK) (ds:List D) (M:Mem) (Q:bu),bf k (A.deeper (PyProof.Rows.envOfC qual (aq st) s.heap.objs.size f bQ))->sp ds M Q->
   ∃t,zU (lB di P w K mg base N qual (aq st) f bQ A outer s H E).sQ (aP st) t/\t {nx:=λ _ M'=>fin2 Q .aY M',rt:=fin2 Q} (dQ N ds) M):aX P w K mg base di (k+1) f fd ps (cw K sp):=by
 refine F.ok S (λ vs H Q E h=>?_) (λ bQ A outer s H vs Q E hr h=>?_)
 ·obtain⟨ds,M,Q2,hd,_,hs,_⟩:=h;rw[hd.length];exact len ds M Q2 hs
 ·obtain⟨ds,M,Q2,hd,hm,hs,kk⟩:=h;obtain⟨t,ht,q⟩:=bW bQ A outer s H E ds M Q2 hr hs;refine⟨_,ht,dQ N ds,M,_,jR hd,hm,q,⟨?_,?_,?_,?_⟩⟩
  ·exact λ σ' H' δ' M' _ cE t' ⟨og,s,q⟩=>kk _ H' .aY og (cq.mpr rfl) (cE.sub s) t' q
  ·exact λ v H' d M' jz cE t' ⟨og,s,q⟩=>kk v H' d og jz (cE.sub s) t' q
  ·exact λ σ' H' δ' M' _ cE t' q=>q
  ·exact λ σ' H' δ' M' _ cE t' q=>q
end
section
variable {X:Cx}{st:Stmt}{rest:List Stmt}{t u:fQ}{te:bJ}{e:Expr}{pos:Pos}
def wD:fQ:=λ E δ M=>E.nx δ M
def Bj(t u:fQ):fQ:=λ E δ M=>t {E with nx:=u E} δ M
theorem Gn:zU X [] wD:=uQ GP λ E σ H ⟨δ,M,D2,hs,hm,q,k⟩=>k.nx σ H δ M hs hm (ah.refl H) q
theorem Gm(h:QS X st t):zU X [st] t:=jj h
theorem BL(h1:QS X st t)(h2:zU X rest u):zU X (st::rest) (Bj t u):=uQ (sN h1 h2) λ E σ H ⟨δ,M,D2,hs,hm,q,k⟩=>by refine⟨δ,M,_,hs,hm,q,⟨λ σ' H' δ' M' jv cE t' q'=>?_,k.rt,k.bk,k.ct⟩⟩;exact⟨δ',M',D2,jv,cE,q',k.mono t'⟩
def Bm:fQ:=λ _ _ _=>False
theorem yK{aL:List Stmt}:zU X aL Bm:=uQ yN λ E σ H ⟨δ,M,D2,hs,hm,q,k⟩=>q.elim
def sg(te:bJ):fQ:=λ E δ M=>te δ M λ _ M1=>E.nx δ M1
theorem Gq(he:QE X e te)(hs:swapsWith e none pos.line X.env=pure false:=by rfl):QS X (.Expr e pos) (sg te):=eZ (qF he hs) λ E σ H ⟨δ,M,D2,hs,hm,q,k⟩=>
 ⟨δ,M,_,hs,hm,q,λ x H1 d M1 hd bG t1 q1=>k.nx σ H1 δ M1 (hs.mono t1) bG t1 q1⟩
def Kq(te:bJ):fQ:=λ E δ M=>te δ M E.rt
theorem Lb(he:QE X e te):QS X (.Return (some e) pos) (Kq te):=eZ (uS he) λ E σ H ⟨δ,M,D2,hs,hm,q,k⟩=>⟨δ,M,_,hs,hm,q,k.rt⟩
def FF(c:dN)(t u:fQ):fQ:=λ E δ M=>c δ M λ b M1=>if b=true then t E δ M1 else u E δ M1
theorem OR{c:Expr}{a b:List Stmt}{tc:dN}(hc:QT X c tc)(ha:zU X a t)(hb:zU X b u):QS X (.If c a b pos) (FF tc t u):=eZ (O2 hc ha hb) λ E σ H ⟨δ,M,D2,hs,hm,q,k⟩=>by
 refine⟨δ,M,_,hs,hm,q,λ b H1 M1 bG t1 q1=>?_⟩;cases b with
 |true=>rw[J0 rfl]at q1 ⊢;exact⟨δ,M1,D2,hs.mono t1,bG,q1,k.mono t1⟩
 |false=>rw[J7 r0]at q1 ⊢;exact⟨δ,M1,D2,hs.mono t1,bG,q1,k.mono t1⟩
abbrev iz:=D->bY->Mem->(bY->Mem->Prop)->Prop
abbrev nY:=List D->bY->Mem->(bY->Mem->Prop)->Prop
def JR(K:J8)(t:iz):TG:=λ v σ H Q=>∃d δ M Q2,Dat K H d v/\bF K H δ σ/\RelM K H M/\t d δ M Q2/\kX K H Q2 Q
def SR(K:J8)(t:nY):ya:=λ vs σ H Q=>∃ds δ M Q2,ay K H ds vs/\bF K H δ σ/\RelM K H M/\t ds δ M Q2/\kX K H Q2 Q
abbrev QG(X:Cx)(tg:Expr)(t:iz):Prop:=PG X tg (JR X.K t)
abbrev Rx(X:Cx)(tg:List Expr)(t:nY):Prop:=ND X tg (SR X.K t)
theorem Cd{tg:Expr}{g g':TG}(h:PG X tg g)(k:∀v σ H Q,g' v σ H Q->g v σ H Q):PG X tg g':=λ pins s σ H v u Q I r q=>h pins s σ H v u Q I r (k v σ H Q q)
theorem Cb{tg:List Expr}{g g':ya}(h:ND X tg g)(k:∀v σ H Q,g' v σ H Q->g v σ H Q):ND X tg g':=λ pins s σ H v u Q I r q=>h pins s σ H v u Q I r (k v σ H Q q)
def hName(i:Nat):iz:=λ d δ M Q=>Q (δ.set i (some d)) M
theorem h_{K:J8}{i:Nat}:∀v σ H Q,JR K (hName i) v σ H Q->cL i v σ H Q:=λ v σ H Q ⟨d,δ,M,Q2,hd,hs,hm,q,k⟩=>k _ H _ M (hs.set hd) hm (ah.refl H) q
theorem GB{i:Nat}{x:Str}(hN:X.N.Nodup)(hi:X.N[i]?=some x)(hx:Loc X.env.scope x)(hf:X.fn x=true\/X.env.scope.names.lookup x=some .local:=by first|exact .inl rfl|exact .inr rfl|assumption):QG X (.Name x pos) (hName i):=
 Cd (lQ hN hi hx hf) h_
def tw:nY:=λ ds δ M Q=>match ds with
 |[]=>Q δ M
 |_=>False
def dq(t:iz)(u:nY):nY:=λ ds δ M Q=>match ds with
 |d::r=>t d δ M λ δ' M'=>u r δ' M' Q
 |_=>False
theorem GA:Rx X [] tw:=Cb wZ λ v σ H Q ⟨ds,δ,M,Q2,hd,hs,hm,q,k⟩=>by
 cases ds with
 |nil=>exact⟨av.mp hd,k _ H _ M hs hm (ah.refl H) q⟩
 |cons d r=>exact q.elim
theorem BP{e:Expr}{es:List Expr}{t:iz}{u:nY}(h1:QG X e t)(h2:Rx X es u) (hs:(assignEach (e::es) X.env).map (·.2)=assign e X.env::(assignEach es X.env).map (·.2):=by rfl):Rx X (e::es) (dq t u):=Cb (mY h1 h2 hs) λ v σ H Q ⟨ds,δ,M,Q2,hd,hs,hm,q,k⟩=>by
 cases ds with
 |nil=>exact q.elim
 |cons d r=>obtain⟨x,xs,rfl,hx,XI⟩:=aj.mp hd;refine⟨x,xs,rfl,d,δ,M,_,hx,hs,hm,q,λ σ' H' δ' M' jv cE t' q'=>?_⟩;exact⟨r,δ',M',Q2,ay.mono t' r XI,jv,cE,q',k.mono t'⟩
def tu(n:Nat)(t:nY):iz:=λ d δ M Q=>match d with
 | .tup ds=>ds.length=n/\t ds δ M Q
 |_=>False
theorem Lf{es:List Expr}{k:Nat}{t:nY}{n:Nat}(hc:X.calm=true)(h:Rx X es t) (hn:(assignEach es X.env).length=n:=by rfl) (hst:(assignEach es X.env).findIdx? (·.1)=none:=by rfl):QG X (.Tuple es k pos) (tu n t):=Cd (Cc hc h hn hst) λ v σ H Q ⟨d,δ,M,Q2,hd,hs,hm,q,k⟩=>by
 cases d with
 |tup ds=>obtain⟨p,xs,rfl,hq,hx⟩:=aW.mp hd;exact⟨p,xs,rfl,hq,by rw[hx.length];exact q.1,ds,δ,M,Q2,hx,hs,hm,q.2,k⟩
 |_=>exact q.elim
abbrev jH:=D->D->D->Mem->(Mem->Prop)->Prop
def RF(K:J8)(H:Hp)(N2:Mem->Prop)(N:Hp->Prop):Prop:=∀H' M',RelM K H' M'->ah H H'->N2 M'->N H'
def NA(K:J8)(r:zR)(r2:jH):Prop:=∀o i v d j e H M Q2 Q,Dat K H d o->Dat K H j i->Dat K H e v->RelM K H M->r2 d j e M Q2->RF K H Q2 Q->r o i v H Q
def Em(X:Cx)(r2:jH):Prop:=∃r,rG X r/\NA X.K r r2
def hSub(to ti:bJ)(t:jH):iz:=λ e δ M Q=>to δ M λ d M1=>ti δ M1 λ j M2=>t d j e M2 λ M3=>Q δ M3
theorem Lg{o i:Expr}{to ti:bJ}{t:jH}(ho:QE X o to)(hi:QE X i ti)(hs:Em X t) (ha:∀v,assign (.Subscript o i pos) X.env v=(do
   let ov <- holding [v] (eval o X.env)
   let iv <- holding [v,ov] (eval i X.env)
   standAt pos
   holding [v,ov,iv] (setItem ov iv v)
   release [v,ov,iv] []):=by intro _;rfl):QG X (.Subscript o i pos) (hSub to ti t):=by
 obtain⟨r,h1,hr⟩:=hs;refine Cd (Ly ho hi h1 ha) ?_;rintro v σ H Q ⟨e,δ,M,Q2,hd,hs,hm,q,k⟩;refine⟨δ,M,_,hs,hm,q,λ x H1 d M1 hx bG t1 q1=>?_⟩;refine⟨δ,M1,_,hs.mono t1,bG,q1,λ y H2 j M2 hy jw t2 q2=>?_⟩;exact hr x y v d j e H2 M2 _ _ (Dat.mono t2 d hx) hy (Dat.mono (t1.trans t2) e hd) jw q2 λ H3 M3 MI t3 q3=>k σ H3 δ M3 (hs.mono (t1.trans (t2.trans t3))) MI (t1.trans (t2.trans t3)) q3
def oB(te:bJ)(g:iz):fQ:=λ E δ M=>te δ M λ d M1=>g d δ M1 E.nx
theorem nX{K:J8}{g:TG}{g2:iz}(hg:∀v σ H Q,JR K g2 v σ H Q->g v σ H Q):∀E σ H,SQ K (oB te g2) E σ H->AN (up K te) g E σ H:=by rintro E σ H ⟨δ,M,D2,hs,hm,q,k⟩;exact⟨δ,M,_,hs,hm,q,λ x H1 d M1 hd bG t1 q1=>hg x σ H1 _ ⟨d,δ,M1,_,hd,hs.mono t1,bG,q1,k.nx.mono t1⟩⟩
theorem Ld{tg e:Expr}{g:iz}(he:QE X e te)(hg:QG X tg g)(hs:swapsWithSole [tg] e pos.line X.env=pure false:=by rfl)(hw:swappedStores [tg] e X.env=pure none:=by rfl) (h1:(assignEach [tg] X.env).map (·.2)=[assign tg X.env]:=by rfl):QS X (.Assign [tg] e pos) (oB te g):=eZ (Lw he hg hs hw h1) (nX λ _ _ _ _ h=>h)
theorem La{i:Nat}{x:Str}{e:Expr}{pos':Pos}(hN:X.N.Nodup)(hi:X.N[i]?=some x)(hx:Loc X.env.scope x)(he:QE X e te)(hs:swapsWith e (some (.Name x pos')) pos.line X.env=pure false:=by rfl) (hf:X.fn x=true\/X.env.scope.names.lookup x=some .local:=by first|exact .inl rfl|exact .inr rfl|assumption):QS X (.Assign [.Name x pos'] e pos) (oB te (hName i)):=eZ (Ls hN hi hx he hs hf) (nX h_)
end
end L3
namespace L3
open PySem PySem.Spec L2
inductive Src where
 |fix (ds:List D)
 |at(a:Addr)
 |fn (f:Mem->Option (List D))
def items(s:Src)(M:Mem):Option (List D):=match s with
 | .fix ds=>some ds
 | .at a=>match M a with
  |some (.lst ds)=>some ds
  |_=>none
 | .fn f=>f M
def tY(K:J8)(H1:Hp)(J:It)(src:Src):Prop:=∀H M ds,ah H1 H->RelM K H M->items src M=some ds->
 (∀i,i < ds.length->J.go i H)/\(∀i,i=ds.length->J.stop i H)/\(∀i x H',i < ds.length->J.EO i H x H'->ah H H'/\RelM K H' M/\∃d,ds[i]?=some d/\Dat K H' d x)
abbrev qj:=bY->Mem->(Src->Mem->Prop)->Prop
def RJ(K:J8)(t:qj):TI:=λ σ H R=>∃δ M R2,bF K H δ σ/\RelM K H M/\t δ M R2/\∀J H' src M',tY K H' J src->RelM K H' M'->ah H H'->R2 src M'->R J H'
abbrev QI(X:Cx)(tg iter:Expr)(t:qj):Prop:=PI X tg iter (RJ X.K t)
theorem Ca{X:Cx}{tg iter:Expr}{t t':TI}(h:PI X tg iter t)(k:∀σ H R,t' σ H R->t σ H R):PI X tg iter t':=λ pins s σ H R I q=>h pins s σ H R I (k σ H R q)
def jS(z:Str):List D:=z.cps.toList.map λ c=>D.str ⟨#[c]⟩
def fA(lo:Int)(n:Nat):List D:=(List.range n).map λ i=>D.int (lo+(i:Nat))
theorem bN(lo:Int)(n:Nat):(fA lo n).length=n:=by simp[fA]
theorem mV{lo:Int}{n i:Nat}(h:i < n):(fA lo n)[i]?=some (.int (lo+(i:Nat))):=by simp[fA,h]
theorem CV{K:J8}{H1:Hp}{z:Str}:tY K H1 (N4 z) (.fix (jS z)):=λ H M ds t hm e=>by
 cases e;have hl:(jS z).length=z.cps.size:=by simp[jS]
 refine⟨λ i hi=>by rw[hl]at hi;exact hi,λ i hi=>by rw[hl]at hi;exact hi,λ i x H' hi y=>?_⟩;obtain⟨e,c,hc,rfl⟩:=y;subst e;refine⟨ah.refl _,hm,.str ⟨#[c]⟩,?_,aI.mpr rfl⟩;simp[jS,hc]
theorem CU{K:J8}{H1:Hp}{a:Addr}{xs:List V}{ds:List D}(h:gb K H1 a xs)(hd:ay K H1 ds xs):tY K H1 (Vd K a) (.fix ds):=λ H M es t hm e=>by cases e;have hq:=AU t h;have hx:=ay.mono t ds hd;have hl:=hx.length;refine⟨λ i hi=>⟨xs,xs[i]'(by omega),hq,by simp[hl,hi]⟩,λ i hi=>⟨xs,hq,by omega⟩,λ i x H' hi y=>?_⟩;obtain⟨e,y⟩:=y;obtain⟨d,h1,h2⟩:=hx.DA (y xs hq);subst e;exact⟨ah.refl _,hm,d,h1,h2⟩
theorem CW{K:J8}{H1:Hp}{a:Addr}:tY K H1 (SE K a) (.at a):=λ H M ds t hm e=>by
 have e:(match M a with|some (.lst ds)=>some ds|_=>none)=some ds:=e;cases q:M a with
 |none=>rw[q]at e;cases e
 |some o=>
  cases o with
  |bI b kvs=>rw[q]at e;cases e
  |hX x=>rw[q]at e;cases e
  |lst es=>rw[q]at e;have e:es=ds:=A6 e;subst e;obtain⟨xs,hx,hd⟩:=hm a _ q;have hq:fb K H a xs:=fb.of hx;have hl:=hd.length;refine⟨λ i hi=>⟨xs,xs[i]'(by omega),hq,by simp[hl,hi]⟩,λ i hi=>⟨xs,hq,by omega⟩,λ i x H' hi y=>?_⟩;obtain⟨e,y⟩:=y;obtain⟨d,h1,h2⟩:=hd.DA (y xs hq);subst e;exact⟨ah.refl _,hm,d,h1,h2⟩
theorem HS{K:J8}{H1:Hp}{a:Addr}{xs:List V}{ds:List D}(h:EN K H1 a xs)(hd:ay K H1 ds xs):tY K H1 (SE K a) (.fix ds):=λ H M es t hm e=>by cases e;have hq:=(DE t h).sq;have hx:=ay.mono t ds hd;have hl:=hx.length;refine⟨λ i hi=>⟨xs,xs[i]'(by omega),hq,by simp[hl,hi]⟩,λ i hi=>⟨xs,hq,by omega⟩,λ i x H' hi y=>?_⟩;obtain⟨e,y⟩:=y;obtain⟨d,h1,h2⟩:=hx.DA (y xs hq);subst e;exact⟨ah.refl _,hm,d,h1,h2⟩
theorem vi{K:J8}{H1:Hp}{lo:Int}{n:Nat}:tY K H1 (SD lo n) (.fix (fA lo n)):=λ H M ds t hm e=>by cases e;rw[bN];refine⟨λ i hi=>hi,λ i hi=>Nat.le_of_eq hi.symm,λ i x H' hi y=>?_⟩;obtain⟨e,rfl⟩:=y;subst e;exact⟨ah.refl _,hm,_,mV hi,aw.mpr rfl⟩
section
variable {X:Cx}{tg l:Expr}{tl:bJ}{ta:dE}{a b:Expr}{p pos:Pos}
def Mt(tl:bJ):qj:=λ δ M R=>tl δ M λ d M1=>match d with
 | .str z=>R (.fix (jS z)) M1
 | .tup ds=>R (.fix ds) M1
 | .fl ds=>R (.fix ds) M1
 | .ref a=>match M1 a with
  |some (.lst _)=>R (.at a) M1
  |_=>False
 |_=>False
theorem Le(hl:QE X l tl):QI X tg l (Mt tl):=Ca (Lx hl) λ σ H R ⟨δ,M,R2,hs,hm,q,k⟩=>by
 refine⟨δ,M,_,hs,hm,q,λ x H1 d M1 hd bG t1 q1=>?_⟩;cases d with
 |str z=>cases(aI.mp hd);exact k _ H1 _ M1 CV bG t1 q1
 |tup ds=>obtain⟨p,xs,rfl,hq,hx⟩:=aW.mp hd;exact .inr ⟨xs,hq,k _ H1 _ M1 (CU hq hx) bG t1 q1⟩
 |fl ds=>obtain⟨p,xs,rfl,hq,hx⟩:=km.mp hd;exact .inl ⟨xs,hq.sq,k _ H1 _ M1 (HS hq hx) bG t1 q1⟩
 |ref a=>
  cases(aG.mp hd);have q1:(match M1 a with|some (.lst _)=>R2 (.at a) M1|_=>False):=q1;cases e:M1 a with
  |none=>rw[e]at q1;exact q1.elim
  |some o=>
   cases o with
   |bI b kvs=>rw[e]at q1;exact q1.elim
   |hX x=>rw[e]at q1;exact q1.elim
   |lst es=>rw[e]at q1;obtain⟨xs,hx,_⟩:=bG a _ e;exact .inl ⟨xs,fb.of hx,k _ H1 _ M1 CW bG t1 q1⟩
 |_=>exact q1.elim
def Ve(j:Int):Prop:= -(2^62)<=j/\j < 2^62
theorem fH{j:Int}(h0: -1000000000<=j)(h1:j<=1000000000):Ve j:=by
 constructor
 ·exact Int.le_trans (by decide) h0
 ·exact u9 h1 (by decide)
def CS(ta:dE):qj:=λ δ M R=>ta δ M λ ds M1=>match ds with
 |[.int j]=>Ve j/\R (.fix (fA 0 j.toNat)) M1
 |_=>False
theorem yM(hg:Gl X "range")(hm:X.mg "range"=none)(ha:QA X [a] ta)(hs:starEach [a] X.env=[(false,eval a X.env)]:=by rfl):QI X tg (.Call (.Name "range" p) [a] [] pos) (CS ta):=Ca (yR hg hm ha hs) λ σ H R ⟨δ,M,R2,hs,hm,q,k⟩=>by
 refine⟨δ,M,_,hs,hm,q,λ xs H1 ds M1 hd bG t1 q1=>?_⟩;cases ds with
 |nil=>exact q1.elim
 |cons d r=>
  cases r with
  |cons d2 r2=>cases d <;> exact q1.elim
  |nil=>
   cases d with
   |int j=>obtain⟨x,r,rfl,hx,hr⟩:=aj.mp hd;cases(av.mp hr);cases(aw.mp hx);obtain⟨⟨b1,b2⟩,q1⟩:=q1;exact⟨j,rfl,b1,b2,k _ H1 _ M1 vi bG t1 q1⟩
   |_=>exact q1.elim
end
end L3
namespace L3
open PySem PySem.Spec L2
def Kt(wi:qj)(g:iz)(tb:fQ):fQ:=λ E δ M=>wi δ M λ src M1=>∃(B:Nat) (W:Nat->bY->Mem->Prop),W 0 δ M1/\∀i δ M,W i δ M->i<=B/\match items src M with
 |none=>False
 |some ds=>match ds[i]? with
  |none=>i=ds.length/\E.nx δ M
  |some d=>g d δ M λ δ2 M2=>tb {E with nx:=W (i+1),ct:=W (i+1),bk:=E.nx} δ2 M2
section
variable {X:Cx}{tg iter:Expr}{wi:qj}{g:iz}{tb:fQ}{body:List Stmt}{pos:Pos}
theorem Lc(hp:PassesOwn (model X.prog X.w) X.A X.env X.xe)(hc:X.calm=true)(hi:QI X tg iter wi)(hg:QG X tg g)(hb:zU X body tb)(hs:∀x,foldedSetIterable iter X.env x=pure x:=by intro _;rfl):QS X (.For tg iter body [] pos) (Kt wi g tb):=eZ (Lu hp hc hi hg hb hs) λ E σ H ⟨δ,M,D2,hs,hm,q,k⟩=>by
 refine⟨δ,M,_,hs,hm,q,λ J H1 src M1 ok bG t1 q1=>?_⟩;obtain⟨B,W,w0,turn⟩:=q1;refine⟨λ i m σ' H'=>m=B+1 - i/\∃δ' M',bF X.K H' δ' σ'/\RelM X.K H' M'/\ah H1 H'/\W i δ' M',⟨B+1,rfl,δ,M1,hs.mono t1,bG,ah.refl _,w0⟩,?_⟩;rintro i m σ' H' ⟨rfl,δ',M',jv,cE,t',w'⟩;obtain⟨hB,h⟩:=turn i δ' M' w';cases ei:items src M' with
 |none=>rw[ei]at h;exact h.elim
 |some ds=>
  rw[ei]at h;obtain⟨go,stop,EO⟩:=ok H' M' ds t' cE ei;cases ed:ds[i]? with
  |none=>simp only[ed]at h;exact .inl ⟨stop i h.1,k.nx σ' H' δ' M' jv cE (t1.trans t') h.2⟩
  |some d=>
   simp only[ed]at h;have Qw:i < ds.length:=(i4.mp ed).1;refine .inr ⟨go i Qw,λ σ2 H2=>∃δ2 M2,bF X.K H2 δ2 σ2/\RelM X.K H2 M2/\ah H1 H2/\W (i+1) δ2 M2,λ σ2 H2 ⟨δ2,M2,a,b,c,w2⟩=>⟨B+1 - (i+1),by omega,rfl,δ2,M2,a,b,c,w2⟩,λ x H2 y=>?_⟩;obtain⟨t2,jw,d',e',jz⟩:=EO i x H2 Qw y;rw[ed]at e';cases e';refine⟨d,δ',M',_,jz,jv.mono t2,jw,h,λ σ3 H3 δ3 M3 R9 MI t3 q3=>?_⟩;refine⟨δ3,M3,_,R9,MI,q3,⟨?_,?_,?_,?_⟩⟩
   ·exact λ σ4 H4 δ4 M4 a b c w4=>⟨δ4,M4,a,b,t'.trans (t2.trans (t3.trans c)),w4⟩
   ·exact k.rt.mono (t1.trans (t'.trans (t2.trans t3)))
   ·exact k.nx.mono (t1.trans (t'.trans (t2.trans t3)))
   ·exact λ σ4 H4 δ4 M4 a b c w4=>⟨δ4,M4,a,b,t'.trans (t2.trans (t3.trans c)),w4⟩
end
end L3
namespace L3
open PySem PySem.Spec L2
def uF(c:dN)(tb:fQ):fQ:=λ E δ M=>∃W:Nat->bY->Mem->Prop,(∃m,W m δ M)/\∀m δ M,W m δ M->c δ M λ b M1=>
 if b=true then ∃N:bY->Mem->Prop,(∀δ' M',N δ' M'->∃m',m' < m/\W m' δ' M')/\tb {E with nx:=N,ct:=N,bk:=E.nx} δ M1 else E.nx δ M1
section
variable {X:Cx}{c:Expr}{tc:dN}{tb:fQ}{body:List Stmt}{pos:Pos}
theorem BM(hp:PassesOwn (model X.prog X.w) X.A X.env X.xe)(hc:QT X c tc)(hb:zU X body tb):QS X (.While c body [] pos) (uF tc tb):=eZ (BU hp hc hb) λ E σ H ⟨δ,M,D2,hs,hm,q,k⟩=>by
 obtain⟨W,⟨m0,w0⟩,turn⟩:=q;refine⟨λ m σ' H'=>∃δ' M',bF X.K H' δ' σ'/\RelM X.K H' M'/\ah H H'/\W m δ' M',⟨m0,δ,M,hs,hm,ah.refl _,w0⟩,?_⟩;rintro m σ' H' ⟨δ',M',jv,cE,t',w'⟩;refine⟨δ',M',_,jv,cE,turn m δ' M' w',λ b H1 M1 bG t1 q1=>?_⟩;cases b with
 |false=>simp only[r9,G7]at q1;exact k.nx σ' H1 δ' M1 (jv.mono t1) bG (t'.trans t1) q1
 |true=>
  simp only[if_true]at q1;obtain⟨N,hN,q1⟩:=q1;refine⟨λ σ2 H2=>∃δ2 M2,bF X.K H2 δ2 σ2/\RelM X.K H2 M2/\ah H H2/\N δ2 M2,λ σ2 H2 ⟨δ2,M2,a,b,c,n2⟩=>?_,?_⟩
  ·obtain⟨m',cE,w2⟩:=hN δ2 M2 n2;exact⟨m',cE,δ2,M2,a,b,c,w2⟩
  ·refine⟨δ',M1,_,jv.mono t1,bG,q1,⟨?_,?_,?_,?_⟩⟩
   ·exact λ σ4 H4 δ4 M4 a b c w4=>⟨δ4,M4,a,b,t'.trans (t1.trans c),w4⟩
   ·exact k.rt.mono (t'.trans t1)
   ·exact k.nx.mono (t'.trans t1)
   ·exact λ σ4 H4 δ4 M4 a b c w4=>⟨δ4,M4,a,b,t'.trans (t1.trans c),w4⟩
end
end L3
namespace L3
open PySem PySem.Spec L2
def iO(n:Nat)(fr:List Nat)(δ:bY):bY:=List.replicate n none++fr.map (λ j=>δ.getD j none)
theorem II{K:J8}{H:Hp}{δ:bY}{σ:L2.St}(h:bF K H δ σ)(n:Nat)(fr:List Nat):bF K H (iO n fr δ) (eG n fr σ):=by
 refine⟨by simp[iO,eG],λ i d e=>?_⟩;unfold iO at e;by_cases hi:i < n
 ·rw[h8 (by simpa using hi),j0,J0 hi]at e;cases e
 ·rw[c5 (by simpa using hi),l8,x3]at e;cases ej:fr[i - n]? with
  |none=>rw[ej]at e;cases e
  |some j=>
   rw[ej]at e;have e:δ.getD j none=some d:=A6 e;have hj:j < δ.length:=by refine Nat.lt_of_not_le λ z=>?_;rw[c6,getElem?_eq_none z]at e;cases e
   have e':δ[j]?=some (some d):=by rw[c6,i7 hj]at e;rw[i7 hj];exact G8 some e
   obtain⟨v,hv,r⟩:=h.get j d e';refine⟨v,?_,r⟩;unfold eG;rw[c5 (by simpa using hi),l8,x3,ej];simp[c6,hv]
def mO(wi:qj)(g:iz)(tt:dN)(te:bJ)(n:Nat)(fr:List Nat):bY->Mem->(List D->Mem->Prop)->Prop:=λ δ M Q=>wi δ M λ src M1=>∃(B:Nat) (W:Nat->List D->Mem->Prop),W 0 [] M1/\∀i acc M,W i acc M->i<=B/\acc.length<=sizeLine/\match items src M with
 |none=>False
 |some ds=>match ds[i]? with
  |none=>i=ds.length/\Q acc M
  |some d=>g d (iO n fr δ) M λ δ2 M2=>tt δ2 M2 λ b M3=>if b=true then te δ2 M3 λ y M4=>W (i+1) (acc++[y]) M4 else W (i+1) acc M3
theorem kr{K:J8}{wi:qj}{g:iz}{tt:dN}{te:bJ}{n:Nat}{fr:List Nat}{Qe:List D->Mem->Prop}{σ:L2.St}{δ:bY}{H:Hp}{M:Mem}{Q:V->Hp->Prop}{gv:TG}(Yv:∀v σ H Q,JR K g v σ H Q->gv v σ H Q)(hs:bF K H δ σ)(hm:RelM K H M)(q:mO wi g tt te n fr δ M Qe) (k:∀acc xs H' M' p,ay K H' acc xs->RelM K H' M'->ah H H'->acc.length<=sizeLine->H' p=none->Qe acc M'->Q (.ref p) (upd H' p (.lst xs))):rU (RJ K wi) gv (Ez K tt) (up K te) n fr σ H Q:=by
 refine⟨δ,M,_,hs,hm,q,λ J H1 src M1 ok bG t1 q1=>?_⟩;obtain⟨B,W,w0,turn⟩:=q1;refine⟨λ i m xs H'=>m=B+1 - i/\∃acc M',ay K H' acc xs/\RelM K H' M'/\ah H1 H'/\W i acc M',⟨B+1,rfl,[],M1,by rw[av],bG,ah.refl _,w0⟩,?_⟩;rintro i m xs H' ⟨rfl,acc,M',jz,cE,t',w'⟩;obtain⟨hB,hz,h⟩:=turn i acc M' w';refine⟨by rw[jz.length];exact hz,?_⟩;cases ei:items src M' with
 |none=>rw[ei]at h;exact h.elim
 |some ds=>
  rw[ei]at h;obtain⟨go,stop,EO⟩:=ok H' M' ds t' cE ei;cases ed:ds[i]? with
  |none=>simp only[ed]at h;exact .inl ⟨stop i h.1,λ p hp=>k acc xs H' M' p jz cE (t1.trans t') hz hp h.2⟩
  |some d=>
   simp only[ed]at h;have Qw:i < ds.length:=(i4.mp ed).1;refine .inr ⟨go i Qw,λ ys H2=>∃IT M2,ay K H2 IT ys/\RelM K H2 M2/\ah H1 H2/\W (i+1) IT M2,λ ys H2 ⟨IT,M2,a,b,c,w2⟩=>⟨B+1 - (i+1),by omega,rfl,IT,M2,a,b,c,w2⟩,λ x H2 y=>?_⟩;obtain⟨t2,jw,d',e',ED⟩:=EO i x H2 Qw y;rw[ed]at e';cases e';refine Yv _ _ _ _ ⟨d,iO n fr δ,M',_,ED,II (hs.mono (t1.trans (t'.trans t2))) n fr,jw,h,λ σ3 H3 δ3 M3 R9 MI t3 q3=>?_⟩;refine⟨δ3,M3,_,R9,MI,q3,λ b H4 M4 V4 t4 q4=>?_⟩;cases b with
   |false=>rw[J7 r0]at q4 ⊢;exact⟨acc,M4,ay.mono (t2.trans (t3.trans t4)) acc jz,V4,t'.trans (t2.trans (t3.trans t4)),q4⟩
   |true=>rw[J0 rfl]at q4 ⊢;exact⟨δ3,M4,_,R9.mono t4,V4,q4,λ yv H5 y5 M5 XE Yk t5 q5=>⟨acc++[y5],M5,(ay.mono (t2.trans (t3.trans (t4.trans t5))) acc jz).append (ay.one XE),Yk,t'.trans (t2.trans (t3.trans (t4.trans t5))),q5⟩⟩
section
variable {X:Cx}{scope:Scope}{bD:List Str}{fr:List Nat}{tg elt iter:Expr}{ifs:List Expr}{pos:Pos}{wi:qj}{g:iz}{tt:dN}{te:bJ}
abbrev Sz(X:Cx)(ifs:List Expr)(t:dN):Prop:=N3 X ifs (Ez X.K t)
def FD:dN:=λ _ M Q=>Q true M
theorem Gy:Sz X [] FD:=λ pins s σ H Q I h=>GW pins s σ H Q I (by
 obtain⟨δ,M,Q2,hs,hm,q,k⟩:=h;exact k _ _ _ hm (ah.refl H) q)
theorem Gx{c:Expr}{t:dN}(h:QT X c t):Sz X [c] t:=GV h
def Sw(X:Cx)(scope:Scope)(bD:List Str)(fr:List Nat)(tg:Expr)(g2:iz):Prop:=
 ∃g:TG,(∀cl C fp s H,PG (aS X scope cl bD fr C fp s H) tg g)/\iP bD.length g/\∀v σ H Q,JR X.K g2 v σ H Q->g v σ H Q
theorem Fo{i:Nat}{x:Str}{ps:Pos}(h:∀cl C fp s H,PG (aS X scope cl bD fr C fp s H) (.Name x ps) (cL i))(hi:i < bD.length):Sw X scope bD fr (.Name x ps) (hName i):=⟨_,h,qY hi,h_⟩
def Eo(g:TG):Prop:=∀x σ H Q Q',(∀σ' H',Q σ' H'->Q' σ' H')->g x σ H Q->g x σ H Q'
def rH(g:ya):Prop:=∀xs σ H Q Q',(∀σ' H',Q σ' H'->Q' σ' H')->g xs σ H Q->g xs σ H Q'
theorem qX{i:Nat}:Eo (cL i):=λ x σ H Q Q' k q=>k _ _ q
theorem Dz:rH vz:=λ xs σ H Q Q' k q=>⟨q.1,k _ _ q.2⟩
theorem Ig{t:TG}{u:ya}(ht:Eo t)(hu:rH u):rH (gK t u):=λ xs σ H Q Q' k ⟨v,r,e,q⟩=>⟨v,r,e,ht v σ H _ _ (λ σ' H' q'=>hu r σ' H' _ _ k q') q⟩
theorem xD{n:Nat}{t:TG}{u:ya}(h:iP n t)(k:mq n u)(ht:Eo t)(hu:rH u):mq n (gK t u):=λ xs σ H Q ⟨v,r,e,q⟩=>by refine⟨v,r,e,ht v σ H _ _ (λ σ' H' ⟨q',l',k'⟩=>?_) (h v σ H _ q)⟩;refine hu r σ' H' _ _ (λ σ2 H2 ⟨q2,l2,k2⟩=>⟨q2,l2.trans l',λ j hj=>(k2 j hj).trans (k' j hj)⟩) (k r σ' H' _ q')
theorem MW{K:J8}{m n:Nat}{t:ya}(h:mq m t):iP m (zx K n t):=λ x σ H Q ⟨a,xs,e,hq,hl,q⟩=>⟨a,xs,e,hq,hl,h xs σ H _ q⟩
theorem yy{K:J8}{i j:Nat}:∀v σ H Q,JR K (tu 2 (dq (hName i) (dq (hName j) tw))) v σ H Q->zx K 2 (gK (cL i) (gK (cL j) vz)) v σ H Q:=λ v σ H Q ⟨d,δ,M,Q2,hd,hs,hm,q,k⟩=>by
 cases d with
 |tup ds=>
  obtain⟨p,xs,rfl,hq,hx⟩:=aW.mp hd;obtain⟨hl,q⟩:=q
  match ds,hl,hx,q with
  |[a,b],hl,hx,q=>obtain⟨x,r,rfl,ha,hx⟩:=aj.mp hx;obtain⟨y,r,rfl,hb,hx⟩:=aj.mp hx;cases(av.mp hx);exact⟨p,[x,y],rfl,hq,rfl,x,[y],rfl,y,[],rfl,rfl,k _ H _ M ((hs.set ha).set hb) hm (ah.refl H) q⟩
 |_=>exact q.elim
theorem Fm{i j k:Nat}{x y:Str}{px py pt:Pos}(h:∀cl C fp s H,PG (aS X scope cl bD fr C fp s H) (.Tuple [.Name x px,.Name y py] k pt) (zx X.K 2 (gK (cL i) (gK (cL j) vz))))(hi:i < bD.length)(hj:j < bD.length):Sw X scope bD fr (.Tuple [.Name x px,.Name y py] k pt) (tu 2 (dq (hName i) (dq (hName j) tw))):=
 ⟨_,h,MW (xD (qY hi) (xD (qY hj) MX qX Dz) qX (Ig qX Dz)),yy⟩
def om(X:Cx)(scope:Scope)(bD:List Str)(fr:List Nat)(tg iter:Expr)(ifs:List Expr)(elt:Expr)(wi:qj)(g:iz)(tt:dN)(te:bJ):Prop:=
 gW X scope fr/\X.calm=true/\(∀e s,X.xe e s->False)/\QI X tg iter wi/\Sw X scope bD fr tg g/\(∀cl C fp s H,Sz (aS X scope cl bD fr C fp s H) ifs tt)/\(∀cl C fp s H,QE (aS X scope cl bD fr C fp s H) elt te)
def sh(wi:qj)(g:iz)(tt:dN)(te:bJ)(n:Nat)(fr:List Nat):bJ:=λ δ M Q=>mO wi g tt te n fr δ M λ ds M'=>∀p,M' p=none->Q (.ref p) (af M' p (.lst ds))
theorem Lm(C:om X scope bD fr tg iter ifs elt wi g tt te)(hs:∀x,foldedSetIterable iter X.env x=pure x:=by intro _;rfl):QE X (.ListComp elt [⟨tg,iter,ifs,0⟩] scope pos) (sh wi g tt te bD.length fr):=by obtain⟨B,hc,hE,hi,⟨gv,hg,gk,gl⟩,ht,he⟩:=C;refine bK (qH (tt:=Ez X.K tt) (te:=up X.K te) B hc hE hi hg gk ht he hs) ?_;rintro σ H Q ⟨δ,M,Q2,hs,hm,q,k⟩;exact kr gl hs hm q λ acc xs H' M' p hd cE t' hz hp q'=>k _ _ (.ref p) _ (aG.mpr rfl) (dB hp hd cE) (t'.trans (ah.laid hp)) (q' p (cE.free hp))
theorem uO{i:Nat}{y:Str}{py gm:Pos}(hN:X.N.Nodup)(hiy:X.N[i]?=some y)(hy:Loc X.env.scope y)(C:om X scope bD fr tg iter ifs elt wi g tt te) (hsw:swapsWith (.ListComp elt [⟨tg,iter,ifs,0⟩] scope pos) (some (.Name y py)) gm.line X.env=pure true:=by rfl) (hf:X.fn y=true\/X.env.scope.names.lookup y=some .local:=by first|exact .inl rfl|exact .inr rfl|assumption) (hs:∀x,foldedSetIterable iter X.env x=pure x:=by intro _;rfl):QS X (.Assign [.Name y py] (.ListComp elt [⟨tg,iter,ifs,0⟩] scope pos) gm) (oB (sh wi g tt te bD.length fr) (hName i)):=by obtain⟨B,hc,hE,hi,⟨gv,hg,gk,gl⟩,ht,he⟩:=C;refine eZ (uR (tt:=Ez X.K tt) (te:=up X.K te) hN hiy hy B hc hE hi hg gk ht he hsw hf hs) ?_;rintro E σ H ⟨δ,M,D2,hs,hm,q,k⟩;exact kr gl hs hm q λ acc xs H' M' p hd cE t' hz hp q'=>k.nx _ _ _ _ (((hs.mono t').mono (ah.laid hp)).set (aG.mpr rfl)) (dB hp hd cE) (t'.trans (ah.laid hp)) (q' p (cE.free hp))
def yF(r3:List D->Mem->bu->Prop)(wi:qj)(g:iz)(tt:dN)(te:bJ)(n:Nat)(fr:List Nat):bJ:=λ δ M Q=>mO wi g tt te n fr δ M λ ds M'=>r3 ds M' Q
def kW(r2:List D->Mem->bu->Prop)(r3:List D->Mem->bu->Prop):Prop:=∀ds M p Q,M p=none->ds.length<=sizeLine->r3 ds M Q->r2 [.ref p] (af M p (.lst ds)) (fin2 Q)
theorem DL{K:J8}{H:Hp}{Q2:bu}{Q:VK}(k:iB K H Q2 Q):iB K H (fin2 Q2) Q:=λ v H' d M' hd hm t ⟨og,s,q⟩=>k v H' d og hd (hm.sub s) t q
variable {x:Str}{p:Pos}{id T:String}{bx:Pos}
theorem rS{r:List V->Hp->VK->Prop}{r2 r3:List D->Mem->bu->Prop}{gv:TG}(gl:∀v σ H Q,JR X.K g v σ H Q->gv v σ H Q)(hr:NC X.K r r2)(h3:kW r2 r3):∀σ H Q,up X.K (yF r3 wi g tt te bD.length fr) σ H Q->RN r (I_ (rU (RJ X.K wi) gv (Ez X.K tt) (up X.K te) bD.length fr) Oi) σ H Q:=by rintro σ H Q ⟨δ,M,Q2,hs,hm,q,k⟩;show rU (RJ X.K wi) gv (Ez X.K tt) (up X.K te) bD.length fr σ H (λ x H1=>r [x] H1 Q);refine kr gl hs hm q λ acc xs H' M' p hd cE t' hz hp q'=>?_;exact hr [.ref p] [.ref p] _ _ (fin2 Q2) Q (ay.one (aG.mpr rfl)) (dB hp hd cE) (h3 acc M' p Q2 (cE.free hp) hz q') (DL (k.mono (t'.trans (ah.laid hp))))
theorem Li{r2 r3:List D->Mem->bu->Prop}(o:dz X (.builtin id) r2)(h3:kW r2 r3)(hg:Gl X x)(hm:X.mg x=none)(hv:bootBuiltins x=some (.builtin id))(C:om X scope bD fr tg iter ifs elt wi g tt te)(hn:x≠"__name__":=by decide)(hdb:(x==("__debug__":Str))=false:=by decide) (hs:∀x,foldedSetIterable iter X.env x=pure x:=by intro _;rfl):QE X (.Call (.Name x p) [.ListComp elt [⟨tg,iter,ifs,0⟩] scope bx] [] pos) (yF r3 wi g tt te bD.length fr):=by obtain⟨B,hc,hE,hi,⟨gv,Qz,gk,gl⟩,ht,he⟩:=C;obtain⟨r,ho,hr⟩:=o;exact bK (jn ho hg hm hv (bU (qH (tt:=Ez X.K tt) (te:=up X.K te) B hc hE hi Qz gk ht he hs) gB) hn hdb) (rS gl hr h3)
theorem Lh{r2 r3:List D->Mem->bu->Prop}(o:dz X (.type T) r2)(h3:kW r2 r3)(hg:Gl X x)(hm:X.mg x=none)(hv:bootBuiltins x=some (.type T))(C:om X scope bD fr tg iter ifs elt wi g tt te)(hn:x≠"__name__":=by decide)(hdb:(x==("__debug__":Str))=false:=by decide) (hs:∀x,foldedSetIterable iter X.env x=pure x:=by intro _;rfl):QE X (.Call (.Name x p) [.ListComp elt [⟨tg,iter,ifs,0⟩] scope bx] [] pos) (yF r3 wi g tt te bD.length fr):=by obtain⟨B,hc,hE,hi,⟨gv,Qz,gk,gl⟩,ht,he⟩:=C;obtain⟨r,ho,hr⟩:=o;exact bK (pJ ho hg hm hv (bU (qH (tt:=Ez X.K tt) (te:=up X.K te) B hc hE hi Qz gk ht he hs) gB) hn hdb) (rS gl hr h3)
variable {o:Expr}{to:bJ}{name:Str}{apos:Pos}
end
end L3
namespace L3
open PySem PySem.Spec L2
section
variable {X:Cx}
def dI(C:Int->Int->Prop)(g:Int->Int->D):fh:=λ x y M Q=>match x,y with
 | .int i,.int j=>C i j/\Q (g i j) M
 |_,_=>False
def JH(g:Int->Int->D):fh:=λ x y M Q=>match x,y with
 | .int i,.int j=>Q (g i j) M
 |_,_=>False
theorem si{f:Value->Value->Sem Value}{C:Int->Int->Prop}{g:Int->Int->Int}(h:eJ X f (rI C λ i j=>.int (g i j))):ff X f (dI C λ i j=>.int (g i j)):=⟨_,h,λ x y d e H M Q2 Q hd he hm q k=>by
 cases d <;> cases e <;> first
  |exact q.elim
  |(cases(aw.mp hd);cases(aw.mp he);exact⟨_,_,rfl,rfl,q.1,k _ H _ M (aw.mpr rfl) hm (ah.refl H) q.2⟩)⟩
theorem Xa{f:Value->Value->Sem Value}{g:Int->Int->Int}(h:eJ X f (EC λ i j=>.int (g i j))):ff X f (JH λ i j=>.int (g i j)):=⟨_,h,λ x y d e H M Q2 Q hd he hm q k=>by
 cases d <;> cases e <;> first
  |exact q.elim
  |(cases(aw.mp hd);cases(aw.mp he);exact⟨_,_,rfl,rfl,k _ H _ M (aw.mpr rfl) hm (ah.refl H) q⟩)⟩
theorem S_{f:Value->Value->Sem Value}{g:Int->Int->Bool}(h:eJ X f (EC λ i j=>.bl (g i j))):ff X f (JH λ i j=>.bl (g i j)):=⟨_,h,λ x y d e H M Q2 Q hd he hm q k=>by
 cases d <;> cases e <;> first
  |exact q.elim
  |(cases(aw.mp hd);cases(aw.mp he);exact⟨_,_,rfl,rfl,k _ H _ M (aH.mpr rfl) hm (ah.refl H) q⟩)⟩
theorem Jq:ff X (binaryOp .Sub) (JH λ i j=>.int (i - j)):=Xa LN
theorem gC:ff X (binaryOp .Mod) (dI (λ _ j=>0 < j) λ i j=>.int (i % j)):=si LS
theorem uZ:ff X (binaryOp .FloorDiv) (dI NL λ i j=>.int (i / j)):=si Hi
theorem Pw:ff X (binaryOp .Pow) (dI RI λ i j=>.int (i^j.toNat)):=si LP
theorem Cv:ff X (compareOp .Lt) (JH λ i j=>.bl (decide (i < j))):=S_ Pc
theorem yY:ff X (compareOp .Gt) (JH λ i j=>.bl (decide (j < i))):=S_ Pe
theorem TH:ff X (compareOp .GtE) (JH λ i j=>.bl (decide (j<=i))):=S_ Pf
def Iz:fh:=λ x y M Q=>match x,y with
 | .int i,.int j=>Q (.int (i+j)) M
 | .str i,.str j=>i.length+j.length<=sizeLine/\Q (.str (i++j)) M
 | .tup xs,.tup ys=>xs≠[]/\xs.length+ys.length<=sizeLine/\Q (.tup (xs++ys)) M
 | .ref a,.ref b=>match M a,M b with
  |some (.lst xs),some (.lst ys)=>xs.length+ys.length<=sizeLine/\∀p,M p=none->Q (.ref p) (af M p (.lst (xs++ys)))
  |_,_=>False
 |_,_=>False
theorem Pz:ff X (binaryOp .Add) Iz:=⟨_,LY.or (uX.or (LX.or Hj)),λ x y d e H M Q2 Q hd he hm q k=>by
 cases d with
 |int i=>
  cases e with
  |int j=>cases(aw.mp hd);cases(aw.mp he);exact .inl ⟨_,_,rfl,rfl,k _ H _ M (aw.mpr rfl) hm (ah.refl H) q⟩
  |_=>exact q.elim
 |str i=>
  cases e with
  |str j=>cases(aI.mp hd);cases(aI.mp he);exact .inr (.inl ⟨_,_,rfl,rfl,q.1,k _ H _ M (aI.mpr rfl) hm (ah.refl H) q.2⟩)
  |_=>exact q.elim
 |tup xs=>
  cases e with
  |tup ys=>
   obtain⟨p,vs,rfl,hp,hx⟩:=aW.mp hd;obtain⟨p2,ws,rfl,iJ,hy⟩:=aW.mp he;obtain⟨ie,hlen,q⟩:=q;refine .inr (.inr (.inr ⟨p,p2,vs,ws,rfl,rfl,hp,iJ,?_,by rw[hx.length,hy.length];exact hlen,?_⟩))
   ·intro z;have:=hx.length;rw[z]at this;exact ie (j5.mp this.symm)
   ·refine⟨λ hz=>?_,λ hz p3 Us=>?_⟩
    ·have XG:ys=[]:=by have:=hy.length;rw[hz]at this;exact j5.mp this.symm
     subst XG;rw[A1]at q;exact k _ H _ M (aW.mpr ⟨p,vs,rfl,hp,hx⟩) hm (ah.refl H) q
    ·exact k _ _ _ M (gY Us (hx.append hy)) (hm.laid Us) (ah.laid Us) q
  |_=>exact q.elim
 |ref a=>
  cases e with
  |ref b=>
   cases(aG.mp hd);cases(aG.mp he);have q:(match M a,M b with|some (.lst xs),some (.lst ys)=>xs.length+ys.length<=sizeLine/\∀p,M p=none->Q2 (.ref p) (af M p (.lst (xs++ys)))|_,_=>False):=q;cases ea:M a with
   |none=>rw[ea]at q;exact q.elim
   |some oa=>
    cases eb:M b with
    |none=>rw[ea,eb]at q;cases oa <;> exact q.elim
    |some ob=>
     cases oa with
     |bI b kvs=>rw[ea,eb]at q;exact q.elim
     |hX x=>rw[ea,eb]at q;exact q.elim
     |lst xs=>
      cases ob with
      |bI b kvs=>rw[ea,eb]at q;exact q.elim
      |hX x=>rw[ea,eb]at q;exact q.elim
      |lst ys=>rw[ea,eb]at q;obtain⟨vs,XR,dvs⟩:=hm a _ ea;obtain⟨ws,Ue,Wo⟩:=hm b _ eb;refine .inr (.inr (.inl ⟨a,b,vs,ws,rfl,rfl,XR,Ue,by rw[dvs.length,Wo.length];exact q.1,λ p hp=>?_⟩));exact k _ _ (.ref p) _ (aG.mpr rfl) (dB hp (dvs.append Wo) hm) (ah.laid hp) (q.2 p (hm.free hp))
  |_=>exact q.elim
 |_=>exact q.elim⟩
def Ng:fh:=λ x y M Q=>match x,y with
 | .int i,.int j=>rK i j/\Q (.int (i*j)) M
 | .str z,.int n=>MulOk z n/\Q (.str (Txt.mul z n)) M
 |_,_=>False
theorem Px:ff X (binaryOp .Mult) Ng:=⟨_,LR.or uW,λ x y d e H M Q2 Q hd he hm q k=>by
 cases d <;> cases e <;> first
  |exact q.elim
  |(cases(aw.mp hd);cases(aw.mp he);exact .inl ⟨_,_,rfl,rfl,q.1,k _ H _ M (aw.mpr rfl) hm (ah.refl H) q.2⟩)
  |(cases(aI.mp hd);cases(aw.mp he);exact .inr ⟨_,_,rfl,rfl,q.1,k _ H _ M (aI.mpr rfl) hm (ah.refl H) q.2⟩)⟩
def Ws:fh:=λ x y M Q=>match x,y with
 | .int i,.int j=>Q (.bl (decide (i<=j))) M
 | .str i,.str j=>Q (.bl (!decide (j.cps.toList < i.cps.toList))) M
 |_,_=>False
theorem TC:ff X (compareOp .LtE) Ws:=⟨_,Pd.or yU,λ x y d e H M Q2 Q hd he hm q k=>by
 cases d <;> cases e <;> first
  |exact q.elim
  |(cases(aw.mp hd);cases(aw.mp he);exact .inl ⟨_,_,rfl,rfl,k _ H _ M (aH.mpr rfl) hm (ah.refl H) q⟩)
  |(cases(aI.mp hd);cases(aI.mp he);exact .inr ⟨_,_,rfl,rfl,k _ H _ M (aH.mpr rfl) hm (ah.refl H) q⟩)⟩
def pZ:D->Option V
 | .aY=>some .aY
 | .bl b=>some (.bl b)
 | .int i=>some (.int i)
 | .str x=>some (.str x)
 |_=>none
theorem pY{K:J8}{H:Hp}{d:D}{x v:V}(e:pZ d=some v)(h:Dat K H d x):x=v:=by
 cases d with
 |aY=>cases e;exact cq.mp h
 |bl b=>cases e;exact aH.mp h
 |int i=>cases e;exact aw.mp h
 |str z=>cases e;exact aI.mp h
 |ty n=>exact absurd e (by intro z;cases z)
 |ref a=>exact absurd e (by intro z;cases z)
 |tup xs=>exact absurd e (by intro z;cases z)
 |fl xs=>exact absurd e (by intro z;cases z)
theorem nM{d:D}{v:V}(e:pZ d=some v):fV v=true:=by
 cases d with
 |aY=>cases e;rfl
 |bl b=>cases e;rfl
 |int i=>cases e;rfl
 |str z=>cases e;rfl
 |ty n=>exact absurd e (by intro z;cases z)
 |ref a=>exact absurd e (by intro z;cases z)
 |tup xs=>exact absurd e (by intro z;cases z)
 |fl xs=>exact absurd e (by intro z;cases z)
def JI(neg:Bool):fh:=λ x y M Q=>match x,y with
 | .int i,.int j=>Q (.bl (xor neg (decide (i=j)))) M
 | .bl i,.bl j=>Q (.bl (xor neg (decide (i=j)))) M
 | .str i,.str j=>Q (.bl (xor neg (decide (i=j)))) M
 |_,_=>False
theorem TJ:ff X (compareOp .Eq) (JI false):=⟨_,Pg,λ x y d e H M Q2 Q hd he hm q k=>by
 cases d <;> cases e <;> first
  |exact q.elim
  |(cases(aw.mp hd);cases(aw.mp he);refine⟨rfl,k _ H _ M (aH.mpr rfl) hm (ah.refl H) ?_⟩;have q:Q2 (.bl (xor false (decide (_=_)))) M:=q;simpa using q)
  |(cases(aH.mp hd);cases(aH.mp he);refine⟨rfl,k _ H _ M (aH.mpr rfl) hm (ah.refl H) ?_⟩;have q:Q2 (.bl (xor false (decide (_=_)))) M:=q;simpa using q)
  |(cases(aI.mp hd);cases(aI.mp he);refine⟨rfl,k _ H _ M (aH.mpr rfl) hm (ah.refl H) ?_⟩;have q:Q2 (.bl (xor false (decide (_=_)))) M:=q;simpa using q)⟩
theorem TB:ff X (compareOp .NotEq) (JI true):=⟨_,Pb,λ x y d e H M Q2 Q hd he hm q k=>by
 cases d <;> cases e <;> first
  |exact q.elim
  |(cases(aw.mp hd);cases(aw.mp he);refine⟨rfl,k _ H _ M (aH.mpr rfl) hm (ah.refl H) ?_⟩;have q:Q2 (.bl (xor true (decide (_=_)))) M:=q;simpa using q)
  |(cases(aH.mp hd);cases(aH.mp he);refine⟨rfl,k _ H _ M (aH.mpr rfl) hm (ah.refl H) ?_⟩;have q:Q2 (.bl (xor true (decide (_=_)))) M:=q;simpa using q)
  |(cases(aI.mp hd);cases(aI.mp he);refine⟨rfl,k _ H _ M (aH.mpr rfl) hm (ah.refl H) ?_⟩;have q:Q2 (.bl (xor true (decide (_=_)))) M:=q;simpa using q)⟩
def vM(neg:Bool):fh:=λ x y M Q=>match y with
 | .aY=>match x with
  | .aY=>Q (.bl (!neg)) M
  |_=>Q (.bl neg) M
 |_=>False
theorem tI{K:J8}{H:Hp}{d:D}{x:V}(h:Dat K H d x):decide (x=.aY)=match d with| .aY=>true|_=>false:=by
 cases d with
 |aY=>cases(cq.mp h);rfl
 |bl b=>cases(aH.mp h);rfl
 |int b=>cases(aw.mp h);rfl
 |str b=>cases(aI.mp h);rfl
 |ty b=>cases(Nf.mp h);rfl
 |ref b=>cases(aG.mp h);rfl
 |tup b=>obtain⟨p,xs,rfl,_⟩:=aW.mp h;rfl
 |fl b=>obtain⟨p,xs,rfl,_⟩:=km.mp h;rfl
theorem Py:ff X (compareOp .Is) (vM false):=⟨_,LU,λ x y d e H M Q2 Q hd he hm q k=>by
 cases e with
 |aY=>refine⟨cq.mp he,?_⟩;rw[tI hd];refine k _ H _ M (aH.mpr rfl) hm (ah.refl H) ?_;cases d <;> exact q
 |_=>exact q.elim⟩
theorem Ma:ff X (compareOp .IsNot) (vM true):=⟨_,He,λ x y d e H M Q2 Q hd he hm q k=>by
 cases e with
 |aY=>refine⟨cq.mp he,?_⟩;rw[tI hd];refine k _ H _ M (aH.mpr rfl) hm (ah.refl H) ?_;cases d <;> exact q
 |_=>exact q.elim⟩
def pX:List D->Option (List V)
 |[]=>some []
 |d::r=>match pZ d,pX r with
  |some v,some vs=>some (v::vs)
  |_,_=>none
theorem nL{K:J8}{H:Hp}:∀{ds:List D} {xs vs:List V},pX ds=some vs->ay K H ds xs->xs=vs/\vs.all fV=true
 |[],xs,vs,e,h=>by cases e;exact⟨av.mp h,rfl⟩
 |d::r,xs,vs,e,h=>by
  obtain⟨x,ys,rfl,hx,hy⟩:=aj.mp h;unfold pX at e;cases e1:pZ d with
  |none=>rw[e1]at e;cases e
  |some v=>
   cases e2:pX r with
   |none=>rw[e1,e2]at e;cases e
   |some ws=>rw[e1,e2]at e;cases e;obtain⟨h1,h2⟩:=nL e2 hy;exact⟨by rw[pY e1 hx,h1],by rw[all_cons,nM e1,h2];rfl⟩
def inD(x:D)(ds:List D):Option Bool:=match pZ x,pX ds with
 |some v,some vs=>some (PZ v vs)
 |_,_=>none
def Wt:fh:=λ x y M Q=>match y with
 | .str j=>match x with
  | .str i=>Q (.bl (!(Builtin.Str.occurrences j i 0 j.length 1).isEmpty)) M
  |_=>False
 | .tup ds=>match inD x ds with
  |some b=>Q (.bl b) M
  |none=>False
 | .ref a=>match M a with
  |some (.lst ds)=>match inD x ds with
   |some b=>Q (.bl b) M
   |none=>False
  |_=>False
 |_=>False
theorem Dd{K:J8}{H:Hp}{x:V}{xs:List V}{d:D}{ds:List D}{b:Bool}(e:inD d ds=some b)(hd:Dat K H d x)(hx:ay K H ds xs):fV x=true/\xs.all fV=true/\PZ x xs=b:=by
 unfold inD at e;cases e1:pZ d with
 |none=>rw[e1]at e;cases e
 |some v=>
  cases e2:pX ds with
  |none=>rw[e1,e2]at e;cases e
  |some vs=>rw[e1,e2]at e;have e:PZ v vs=b:=A6 e;obtain⟨rfl,h2⟩:=nL e2 hx;cases(pY e1 hd);exact⟨nM e1,h2,e⟩
theorem TF:ff X (compareOp .In) Wt:=⟨_,yV.or yW,λ x y d e H M Q2 Q hd he hm q k=>by
 cases e with
 |str j=>
  cases(aI.mp he);cases d with
  |str i=>cases(aI.mp hd);exact .inl ⟨_,_,rfl,rfl,k _ H _ M (aH.mpr rfl) hm (ah.refl H) q⟩
  |_=>exact q.elim
 |tup ds=>
  obtain⟨p,xs,rfl,hp,hx⟩:=aW.mp he;have q:(match inD d ds with|some b=>Q2 (.bl b) M|none=>False):=q;cases ei:inD d ds with
  |none=>rw[ei]at q;exact q.elim
  |some b=>rw[ei]at q;obtain⟨h1,h2,h3⟩:=Dd ei hd hx;refine .inr ⟨p,xs,rfl,.inr hp,h1,h2,?_⟩;simp only[r9,G7];rw[h3];exact k _ H _ M (aH.mpr rfl) hm (ah.refl H) q
 |ref a=>
  cases(aG.mp he);have q:(match M a with|some (.lst ds)=>(match inD d ds with|some b=>Q2 (.bl b) M|none=>False)|_=>False):=q;cases ea:M a with
  |none=>rw[ea]at q;exact q.elim
  |some o=>
   cases o with
   |bI b kvs=>rw[ea]at q;exact q.elim
   |hX x=>rw[ea]at q;exact q.elim
   |lst ds=>
    rw[ea]at q;obtain⟨xs,hx,dx⟩:=hm a _ ea;cases ei:inD d ds with
    |none=>simp only[ei]at q
    |some b=>simp only[ei]at q;obtain⟨h1,h2,h3⟩:=Dd ei hd dx;refine .inr ⟨a,xs,rfl,.inl (fb.of hx),h1,h2,?_⟩;simp only[r9,G7];rw[h3];exact k _ H _ M (aH.mpr rfl) hm (ah.refl H) q
 |_=>exact q.elim⟩
end
end L3
namespace L3
open PySem PySem.Spec L2
theorem IM{K:J8}{H:Hp}{ds:List D}{xs:List V}(h:ay K H ds xs){i:Int}{d:D}(e:f' ds i=some d):∃x,f' xs i=some x/\Dat K H d x:=by
 unfold f' at e ⊢;rw[h.length];cases q:zl ds.length i with
 |none=>rw[q]at e;cases e
 |some j=>rw[q]at e;obtain⟨x,h1,h2⟩:=h.get (i:=j) e;exact⟨x,h1,h2⟩
section
variable {X:Cx}
def bh(M:Mem)(a:Addr):Option (List D):=match M a with
 |some (.lst ds)=>some ds
 |_=>none
theorem dH{K:J8}{H:Hp}{M:Mem}{a:Addr}{ds:List D}(e:bh M a=some ds)(hm:RelM K H M):∃xs,H a=some (.lst xs)/\ay K H ds xs:=by
 unfold bh at e;cases q:M a with
 |none=>rw[q]at e;cases e
 |some o=>
  cases o with
  |bI b kvs=>rw[q]at e;cases e
  |hX x=>rw[q]at e;cases e
  |lst es=>rw[q]at e;cases e;exact hm a _ q
def cz(M:Mem):D->Option (List D)
 | .tup ds=>some ds
 | .fl ds=>some ds
 | .ref a=>bh M a
 |_=>none
theorem gr{K:J8}{H:Hp}{M:Mem}{d:D}{v:V}{ds:List D}(e:cz M d=some ds)(hd:Dat K H d v)(hm:RelM K H M):∃p xs,v=.ref p/\(fb K H p xs\/gb K H p xs)/\ay K H ds xs:=by
 cases d with
 |tup es=>cases e;obtain⟨p,xs,rfl,h,q⟩:=aW.mp hd;exact⟨p,xs,rfl,.inr h,q⟩
 |fl es=>cases e;obtain⟨p,xs,rfl,h,q⟩:=km.mp hd;exact⟨p,xs,rfl,.inl h.sq,q⟩
 |ref a=>cases(aG.mp hd);obtain⟨xs,h,q⟩:=dH e hm;exact⟨a,xs,rfl,.inl (fb.of h),q⟩
 |_=>cases e
def Ni:fh:=λ x y M Q=>match y with
 | .int i=>match x with
  | .str z=>z.length<=sizeLine/\(match f' z.cps.toList i with
   |some c=>Q (.str ⟨#[c]⟩) M
   |none=>False)
  |x=>match cz M x with
   |some ds=>(match f' ds i with
    |some d=>Q d M
    |none=>False)
   |none=>False
 |_=>False
theorem qR{x:V}{d:D}{i:Int}{H:Hp}{M:Mem}{Q2:bu}{Q:VK}{K:J8}(hd:Dat K H d x)(hm:RelM K H M)(k:iB K H Q2 Q) (q:match cz M d with|some ds=>(match f' ds i with|some d=>Q2 d M|none=>False)|none=>False):∃p xs v,x=.ref p/\(fb K H p xs\/gb K H p xs)/\f' xs i=some v/\Q v H:=by
 cases e:cz M d with
 |none=>rw[e]at q;exact q.elim
 |some ds=>
  rw[e]at q;cases ei:f' ds i with
  |none=>simp only[ei]at q
  |some d'=>simp only[ei]at q;obtain⟨p,xs,rfl,h,hx⟩:=gr e hd hm;obtain⟨v,h1,h2⟩:=IM hx ei;exact⟨p,xs,v,rfl,h,h1,k v H d' M h2 hm (ah.refl H) q⟩
theorem aM:RA X Ni:=⟨_,L2.aM,λ x y d e H M Q2 Q hd he hm q k=>by
 cases e with
 |int i=>
  cases(aw.mp he);cases d with
  |str z=>
   cases(aI.mp hd);obtain⟨hz,q⟩:=q;refine⟨hz,?_⟩;cases ei:f' z.cps.toList i with
   |none=>rw[ei]at q;exact q.elim
   |some c=>rw[ei]at q;exact⟨c,rfl,k _ H _ M (aI.mpr rfl) hm (ah.refl H) q⟩
  |tup ds=>obtain⟨p,xs,v,rfl,h⟩:=qR (d:=.tup ds) (i:=i) hd hm k q;exact⟨xs,v,h⟩
  |fl ds=>obtain⟨p,xs,v,rfl,h⟩:=qR (d:=.fl ds) (i:=i) hd hm k q;exact⟨xs,v,h⟩
  |ref a=>obtain⟨p,xs,v,rfl,h⟩:=qR (d:=.ref a) (i:=i) hd hm k q;exact⟨xs,v,h⟩
  |_=>exact q.elim
 |_=>exact q.elim⟩
def cutD(xs:List D)(lo hi:Option Int):List D:=(xs.drop (HT.bO xs.length 0 lo)).take (HT.bO xs.length xs.length hi - HT.bO xs.length 0 lo)
theorem tL{K:J8}{H:Hp}{ds:List D}{xs:List V}(h:ay K H ds xs)(lo hi:Option Int):ay K H (cutD ds lo hi) (tM xs lo hi):=by unfold cutD tM;rw[h.length];exact(h.drop _).take _
def Wr:D->Option Int->Option Int->Mem->bu->Prop:=λ x lo hi M Q=>match x with
 | .str z=>z.length<=sizeLine/\Q (.str (vO z lo hi)) M
 | .tup ds=>¬(HT.bO ds.length 0 lo=0/\HT.bO ds.length ds.length hi=ds.length)/\Q (.tup (cutD ds lo hi)) M
 | .ref a=>match bh M a with
  |some ds=>∀p,M p=none->Q (.ref p) (af M p (.lst (cutD ds lo hi)))
  |none=>False
 |_=>False
theorem gu:Rv X Wr:=⟨_,L2.gu,λ x d lo hi H M Q2 Q hd hm q k=>by
 cases d with
 |str z=>cases(aI.mp hd);exact⟨q.1,k _ H _ M (aI.mpr rfl) hm (ah.refl H) q.2⟩
 |tup ds=>obtain⟨p,xs,rfl,h,hx⟩:=aW.mp hd;refine .inr ⟨p,xs,rfl,h,by rw[hx.length];exact q.1,λ p2 iJ=>?_⟩;exact k _ _ _ M (gY iJ (tL hx lo hi)) (hm.laid iJ) (ah.laid iJ) q.2
 |ref a=>
  cases(aG.mp hd);have q:(match bh M a with|some ds=>∀p,M p=none->Q2 (.ref p) (af M p (.lst (cutD ds lo hi)))|none=>False):=q;cases e:bh M a with
  |none=>rw[e]at q;exact q.elim
  |some ds=>rw[e]at q;obtain⟨xs,h,hx⟩:=dH e hm;exact .inl ⟨a,xs,rfl,fb.of h,λ p hp=>k _ _ (.ref p) _ (aG.mpr rfl) (dB hp (tL hx lo hi) hm) (ah.laid hp) (q p (hm.free hp))⟩
 |_=>exact q.elim⟩
def vL:List D->Mem->bu->Prop:=λ xs M Q=>match xs with
 |[.str z]=>z.length<=sizeLine/\Q (.int z.length) M
 |[x]=>match cz M x with
  |some ds=>Q (.int ds.length) M
  |none=>False
 |_=>False
theorem dW:dz X (.builtin "len") vL:=⟨_,rl.or rn,λ xs ds H M Q2 Q hd hm q k=>by
 cases ds with
 |nil=>exact q.elim
 |cons d r=>
  cases r with
  |cons d2 r2=>cases d <;> exact q.elim
  |nil=>
   obtain⟨x,r,rfl,hx,hr⟩:=aj.mp hd;cases(av.mp hr);have seq:(match cz M d with|some ds=>Q2 (.int ds.length) M|none=>False)->∃p ys,[x]=[V.ref p]/\(fb X.K H p ys\/gb X.K H p ys)/\Q (.int ys.length) H:=λ q=>by
    cases e:cz M d with
    |none=>rw[e]at q;exact q.elim
    |some es=>rw[e]at q;obtain⟨p,ys,rfl,h,hy⟩:=gr e hx hm;refine⟨p,ys,rfl,h,?_⟩;rw[hy.length];exact k _ H _ M (aw.mpr rfl) hm (ah.refl H) q
   cases d with
   |str z=>cases(aI.mp hx);exact .inl ⟨z,rfl,q.1,k _ H _ M (aw.mpr rfl) hm (ah.refl H) q.2⟩
   |tup es=>exact .inr (seq q)
   |fl es=>exact .inr (seq q)
   |ref a=>exact .inr (seq q)
   |_=>exact q.elim⟩
def dList:List D->Mem->bu->Prop:=λ xs M Q=>match xs with
 |[x]=>match cz M x with
  |some ds=>∀p,M p=none->Q (.ref p) (af M p (.lst ds))
  |none=>False
 |_=>False
theorem Nu:dz X (.type "list") dList:=⟨_,rk,λ xs ds H M Q2 Q hd hm q k=>by
 cases ds with
 |nil=>exact q.elim
 |cons d r=>
  cases r with
  |cons d2 r2=>exact q.elim
  |nil=>
   obtain⟨x,r,rfl,hx,hr⟩:=aj.mp hd;cases(av.mp hr);have q:(match cz M d with|some ds=>∀p,M p=none->Q2 (.ref p) (af M p (.lst ds))|none=>False):=q;cases e:cz M d with
   |none=>rw[e]at q;exact q.elim
   |some es=>
    rw[e]at q;obtain⟨p,ys,rfl,h,hy⟩:=gr e hx hm;exact⟨p,ys,rfl,h,λ l hl=>k _ _ (.ref l) _ (aG.mpr rfl) (dB hl hy hm) (ah.laid hl) (q l (hm.free hl))⟩⟩
def vJ:List D->Mem->bu->Prop:=λ xs M Q=>match xs with
 |[x]=>match cz M x with
  |some ds=>Q (.tup ds) M
  |none=>False
 |_=>False
theorem eE:dz X (.type "tuple") vJ:=⟨_,oR,λ xs ds H M Q2 Q hd hm q k=>by
 cases ds with
 |nil=>exact q.elim
 |cons d r=>
  cases r with
  |cons d2 r2=>exact q.elim
  |nil=>
   obtain⟨x,r,rfl,hx,hr⟩:=aj.mp hd;cases(av.mp hr);have q:(match cz M d with|some ds=>Q2 (.tup ds) M|none=>False):=q;cases e:cz M d with
   |none=>rw[e]at q;exact q.elim
   |some es=>
    rw[e]at q;obtain⟨p,ys,rfl,h|h,hy⟩:=gr e hx hm
    ·exact⟨p,ys,rfl,.inl ⟨h,λ l hl=>k _ _ (.tup es) M (gY hl hy) (hm.laid hl) (ah.laid hl) q⟩⟩
    ·exact⟨p,ys,rfl,.inr ⟨h,k _ H (.tup es) M (aW.mpr ⟨p,ys,rfl,h,hy⟩) hm (ah.refl H) q⟩⟩⟩
theorem jP:kW vJ (λ ds M Q=>Q (.tup ds) M):=λ ds M p Q hp hz q=>by
 show(match cz (af M p (.lst ds)) (.ref p)with|some es=>fin2 Q (.tup es) (af M p (.lst ds))|none=>False);have e:cz (af M p (.lst ds)) (.ref p)=some ds:=by show bh (af M p (.lst ds)) p=some ds;unfold bh;rw[ae]
 rw[e];exact⟨M,(n_.refl M).put hp,q⟩
def lC:List D->Option (List Bool)
 |[]=>some []
 | .bl b::r=>(lC r).map (b::·)
 |_::_=>none
theorem xZ:∀{ds:List D} {bs:List Bool},lC ds=some bs->ds=bs.map D.bl
 |[],bs,e=>by cases e;rfl
 |d::r,bs,e=>by
  cases d with
  |bl b=>
   unfold lC at e;cases q:lC r with
   |none=>rw[q]at e;cases e
   |some cs=>rw[q]at e;cases e;rw[xZ q];rfl
  |_=>cases e
def Rf:List D->Mem->bu->Prop:=λ xs M Q=>match xs with
 |[.ref a]=>match bh M a with
  |some ds=>match lC ds with
   |some bs=>Q (.bl (bs.all id)) M
   |none=>False
  |none=>False
 |_=>False
theorem Rm(hc:X.calm=true):dz X (.builtin "all") Rf:=⟨_,tQ hc,λ xs ds H M Q2 Q hd hm q k=>by
 cases ds with
 |nil=>exact q.elim
 |cons d r=>
  cases r with
  |cons d2 r2=>cases d <;> exact q.elim
  |nil=>
   cases d with
   |ref a=>
    obtain⟨x,r,rfl,hx,hr⟩:=aj.mp hd;cases(av.mp hr);cases(aG.mp hx);have q:(match bh M a with|some ds=>(match lC ds with|some bs=>Q2 (.bl (bs.all id)) M|none=>False)|none=>False):=q;cases e:bh M a with
    |none=>rw[e]at q;exact q.elim
    |some es=>
     rw[e]at q;cases eb:lC es with
     |none=>simp only[eb]at q
     |some bs=>simp only[eb]at q;obtain⟨ys,h,hy⟩:=dH e hm;rw[xZ eb]at hy;exact⟨a,bs,rfl,fb.of (by rw[h,nS hy]),k _ H _ M (aH.mpr rfl) hm (ah.refl H) q⟩
   |_=>exact q.elim⟩
theorem pN{M:Mem}{p:Addr}{ds:List D}:bh (af M p (.lst ds)) p=some ds:=by unfold bh;rw[ae]
def xT:List D->Mem->bu->Prop:=λ ds M Q=>match lC ds with
 |some bs=>Q (.bl (bs.all id)) M
 |none=>False
theorem Fh:kW Rf xT:=λ ds M p Q hp hz q=>by
 show(match bh (af M p (.lst ds)) p with|some Zl=>(match lC Zl with|some bs=>fin2 Q (.bl (bs.all id)) (af M p (.lst ds))|none=>False)|none=>False);rw[pN];unfold xT at q;cases eb:lC ds with
 |none=>rw[eb]at q;exact q.elim
 |some bs=>rw[eb]at q;simp only[eb];exact⟨M,(n_.refl M).put hp,q⟩
def N_(M:Mem):D->Option String
 | .aY=>some "NoneType"
 | .bl _=>some "bool"
 | .int _=>some "int"
 | .str _=>some "str"
 | .tup _=>some "tuple"
 | .fl _=>some "list"
 | .ref a=>(bh M a).map λ _=>"list"
 |_=>none
end
end L3
namespace L3
open PySem PySem.Spec L2
section
variable {X:Cx}
def Iy:jH:=λ o i v M N=>match o,i with
 | .ref a,.int k=>match bh M a with
  |some ds=>(match zl ds.length k with
   |some j=>N (af M a (.lst (ds.set j v)))
   |none=>False)
  |none=>False
 |_,_=>False
theorem mM:Em X Iy:=⟨_,set_list,λ o i v d j e H M Q2 Q hd hj he hm q k=>by
 cases d with
 |ref a=>
  cases j with
  |int n=>
   cases(aG.mp hd);cases(aw.mp hj);have q:(match bh M a with|some ds=>(match zl ds.length n with|some j=>Q2 (af M a (.lst (ds.set j e)))|none=>False)|none=>False):=q;cases el:bh M a with
   |none=>rw[el]at q;exact q.elim
   |some ds=>
    rw[el]at q;cases ei:zl ds.length n with
    |none=>simp only[ei]at q
    |some m=>simp only[ei]at q;obtain⟨xs,h,hx⟩:=dH el hm;refine⟨a,xs,n,m,rfl,rfl,h,by rw[hx.length];exact ei,?_⟩;exact k _ _ (hm.put (u:=.lst (ds.set m e)) (ah.lst h) ⟨_,aD,ay.mono (ah.lst h) _ (hx.set he m)⟩) (ah.lst h) q
  |_=>exact q.elim
 |_=>exact q.elim⟩
end
end L3
namespace L3
open PySem L2
section
variable {δ:bY}{M M1:Mem}{Q:bu}{ta tb tc:bJ}{r r':fh}{E:cQ}{t u:fQ}{c c':dN}{QB:Bool->Mem->Prop}{tl:dE}{QL:List D->Mem->Prop}
theorem KJ(h:t {E with nx:=u E} δ M):Bj t u E δ M:=h
theorem BD(h:c δ M λ b M1=>if b=true then t E δ M1 else u E δ M1):FF c t u E δ M:=h
theorem FP(h:E.nx δ M):wD E δ M:=h
theorem uK(h:ta δ M E.rt):Kq ta E δ M:=h
theorem K2{g:iz}(h:ta δ M λ d M1=>g d δ M1 E.nx):oB ta g E δ M:=h
theorem qC(h:ta δ M λ _ M1=>E.nx δ M1):sg ta E δ M:=h
theorem qz{i:Nat}{d:D}{N:bY->Mem->Prop}(h:N (δ.set i (some d)) M):hName i d δ M N:=h
theorem KH{d:D}{N:bY->Mem->Prop}{s:jH}(h:ta δ M λ o M1=>tb δ M1 λ j M2=>s o j d M2 λ M3=>N δ M3):hSub ta tb s d δ M N:=h
theorem KI{a:Addr}{k:Int}{v:D}{ds:List D}{j:Nat}{N:Mem->Prop}(h:M a=some (.lst ds))(e:zl ds.length k=some j)(q:N (af M a (.lst (ds.set j v)))):Iy (.ref a) (.int k) v M N:=by
 show(match bh M a with|some ds=>(match zl ds.length k with|some j=>N (af M a (.lst (ds.set j v)))|none=>False)|none=>False);have e1:bh M a=some ds:=by unfold bh;rw[h]
 rw[e1];simp only[e];exact q
theorem jc(h:ta δ M λ d M1=>match d with| .bl k=>QB k M1|_=>False):kN ta δ M QB:=h
theorem sv(h:ta δ M λ d M1=>tb δ M1 λ e M2=>r d e M2 Q):yG r ta tb δ M Q:=h
theorem dS{i:Nat}{d:D}(e:δ[i]?=some (some d))(h:Q d M):eW i δ M Q:=by unfold eW;rw[e];exact h
theorem OF{d:D}(h:Q d M):sC d δ M Q:=h
theorem K3(h:c δ M λ b M1=>if b=true then c' δ M1 QB else QB false M1):Kw c c' δ M QB:=h
theorem Jj(h:c δ M λ b M1=>if b=true then QB true M1 else c' δ M1 QB):RT c c' δ M QB:=h
theorem KL(h:c δ M λ b M1=>QB (!b) M1):Kr c δ M QB:=h
theorem iI(h:QL [] M):oA δ M QL:=h
theorem hG(h:ta δ M λ d M1=>tl δ M1 λ ds M2=>QL (d::ds) M2):eX ta tl δ M QL:=h
theorem KD(h:tl δ M λ ds M1=>ds.length<=sizeLine/\Q (.tup ds) M1):Kp tl δ M Q:=h
theorem KP(h:tl δ M λ ds M1=>ds.length<=sizeLine/\∀p,M1 p=none->Q (.ref p) (af M1 p (.lst ds))):Ks tl δ M Q:=h
theorem BI{s:List D->Mem->bu->Prop}(h:tl δ M λ ds M1=>s ds M1 Q):Ku s tl δ M Q:=h
theorem Tf{sp:gc}(h:tl δ M λ ds M1=>sp ds M1 Q):sD sp tl δ M Q:=h
theorem Ji{s:D->Option Int->Option Int->Mem->bu->Prop}{l h':EJ}(h:ta δ M λ d M1=>l δ M1 λ i M2=>h' δ M2 λ j M3=>s d i j M3 Q):RS s ta l h' δ M Q:=h
theorem pG{QO:Option Int->Mem->Prop}(h:QO none M):lN δ M QO:=h
theorem FN{QO:Option Int->Mem->Prop}(h:ta δ M λ d M1=>match d with| .int i=>QO (some i) M1|_=>False):Bl ta δ M QO:=h
theorem wO{T:String}{s:D->List D->Mem->bu->Prop}(h:ta δ M λ d M1=>NM T d M1/\tl δ M1 λ ds M2=>s d ds M2 Q):NN T s ta tl δ M Q:=h
theorem K1{T:String}{s:D->List D->Mem->bu->Prop}(h:ta δ M λ d M1=>NM T d M1/\s d [] M1 Q):Kv T s ta δ M Q:=h
theorem uL(W:bY->Mem->Prop)(h1:∀N:bY->Mem->Prop,(∀δ' M',W δ' M'->N δ' M')->t {E with nx:=N} δ M)(h2:∀δ' M',W δ' M'->u E δ' M'):Bj t u E δ M:=h1 (u E) h2
set_option tactic.hygienic true in
theorem pd{M:Mem}{a:Addr}{o:MO}(h:M a=some o):af M a o=M:=by
 funext b;unfold af;split
 ·rename_i e;rw[e,h]
 ·rfl
theorem bV{a:Addr}{i:Int}{ds:List D}{d:D}(h:M a=some (.lst ds))(e:f' ds i=some d)(q:Q d M):Ni (.ref a) (.int i) M Q:=by
 show(match bh M a with|some ds=>(match f' ds i with|some d=>Q d M|none=>False)|none=>False);have e1:bh M a=some ds:=by unfold bh;rw[h]
 rw[e1];simp only[e];exact q
theorem bM{i:Int}{ds:List D}{d:D}(e:f' ds i=some d)(q:Q d M):Ni (.tup ds) (.int i) M Q:=by show(match f' ds i with|some d=>Q d M|none=>False);rw[e];exact q
theorem KS{i:Int}{z:Str}{x:Nat}(hz:z.length<=sizeLine)(e:f' z.cps.toList i=some x)(q:Q (.str ⟨#[x]⟩) M):Ni (.str z) (.int i) M Q:=by refine⟨hz,?_⟩;show(match f' z.cps.toList i with|some c=>Q (.str ⟨#[c]⟩) M|none=>False);rw[e];exact q
theorem Te{C:Int->Int->Prop}{g:Int->Int->D}{i j:Int}(h:C i j)(q:Q (g i j) M):dI C g (.int i) (.int j) M Q:=⟨h,q⟩
theorem qA{g:Int->Int->D}{i j:Int}(h:0 < j)(q:Q (g i j) M):dI (λ _ j=>0 < j) g (.int i) (.int j) M Q:=⟨h,q⟩
theorem K0{g:Int->Int->D}{i j:Int}(h:0 < j)(h2:j < 1073741824)(q:Q (g i j) M):dI NL g (.int i) (.int j) M Q:=⟨⟨h,h2⟩,q⟩
theorem Np{i j:Int}(h0: -1000000000000<=i)(h1:i<=1000000000000):rK i j:=.inl ⟨Int.lt_of_lt_of_le (by decide) h0,u9 h1 (by decide)⟩
theorem Nn{i j:Int}(h0: -1000000000000<=j)(h1:j<=1000000000000):rK i j:=.inr ⟨Int.lt_of_lt_of_le (by decide) h0,u9 h1 (by decide)⟩
theorem Jl{g:Int->Int->D}{i j:Int}(q:Q (g i j) M):JH g (.int i) (.int j) M Q:=q
theorem Gj{a b:Addr}{xs ys:List D}(ha:M a=some (.lst xs))(hb:M b=some (.lst ys))(h:xs.length+ys.length<=sizeLine)(q:∀p,M p=none->Q (.ref p) (af M p (.lst (xs++ys)))):Iz (.ref a) (.ref b) M Q:=by show(match M a,M b with|some (.lst xs),some (.lst ys)=>xs.length+ys.length<=sizeLine/\∀p,M p=none->Q (.ref p) (af M p (.lst (xs++ys)))|_,_=>False);rw[ha,hb];exact⟨h,q⟩
theorem FU{i j:Int}(h:rK i j)(q:Q (.int (i*j)) M):Ng (.int i) (.int j) M Q:=⟨h,q⟩
theorem KQ{i j:Int}(q:Q (.bl (decide (i<=j))) M):Ws (.int i) (.int j) M Q:=q
theorem KY{i j:Int}(q:Q (.bl (decide (i=j))) M):JI false (.int i) (.int j) M Q:=by show Q (.bl (xor false (decide (i=j)))) M;simpa using q
theorem KZ{i j:Bool}(q:Q (.bl (decide (i=j))) M):JI false (.bl i) (.bl j) M Q:=by show Q (.bl (xor false (decide (i=j)))) M;simpa using q
theorem KW{i j:Str}(q:Q (.bl (decide (i=j))) M):JI false (.str i) (.str j) M Q:=by show Q (.bl (xor false (decide (i=j)))) M;simpa using q
theorem KN{i j:Int}(q:Q (.bl (!decide (i=j))) M):JI true (.int i) (.int j) M Q:=by show Q (.bl (xor true (decide (i=j)))) M;simpa using q
theorem KO{i j:Bool}(q:Q (.bl (!decide (i=j))) M):JI true (.bl i) (.bl j) M Q:=by show Q (.bl (xor true (decide (i=j)))) M;simpa using q
theorem jd{a:Addr}{ds:List D}(h:M a=some (.lst ds))(q:Q (.int ds.length) M):vL [.ref a] M Q:=by
 show(match bh M a with|some ds=>Q (.int ds.length) M|none=>False);have e1:bh M a=some ds:=by unfold bh;rw[h]
 rw[e1];exact q
theorem wL{ds:List D}(q:Q (.int ds.length) M):vL [.tup ds] M Q:=q
theorem Bz{ds:List D}(q:∀p,M p=none->Q (.ref p) (af M p (.lst ds))):dList [.fl ds] M Q:=q
theorem bH{P:Prop}{inst:Decidable P}{A B:Prop}(h1:P->A)(h2:¬P->B):if @decide P inst=true then A else B:=by
 by_cases h:P
 ·rw[B5 h,J0 rfl];exact h1 h
 ·rw[A4 h,J7 r0];exact h2 h
theorem FV{A B:Prop}(h:A):if true=true then A else B:=by rw[J0 rfl];exact h
theorem wM{A B:Prop}(h:B):if false=true then A else B:=by rw[J7 r0];exact h
theorem lO{b:Bool}{A B:Prop}(h1:b=true->A)(h2:b=false->B):if b=true then A else B:=by
 cases b with
 |true=>rw[J0 rfl];exact h1 rfl
 |false=>rw[J7 r0];exact h2 rfl
end
end L3
namespace L3
open PySem L2
section
variable {g:iz}{tt:dN}{te:bJ}{tb:fQ}{δ δc:bY}{M1:Mem}{Qe:List D->Mem->Prop}{E:cQ}
theorem fL{ds:List D}(Pv:Nat->List D->Mem->Prop)(h0:Pv 0 [] M1)(hz:∀i acc M,i<=ds.length->Pv i acc M->acc.length<=sizeLine) (hs:∀i d acc M,ds[i]?=some d->Pv i acc M->g d δc M λ δ2 M2=>tt δ2 M2 λ b M3=>if b=true then te δ2 M3 λ y M4=>Pv (i+1) (acc++[y]) M4 else Pv (i+1) acc M3) (hd:∀acc M,Pv ds.length acc M->Qe acc M):∃(B:Nat) (W:Nat->List D->Mem->Prop),W 0 [] M1/\∀i acc M,W i acc M->i<=B/\acc.length<=sizeLine/\match items (.fix ds) M with
   |none=>False
   |some ds=>match ds[i]? with
    |none=>i=ds.length/\Qe acc M
    |some d=>g d δc M λ δ2 M2=>tt δ2 M2 λ b M3=>if b=true then te δ2 M3 λ y M4=>W (i+1) (acc++[y]) M4 else W (i+1) acc M3:=by
 refine⟨ds.length,λ i acc M=>if i<=ds.length then Pv i acc M else False,by dsimp only;rw[J0 (F0 _)];exact h0,?_⟩;intro i acc M w;by_cases hi:i<=ds.length
 ·rw[J0 hi]at w;refine⟨hi,hz i acc M hi w,?_⟩;show(match ds[i]? with
    |none=>i=ds.length/\Qe acc M
    |some d=>g d δc M λ δ2 M2=>tt δ2 M2 λ b M3=>if b=true then te δ2 M3 λ y M4=>(if i+1<=ds.length then Pv (i+1) (acc++[y]) M4 else False)else(if i+1<=ds.length then Pv (i+1) acc M3 else False))
  cases e:ds[i]? with
  |none=>have:i=ds.length:=B1 hi (i5.mp e);subst this;exact⟨rfl,hd acc M w⟩
  |some d=>have ig:i+1<=ds.length:=(i4.mp e).1;simp only[J0 ig];exact hs i d acc M e w
 ·rw[J7 hi]at w;exact w.elim
theorem iL{ds:List D}(Pv:Nat->bY->Mem->Prop)(h0:Pv 0 δ M1) (hs:∀i d δ M,ds[i]?=some d->Pv i δ M->g d δ M λ δ2 M2=>tb {E with nx:=Pv (i+1),ct:=Pv (i+1),bk:=E.nx} δ2 M2) (hd:∀δ M,Pv ds.length δ M->E.nx δ M):∃(B:Nat) (W:Nat->bY->Mem->Prop),W 0 δ M1/\∀i δ M,W i δ M->i<=B/\match items (.fix ds) M with
   |none=>False
   |some ds=>match ds[i]? with
    |none=>i=ds.length/\E.nx δ M
    |some d=>g d δ M λ δ2 M2=>tb {E with nx:=W (i+1),ct:=W (i+1),bk:=E.nx} δ2 M2:=by
 refine⟨ds.length,λ i δ M=>if i<=ds.length then Pv i δ M else False,by dsimp only;rw[J0 (F0 _)];exact h0,?_⟩;intro i δ M w;by_cases hi:i<=ds.length
 ·rw[J0 hi]at w;refine⟨hi,?_⟩;show(match ds[i]? with
    |none=>i=ds.length/\E.nx δ M
    |some d=>g d δ M λ δ2 M2=>tb {E with nx:=(λ δ M=>if i+1<=ds.length then Pv (i+1) δ M else False),ct:=(λ δ M=>if i+1<=ds.length then Pv (i+1) δ M else False),bk:=E.nx} δ2 M2)
  cases e:ds[i]? with
  |none=>have:i=ds.length:=B1 hi (i5.mp e);subst this;exact⟨rfl,hd δ M w⟩
  |some d=>have ig:i+1<=ds.length:=(i4.mp e).1;simp only[J0 ig];exact hs i d δ M e w
 ·rw[J7 hi]at w;exact w.elim
theorem JB{a:Addr}{ds:List D}(Pv:Nat->bY->Mem->Prop)(h0:Pv 0 δ M1)(hl:∀i δ M,i<=ds.length->Pv i δ M->M a=some (.lst ds)) (hs:∀i d δ M,ds[i]?=some d->Pv i δ M->g d δ M λ δ2 M2=>tb {E with nx:=Pv (i+1),ct:=Pv (i+1),bk:=E.nx} δ2 M2) (hd:∀δ M,Pv ds.length δ M->E.nx δ M):∃(B:Nat) (W:Nat->bY->Mem->Prop),W 0 δ M1/\∀i δ M,W i δ M->i<=B/\match items (.at a) M with
   |none=>False
   |some ds=>match ds[i]? with
    |none=>i=ds.length/\E.nx δ M
    |some d=>g d δ M λ δ2 M2=>tb {E with nx:=W (i+1),ct:=W (i+1),bk:=E.nx} δ2 M2:=by
 refine⟨ds.length,λ i δ M=>if i<=ds.length then Pv i δ M else False,by dsimp only;rw[J0 (F0 _)];exact h0,?_⟩;intro i δ M w;by_cases hi:i<=ds.length
 ·rw[J0 hi]at w;refine⟨hi,?_⟩;have e0:items (.at a) M=some ds:=by show(match M a with|some (.lst ds)=>some ds|_=>none)=some ds;rw[hl i δ M hi w]
  rw[e0];show(match ds[i]? with
    |none=>i=ds.length/\E.nx δ M
    |some d=>g d δ M λ δ2 M2=>tb {E with nx:=(λ δ M=>if i+1<=ds.length then Pv (i+1) δ M else False),ct:=(λ δ M=>if i+1<=ds.length then Pv (i+1) δ M else False),bk:=E.nx} δ2 M2)
  cases e:ds[i]? with
  |none=>have:i=ds.length:=B1 hi (i5.mp e);subst this;exact⟨rfl,hd δ M w⟩
  |some d=>have ig:i+1<=ds.length:=(i4.mp e).1;simp only[J0 ig];exact hs i d δ M e w
 ·rw[J7 hi]at w;exact w.elim
end
section
variable {δ:bY}{M:Mem}{Q:bu}{wi:qj}{g:iz}{tt:dN}{te:bJ}{n:Nat}{fr:List Nat}{ta:bJ}{E:cQ}{tb:fQ}{tl:dE}{R:Src->Mem->Prop}
theorem KG{r3:List D->Mem->bu->Prop}(h:wi δ M λ src M1=>∃(B:Nat) (W:Nat->List D->Mem->Prop),W 0 [] M1/\∀i acc M,W i acc M->i<=B/\acc.length<=sizeLine/\match items src M with
   |none=>False
   |some ds=>match ds[i]? with
    |none=>i=ds.length/\r3 acc M Q
    |some d=>g d (iO n fr δ) M λ δ2 M2=>tt δ2 M2 λ b M3=>if b=true then te δ2 M3 λ y M4=>W (i+1) (acc++[y]) M4 else W (i+1) acc M3):yF r3 wi g tt te n fr δ M Q:=h
theorem BH{Qe:List D->Mem->Prop}(h:wi δ M λ src M1=>∃(B:Nat) (W:Nat->List D->Mem->Prop),W 0 [] M1/\∀i acc M,W i acc M->i<=B/\acc.length<=sizeLine/\match items src M with
   |none=>False
   |some ds=>match ds[i]? with
    |none=>i=ds.length/\Qe acc M
    |some d=>g d (iO n fr δ) M λ δ2 M2=>tt δ2 M2 λ b M3=>if b=true then te δ2 M3 λ y M4=>W (i+1) (acc++[y]) M4 else W (i+1) acc M3):mO wi g tt te n fr δ M Qe:=h
theorem Gb(h:mO wi g tt te n fr δ M λ ds M'=>∀p,M' p=none->Q (.ref p) (af M' p (.lst ds))):sh wi g tt te n fr δ M Q:=h
theorem KU(h:wi δ M λ src M1=>∃(B:Nat) (W:Nat->bY->Mem->Prop),W 0 δ M1/\∀i δ M,W i δ M->i<=B/\match items src M with
   |none=>False
   |some ds=>match ds[i]? with
    |none=>i=ds.length/\E.nx δ M
    |some d=>g d δ M λ δ2 M2=>tb {E with nx:=W (i+1),ct:=W (i+1),bk:=E.nx} δ2 M2):Kt wi g tb E δ M:=h
theorem FL(h:tl δ M λ ds M1=>match ds with|[.int j]=>Ve j/\R (.fix (fA 0 j.toNat)) M1|_=>False):CS tl δ M R:=h
theorem KC{QB:Bool->Mem->Prop}(h:QB true M):FD δ M QB:=h
end
end L3
namespace L3
open PySem L2
def strsOf:List Expr->Option (List Str)
 |[]=>some []
 | .Constant (.str x) _ _::r=>(strsOf r).map (x::·)
 |_::_=>none
def wB(zs:List Str):dE:=λ _ M Q=>Q (zs.map D.str) M
theorem FJ{zs:List Str}{δ:bY}{M:Mem}{Q:List D->Mem->Prop}(h:Q (zs.map D.str) M):wB zs δ M Q:=h
theorem wR{X:Cx}:∀{es:List Expr} {zs:List Str},strsOf es=some zs->QA X es (wB zs)
 |[],zs,h=>by cases h;exact BQ
 |e::es,zs,h=>by
  cases e with
  |Constant c j pos=>
   cases c with
   |str x=>
    unfold strsOf at h;cases q:strsOf es with
    |none=>rw[q]at h;cases h
    |some ys=>rw[q]at h;cases h;exact Cm (wU (ta:=sC (.str x)) (t:=wB ys) Jm (wR q)) λ σ H Q h=>h
   |_=>exact absurd h (by unfold strsOf;intro z;cases z)
  |_=>exact absurd h (by unfold strsOf;intro z;cases z)
end L3
namespace L4
open PySem PySem.Spec L2 L3
structure WE(X:Cx)(e:Expr)(t:bJ):Prop where
 h:QE X e t
structure WT(X:Cx)(e:Expr)(t:dN):Prop where
 h:QT X e t
structure WW(X:Cx)(e:Expr)(t:dN):Prop where
 h:QW X e t
structure WA(X:Cx)(e:List Expr)(t:dE):Prop where
 h:QA X e t
structure WS(X:Cx)(e:Stmt)(t:fQ):Prop where
 h:QS X e t
structure zP(X:Cx)(e:List Stmt)(t:fQ):Prop where
 h:zU X e t
structure WO(X:Cx)(e:Option Expr)(t:EJ):Prop where
 h:QO X e t
structure WG(X:Cx)(e:Expr)(t:iz):Prop where
 h:QG X e t
structure Sv(X:Cx)(e:List Expr)(t:nY):Prop where
 h:Rx X e t
structure Rq(X:Cx)(e:List Expr)(t:dN):Prop where
 h:Sz X e t
structure WI(X:Cx)(tg e:Expr)(t:qj):Prop where
 h:QI X tg e t
theorem WW.pt {X:Cx}{e:Expr}{t:dN}(w:WW X e t):WT X e t:=⟨w.h.pt⟩
structure Nz(X:Cx)(scope:Scope)(bD:List Str)(fr:List Nat)(tg:Expr)(g:iz):Prop where
 h:Sw X scope bD fr tg g
structure eI(X:Cx)(scope:Scope)(bD:List Str)(fr:List Nat)(tg iter:Expr)(ifs:List Expr)(elt:Expr)(wi:qj)(g:iz)(tt:dN)(te:bJ):Prop where
 b:gW X scope fr
 calm:X.calm=true
 xe:∀e s,X.xe e s->False
 it:WI X tg iter wi
 Ob:Nz X scope bD fr tg g
 ifs:∀cl C fp s H,Rq (aS X scope cl bD fr C fp s H) ifs tt
 elt:∀cl C fp s H,WE (aS X scope cl bD fr C fp s H) elt te
theorem eI.h {X:Cx}{scope:Scope}{bD:List Str}{fr:List Nat}{tg iter:Expr}{ifs:List Expr}{elt:Expr}{wi:qj}{g:iz}{tt:dN}{te:bJ}(C:eI X scope bD fr tg iter ifs elt wi g tt te):om X scope bD fr tg iter ifs elt wi g tt te:=
 ⟨C.b,C.calm,C.xe,C.it.h,C.Ob.h,λ cl D fp s H=>(C.ifs cl D fp s H).h,λ cl D fp s H=>(C.elt cl D fp s H).h⟩
section
variable {X:Cx}{a b c e:Expr}{ta tb tc:bJ}{pos:Pos}
theorem ao(i:Nat){x:Str}(hN:X.N[i]?=some x:=by rfl)(hv:IU X.env.scope x:=by first|exact Or.inl rfl|exact Or.inr (Or.inl rfl)|exact Or.inr (Or.inr rfl))(hd:(x==("__debug__":Str))=false:=by decide)(hcd:(x==("__classdict__":Str))=false:=by decide):WE X (.Name x pos) (eW i):=⟨Xg (i:=i) (hN:=hN) (hv:=hv) (hd:=hd) (hcd:=hcd)⟩
theorem ag{i j}:WE X (.Constant (.int i) j pos) (sC (.int i)):=⟨OW⟩
theorem kY{i j}:WE X (.Constant (.bool i) j pos) (sC (.bl i)):=⟨Tr⟩
theorem gh{i j}:WE X (.Constant (.str i) j pos) (sC (.str i)):=⟨Jm⟩
theorem wj{j}:WE X (.Constant .none j pos) (sC .aY):=⟨OU⟩
theorem mz{x:Str}{d:D}(G:En X.K X.mg x d)(hg:Gl X x:=by rfl)(hd:(x==("__debug__":Str))=false:=by decide):WE X (.Name x pos) (sC d):=⟨Lk (G:=G) (hg:=hg) (hd:=hd)⟩
theorem bq{op:Operator}{r2:fh}(o:ff X (binaryOp op) r2)(ha:WE X a ta)(hb:WE X b tb):WE X (.BinOp a op b pos) (yG r2 ta tb):=⟨To (o:=o) (ha:=ha.h) (hb:=hb.h)⟩
theorem fS{op:CmpOp}{r2:fh}(o:ff X (compareOp op) r2)(ha:WE X a ta)(hb:WE X b tb)(hm:behindInMarks op b=false:=by first|rfl|exact Md _):WE X (.Compare a [op] [b] pos) (yG r2 ta tb):=⟨OY (o:=o) (ha:=ha.h) (hb:=hb.h) (hm:=hm)⟩
theorem aQ{op:CmpOp}{r2:fh}(o:ff X (compareOp op) r2)(ha:WE X a ta)(hb:WE X b tb)(hm:behindInMarks op b=false:=by first|rfl|exact Md _):WT X (.Compare a [op] [b] pos) (kN (yG r2 ta tb)):=⟨K' (o:=o) (ha:=ha.h) (hb:=hb.h) (hm:=hm)⟩
theorem Aw(h:WE X e ta)(he:∀whole,isTrue e X.env whole=(do let v <- whole;standAt e.pos;holding [v] (truthy v)):=by intro _;rfl):WT X e (kN ta):=⟨K9 (h:=h.h) (he:=he)⟩
variable {tA tB:dN}{rest:List Expr}
theorem qo(ha:WT X a tA):WW X (.BoolOp .And [a] pos) tA:=⟨Gk (ha:=ha.h)⟩
theorem uj(ha:WT X a tA):WW X (.BoolOp .Or [a] pos) tA:=⟨K7 (ha:=ha.h)⟩
theorem uk(ha:WT X a tA)(hb:WW X (.BoolOp .And (b::rest) pos) tB):WW X (.BoolOp .And (a::b::rest) pos) (Kw tA tB):=⟨K8 (ha:=ha.h) (hb:=hb.h)⟩
theorem As(ha:WT X a tA)(hb:WW X (.BoolOp .Or (b::rest) pos) tB):WW X (.BoolOp .Or (a::b::rest) pos) (RT tA tB):=⟨OQ (ha:=ha.h) (hb:=hb.h)⟩
theorem Ax(ha:WT X a tA):WT X (.UnaryOp .Not a pos) (Kr tA):=⟨K_ (ha:=ha.h)⟩
variable {es:List Expr}{t:dE}
theorem bg:WA X [] oA:=⟨BQ⟩
theorem aA(ha:WE X e ta)(hr:WA X es t)(hs:starEach (e::es) X.env=(false,eval e X.env)::starEach es X.env:=by rfl):WA X (e::es) (eX ta t):=⟨wU (ha:=ha.h) (hr:=hr.h) (hs:=hs)⟩
theorem aU{x1}(h:WA X es t):WE X (.Tuple es x1 pos) (Kp t):=⟨OT (h:=h.h)⟩
theorem cC(h:WA X es t):WE X (.List es pos) (Ks t):=⟨OV (h:=h.h)⟩
theorem aO{r2:fh}(o:RA X r2)(ha:WE X a ta)(hb:WE X b tb)(hs:rF b:=by exact λ _ _=>rfl):WE X (.Subscript a b pos) (yG r2 ta tb):=⟨Tp (o:=o) (ha:=ha.h) (hb:=hb.h) (hs:=hs)⟩
theorem iU:WO X none lN:=⟨Gw⟩
theorem lH(h:WE X e ta):WO X (some e) (Bl ta):=⟨Gv (h:=h.h)⟩
variable {lo hi:Option Expr}{tl th:EJ}{p2:Pos}
theorem iV{r2:D->Option Int->Option Int->Mem->bu->Prop}(o:Rv X r2)(he:WE X e ta)(hl:WO X lo tl)(hu:WO X hi th):WE X (.Subscript e (.Slice lo hi none p2) pos) (RS r2 ta tl th):=⟨GD (o:=o) (he:=he.h) (hl:=hl.h) (hu:=hu.h)⟩
variable {x:Str}{p:Pos}{id T:String}
theorem bo{r2:List D->Mem->bu->Prop}(o:dz X (.builtin id) r2)(hm:X.mg x=none)(ha:WA X (e::es) t)(hg:Gl X x:=by rfl)(hv:bootBuiltins x=some (.builtin id):=by decide+kernel)(hn:x≠"__name__":=by decide)(hdb:(x==("__debug__":Str))=false:=by decide)(he:starEach (e::es) X.env=(false,eval e X.env)::starEach es X.env:=by rfl)(hpl:(backTo pos (starEach es X.env)).any (·.1)=false:=by rfl):WE X (.Call (.Name x p) (e::es) [] pos) (Ku r2 t):=⟨GJ (o:=o) (hg:=hg) (hm:=hm) (hv:=hv) (ha:=ha.h) (hn:=hn) (hdb:=hdb) (he:=he) (hpl:=hpl)⟩
theorem dA{r2:List D->Mem->bu->Prop}(o:dz X (.type T) r2)(hm:X.mg x=none)(ha:WA X (e::es) t)(hg:Gl X x:=by rfl)(hv:bootBuiltins x=some (.type T):=by decide+kernel)(hn:x≠"__name__":=by decide)(hdb:(x==("__debug__":Str))=false:=by decide)(he:starEach (e::es) X.env=(false,eval e X.env)::starEach es X.env:=by rfl)(hpl:(backTo pos (starEach es X.env)).any (·.1)=false:=by rfl):WE X (.Call (.Name x p) (e::es) [] pos) (Ku r2 t):=⟨GG (o:=o) (hg:=hg) (hm:=hm) (hv:=hv) (ha:=ha.h) (hn:=hn) (hdb:=hdb) (he:=he) (hpl:=hpl)⟩
end
section
variable {X:Cx}{o e:Expr}{es:List Expr}{to:bJ}{t:dE}{T id:String}{name:Str}{apos bx:Pos}
theorem IY{r2:D->List D->Mem->bu->Prop}(pa:PlainAttrs T)(slot:Slot T name id)(hty:typeOf (.builtin id)=pure (.type "method_descriptor"))(hm:NG X id r2)(ho:WE X o to)(hbase:attributeBase o name X.env (eval o X.env)=eval o X.env:=by rfl)(hline:(apos.endLine==bx.line)=true:=by rfl):WE X (.Call (.Attribute o name apos) [] [] bx) (Kv T r2 to):=⟨OZ (pa:=pa) (slot:=slot) (hty:=hty) (hm:=hm) (ho:=ho.h) (hbase:=hbase) (hline:=hline)⟩
theorem mB{r2:D->List D->Mem->bu->Prop}(pa:PlainAttrs T)(slot:Slot T name id)(hty:typeOf (.builtin id)=pure (.type "method_descriptor"))(hm:NG X id r2)(ho:WE X o to)(ha:WA X (e::es) t)(hbase:attributeBase o name X.env (eval o X.env)=eval o X.env:=by rfl)(hfew:((backTo bx (starEach (e::es) X.env)).all (λ x=>!x.1)&&(backToKw bx (keywordEach [] X.env)).all (λ x=>x.1.isSome)
   &&decide ((e::es).length+([]:List Keyword).length+(if([]:List Keyword).isEmpty then 0 else 1) < 30))=true:=by rfl) (hline:(apos.endLine==bx.line)=true:=by rfl) (hs:starEach (e::es) X.env=(false,eval e X.env)::starEach es X.env:=by rfl) (hplain:(backTo bx (starEach es X.env)).any (·.1)=false:=by rfl):WE X (.Call (.Attribute o name apos) (e::es) [] bx) (NN T r2 to t):=⟨Tq (pa:=pa) (slot:=slot) (hty:=hty) (hm:=hm) (ho:=ho.h) (ha:=ha.h) (hbase:=hbase) (hfew:=hfew) (hline:=hline) (hs:=hs) (hplain:=hplain)⟩
end
section
variable {X:Cx}{x:Str}{p pos:Pos}{e:Expr}{es:List Expr}{t:dE}{k j:Nat}{ps:List Str}{sp:gc}
theorem bC(d:cR X.prog X.w X.K X.mg X.base k x ps sp)(ha:WA X (e::es) t)(hr:bf k X.A:=by exact hr.mono (by first|decide|omega))(hg:Gl X x:=by rfl)(hdb:(x==("__debug__":Str))=false:=by decide)(he:starEach (e::es) X.env=(false,eval e X.env)::starEach es X.env:=by rfl)(hpl:(backTo pos (starEach es X.env)).any (·.1)=false:=by rfl):WE X (.Call (.Name x p) (e::es) [] pos) (sD sp t):=⟨OX (d:=d) (hr:=hr) (hg:=hg) (ha:=ha.h) (hdb:=hdb) (he:=he) (hpl:=hpl)⟩
end
section
variable {X:Cx}{st:Stmt}{rest:List Stmt}{t u:fQ}{te:bJ}{e:Expr}{pos:Pos}
theorem bA:zP X [] wD:=⟨Gn⟩
theorem ai(h:WS X st t):zP X [st] t:=⟨Gm (h:=h.h)⟩
theorem aa(h1:WS X st t)(h2:zP X rest u):zP X (st::rest) (Bj t u):=⟨BL (h1:=h1.h) (h2:=h2.h)⟩
theorem yq{aL:List Stmt}:zP X aL Bm:=⟨yK⟩
theorem cX(he:WE X e te)(hs:swapsWith e none pos.line X.env=pure false:=by rfl):WS X (.Expr e pos) (sg te):=⟨Gq (he:=he.h) (hs:=hs)⟩
theorem aJ(he:WE X e te):WS X (.Return (some e) pos) (Kq te):=⟨Lb (he:=he.h)⟩
theorem cG{c:Expr}{a b:List Stmt}{tc:dN}(hc:WT X c tc)(ha:zP X a t)(hb:zP X b u):WS X (.If c a b pos) (FF tc t u):=⟨OR (hc:=hc.h) (ha:=ha.h) (hb:=hb.h)⟩
theorem bj{x:Str}(i:Nat)(hN:X.N.Nodup:=by exact nd)(hi:X.N[i]?=some x:=by rfl)(hx:Loc X.env.scope x:=by first|exact Or.inl rfl|exact Or.inr rfl)(hf:X.fn x=true\/X.env.scope.names.lookup x=some .local:=by first|exact .inl rfl|exact .inr rfl|assumption):WG X (.Name x pos) (hName i):=⟨GB (hN:=hN) (hi:=hi) (hx:=hx) (hf:=hf)⟩
theorem gX:Sv X [] tw:=⟨GA⟩
theorem bB{e:Expr}{es:List Expr}{t:iz}{u:nY}(h1:WG X e t)(h2:Sv X es u)(hs:(assignEach (e::es) X.env).map (·.2)=assign e X.env::(assignEach es X.env).map (·.2):=by rfl):Sv X (e::es) (dq t u):=⟨BP (h1:=h1.h) (h2:=h2.h) (hs:=hs)⟩
theorem jO{es:List Expr}{k:Nat}{t:nY}{n:Nat}(h:Sv X es t)(hc:X.calm=true:=by rfl)(hn:(assignEach es X.env).length=n:=by rfl)(hst:(assignEach es X.env).findIdx? (·.1)=none:=by rfl):WG X (.Tuple es k pos) (tu n t):=⟨Lf (hc:=hc) (h:=h.h) (hn:=hn) (hst:=hst)⟩
theorem fk{o i:Expr}{to ti:bJ}{t:jH}(ho:WE X o to)(hi:WE X i ti)(hs:Em X t)(ha:∀v,assign (.Subscript o i pos) X.env v=(do
   let ov <- holding [v] (eval o X.env)
   let iv <- holding [v,ov] (eval i X.env)
   standAt pos
   holding [v,ov,iv] (setItem ov iv v)
   release [v,ov,iv] []):=by intro _;rfl):WG X (.Subscript o i pos) (hSub to ti t):=⟨Lg (ho:=ho.h) (hi:=hi.h) (hs:=hs) (ha:=ha)⟩
theorem df{tg e:Expr}{g:iz}(he:WE X e te)(hg:WG X tg g)(hs:swapsWithSole [tg] e pos.line X.env=pure false:=by rfl)(hw:swappedStores [tg] e X.env=pure none:=by rfl)(h1:(assignEach [tg] X.env).map (·.2)=[assign tg X.env]:=by rfl):WS X (.Assign [tg] e pos) (oB te g):=⟨Ld (he:=he.h) (hg:=hg.h) (hs:=hs) (hw:=hw) (h1:=h1)⟩
theorem aE{x:Str}{e:Expr}{pos':Pos}(i:Nat)(he:WE X e te)(hN:X.N.Nodup:=by exact nd)(hi:X.N[i]?=some x:=by rfl)(hx:Loc X.env.scope x:=by first|exact Or.inl rfl|exact Or.inr rfl)(hs:swapsWith e (some (.Name x pos')) pos.line X.env=pure false:=by rfl)(hf:X.fn x=true\/X.env.scope.names.lookup x=some .local:=by first|exact .inl rfl|exact .inr rfl|assumption):WS X (.Assign [.Name x pos'] e pos) (oB te (hName i)):=⟨La (hN:=hN) (hi:=hi) (hx:=hx) (he:=he.h) (hs:=hs) (hf:=hf)⟩
end
section
variable {X:Cx}{tg l:Expr}{tl:bJ}{ta:dE}{a b:Expr}{p pos:Pos}
theorem dO(hl:WE X l tl):WI X tg l (Mt tl):=⟨Le (hl:=hl.h)⟩
theorem b_(hm:X.mg "range"=none)(ha:WA X [a] ta)(hg:Gl X "range":=by rfl)(hs:starEach [a] X.env=[(false,eval a X.env)]:=by rfl):WI X tg (.Call (.Name "range" p) [a] [] pos) (CS ta):=⟨yM (hg:=hg) (hm:=hm) (ha:=ha.h) (hs:=hs)⟩
end
section
variable {X:Cx}{tg iter:Expr}{wi:qj}{g:iz}{tb:fQ}{body:List Stmt}{pos:Pos}
theorem fj(hi:WI X tg iter wi)(hg:WG X tg g)(hb:zP X body tb)(hp:PassesOwn (model X.prog X.w) X.A X.env X.xe:=by first|exact PassesOwn.never|exact DZ)(hc:X.calm=true:=by rfl)(hs:∀x,foldedSetIterable iter X.env x=pure x:=by intro _;rfl):WS X (.For tg iter body [] pos) (Kt wi g tb):=⟨Lc (hp:=hp) (hc:=hc) (hi:=hi.h) (hg:=hg.h) (hb:=hb.h) (hs:=hs)⟩
end
section
variable {X:Cx}{c:Expr}{tc:dN}{tb:fQ}{body:List Stmt}{pos:Pos}
theorem gf(hc:WT X c tc)(hb:zP X body tb)(hp:PassesOwn (model X.prog X.w) X.A X.env X.xe:=by first|exact PassesOwn.never|exact DZ):WS X (.While c body [] pos) (uF tc tb):=⟨BM (hp:=hp) (hc:=hc.h) (hb:=hb.h)⟩
end
section
variable {X:Cx}{scope:Scope}{bD:List Str}{fr:List Nat}{tg elt iter:Expr}{ifs:List Expr}{pos:Pos}{wi:qj}{g:iz}{tt:dN}{te:bJ}
theorem cp:Rq X [] FD:=⟨Gy⟩
theorem wg{c:Expr}{t:dN}(h:WT X c t):Rq X [c] t:=⟨Gx (h:=h.h)⟩
theorem Av{i:Nat}{x:Str}{ps:Pos}(h:∀cl C fp s H,PG (aS X scope cl bD fr C fp s H) (.Name x ps) (cL i))(hi:i < bD.length):Nz X scope bD fr (.Name x ps) (hName i):=⟨Fo (h:=h) (hi:=hi)⟩
theorem Au{i j k:Nat}{x y:Str}{px py pt:Pos}(h:∀cl C fp s H,PG (aS X scope cl bD fr C fp s H) (.Tuple [.Name x px,.Name y py] k pt) (zx X.K 2 (gK (cL i) (gK (cL j) vz))))(hi:i < bD.length)(hj:j < bD.length):Nz X scope bD fr (.Tuple [.Name x px,.Name y py] k pt) (tu 2 (dq (hName i) (dq (hName j) tw))):=⟨Fm (h:=h) (hi:=hi) (hj:=hj)⟩
theorem iF(C:eI X scope bD fr tg iter ifs elt wi g tt te)(hs:∀x,foldedSetIterable iter X.env x=pure x:=by intro _;rfl):WE X (.ListComp elt [⟨tg,iter,ifs,0⟩] scope pos) (sh wi g tt te bD.length fr):=⟨Lm (C:=C.h) (hs:=hs)⟩
theorem mw{y:Str}{py gm:Pos}(i:Nat)(C:eI X scope bD fr tg iter ifs elt wi g tt te)(hN:X.N.Nodup:=by exact nd)(hiy:X.N[i]?=some y:=by rfl)(hy:Loc X.env.scope y:=by first|exact Or.inl rfl|exact Or.inr rfl)(hsw:swapsWith (.ListComp elt [⟨tg,iter,ifs,0⟩] scope pos) (some (.Name y py)) gm.line X.env=pure true:=by rfl)(hf:X.fn y=true\/X.env.scope.names.lookup y=some .local:=by first|exact .inl rfl|exact .inr rfl|assumption)(hs:∀x,foldedSetIterable iter X.env x=pure x:=by intro _;rfl):WS X (.Assign [.Name y py] (.ListComp elt [⟨tg,iter,ifs,0⟩] scope pos) gm) (oB (sh wi g tt te bD.length fr) (hName i)):=⟨uO (hN:=hN) (hiy:=hiy) (hy:=hy) (C:=C.h) (hsw:=hsw) (hf:=hf) (hs:=hs)⟩
variable {x:Str}{p:Pos}{id T:String}{bx:Pos}
theorem AD{r2 r3:List D->Mem->bu->Prop}(o:dz X (.builtin id) r2)(h3:kW r2 r3)(hm:X.mg x=none)(C:eI X scope bD fr tg iter ifs elt wi g tt te)(hg:Gl X x:=by rfl)(hv:bootBuiltins x=some (.builtin id):=by decide+kernel)(hn:x≠"__name__":=by decide)(hdb:(x==("__debug__":Str))=false:=by decide)(hs:∀x,foldedSetIterable iter X.env x=pure x:=by intro _;rfl):WE X (.Call (.Name x p) [.ListComp elt [⟨tg,iter,ifs,0⟩] scope bx] [] pos) (yF r3 wi g tt te bD.length fr):=⟨Li (o:=o) (h3:=h3) (hg:=hg) (hm:=hm) (hv:=hv) (C:=C.h) (hn:=hn) (hdb:=hdb) (hs:=hs)⟩
theorem uo{r2 r3:List D->Mem->bu->Prop}(o:dz X (.type T) r2)(h3:kW r2 r3)(hm:X.mg x=none)(C:eI X scope bD fr tg iter ifs elt wi g tt te)(hg:Gl X x:=by rfl)(hv:bootBuiltins x=some (.type T):=by decide+kernel)(hn:x≠"__name__":=by decide)(hdb:(x==("__debug__":Str))=false:=by decide)(hs:∀x,foldedSetIterable iter X.env x=pure x:=by intro _;rfl):WE X (.Call (.Name x p) [.ListComp elt [⟨tg,iter,ifs,0⟩] scope bx] [] pos) (yF r3 wi g tt te bD.length fr):=⟨Lh (o:=o) (h3:=h3) (hg:=hg) (hm:=hm) (hv:=hv) (C:=C.h) (hn:=hn) (hdb:=hdb) (hs:=hs)⟩
variable {o:Expr}{to:bJ}{name:Str}{apos:Pos}
end
theorem Fb{X:Cx}{es:List Expr}{zs:List Str}(h:strsOf es=some zs):WA X es (wB zs):=⟨wR h⟩
section
variable {X:Cx}{scope:Scope}{fr:List Nat}{elt iter:Expr}{ifs:List Expr}{wi:qj}{tt:dN}{te:bJ}{x y:Str}{px py pt:Pos}
theorem yr(fr:List Nat)(it:WI X (.Name x px) iter wi)(hi:∀{cl C fp s H},Rq (aS X scope cl [x] fr C fp s H) ifs tt)(he:∀{cl C fp s H},WE (aS X scope cl [x] fr C fp s H) elt te)(b:gW X scope fr:=by exact Ef (by kernel_rfl))(calm:X.calm=true:=by rfl)(xe:∀e s,X.xe e s->False:=by exact λ _ _ h=>h) (Ob:∀cl C fp s H,PG (aS X scope cl [x] fr C fp s H) (.Name x px) (cL 0):=by exact λ _ _ _ _ _=>lQ (i:=0) (of_decide_eq_true (by kernel_rfl)) rfl (by first|exact Or.inl rfl|exact Or.inr rfl)):eI X scope [x] fr (.Name x px) iter ifs elt wi (hName 0) tt te:=
 ⟨b,calm,xe,it,Av Ob (by simp),λ _ _ _ _ _=>hi,λ _ _ _ _ _=>he⟩
theorem WN{k:Nat}(fr:List Nat)(it:WI X (.Tuple [.Name x px,.Name y py] k pt) iter wi)(hi:∀{cl C fp s H},Rq (aS X scope cl [x,y] fr C fp s H) ifs tt)(he:∀{cl C fp s H},WE (aS X scope cl [x,y] fr C fp s H) elt te)(b:gW X scope fr:=by exact Ef (by kernel_rfl))(calm:X.calm=true:=by rfl)(xe:∀e s,X.xe e s->False:=by exact λ _ _ h=>h) (Ob:∀cl C fp s H,PG (aS X scope cl [x,y] fr C fp s H) (.Tuple [.Name x px,.Name y py] k pt) (zx X.K 2 (gK (cL 0) (gK (cL 1) vz))):=by exact λ _ _ _ _ _=>Cc rfl (mY (lQ (i:=0) (of_decide_eq_true (by kernel_rfl)) rfl (by first|exact Or.inl rfl|exact Or.inr rfl)) (mY (lQ (i:=1) (of_decide_eq_true (by kernel_rfl)) rfl (by first|exact Or.inl rfl|exact Or.inr rfl)) wZ))):eI X scope [x,y] fr (.Tuple [.Name x px,.Name y py] k pt) iter ifs elt wi (tu 2 (dq (hName 0) (dq (hName 1) tw))) tt te:=
 ⟨b,calm,xe,it,Au Ob (by simp) (by simp),λ _ _ _ _ _=>hi,λ _ _ _ _ _=>he⟩
end
end L4
namespace L4
open PySem PySem.Spec L2 L3
section
variable {P:Program}{w:World}{K:J8}{mg:Str->Option Value}{base:Heap}
theorem oC{x qual:Str}{st:Stmt}{f:Addr}{fd:FuncData}{ps:List Str}{k:Nat}{sp:gc}(F:fg K x qual st f fd)(N:List Str) (bW:∀(bQ:Value) (A:Around) (outer:List Env) (s:Shared) (H:Hp) (E:XK) (ds:List D) (M:Mem) (Q:bu),N.Nodup->bf k (A.deeper (PyProof.Rows.envOfC qual (aq st) s.heap.objs.size f bQ))->sp ds M Q->
   ∃t,zP (lB di P w K mg base N qual (aq st) f bQ A outer s H E).sQ (aP st) t/\t {nx:=λ _ M'=>fin2 Q .aY M',rt:=fin2 Q} (dQ N ds) M) (len:∀ds M Q,sp ds M Q->ds.length=ps.length:=by intro ds M Q;walk_at "len") (S:cu N ps (aq st):=by exact⟨rfl,rfl,rfl,by decide+kernel,rfl,by decide+kernel,by decide+kernel⟩):aX P w K mg base di (k+1) f fd ps (cw K sp):=
 Xi F S len λ bQ A outer s H E ds M Q hr h=>let⟨t,a,b⟩:=bW bQ A outer s H E ds M Q S.nd hr h;⟨t,a.h,b⟩
end
end L4
namespace L5
open PySem
def zZ(T:String)(h:Heap)(j l:Addr)(i:Nat):Prop:=∃o,h.get? j=some o/\o.cls=.type T/\o.data=.fields #[.ref l,.int i 0]
structure NK(T:String)(Sq:Heap->Addr->Array Value->Prop):Prop where
 keep:∀{h h':Heap} {l:Addr} {vs:Array Value},Sq h l vs->(∀o,h.get? l=some o->h'.get? l=some o)->Sq h' l vs
 start:∀{prog:Program} {w:World} {A:Around} {E:Value->Shared->Prop} {s:Shared} {l:Addr} {vs:Array Value} {Q:Value->Shared->Prop},Sq s.heap l vs->
  Q (.ref s.heap.objs.size) {s with heap:=s.heap.push {cls:=.type T,data:=.fields #[.ref l,.int 0 0]}}->wpAny (model prog w) A (pyIter (.ref l)) Q E s
 item:∀{prog:Program} {w:World} {A:Around} {E:Value->Shared->Prop} {s:Shared} {j l:Addr} {i:Nat} {vs:Array Value} {x:Value} {Q:Value->Shared->Prop},zZ T s.heap j l i->Sq s.heap l vs->vs[i]?=some x->
  (∀h',zZ T h' j l (i+1)->Heap.SameBut j s.heap h'->Q x {s with heap:=h'})->wpAny (model prog w) A (Builtin.SmallTypes.nextOf (.ref j)) Q E s
 stop:∀{prog:Program} {w:World} {A:Around} {E:Value->Shared->Prop} {s:Shared} {j l:Addr} {i:Nat} {vs:Array Value} {Q:Value->Shared->Prop},A.handled=none->zZ T s.heap j l i->Sq s.heap l vs->vs[i]?=none->
  (∀h' e,Heap.ExtBut j s.heap h'->(∃o,h'.get? e=some o/\o.cls=.type "StopIteration")->E (.ref e) {s with heap:=h'})->wpAny (model prog w) A (Builtin.SmallTypes.nextOf (.ref j)) Q E s
theorem Hz:NK "list_iterator" Heap.IsList where
 keep:=λ x k=>x.at k
 start:=λ x q=>x9 x q
 item:=λ a b c d=>wpAny_nextOf_list_item a b c d
 stop:=λ a b c d e=>wpAny_nextOf_list_end a b c d e
section
variable {prog:Program}{w:World}{A:Around}{E:Value->Shared->Prop}{s:Shared}
theorem Mc{j q:Addr}{i:Nat}{vs:Array Value}{x:Value}{Q:Value->Shared->Prop}(ji:s.heap.IsTupleIter j q i)(jt:s.heap.IsTuple q vs)(jx:vs[i]?=some x) (k:∀h',h'.IsTupleIter j q (i+1)->Heap.SameBut j s.heap h'->Q x {s with heap:=h'}):wpAny (model prog w) A (Builtin.SmallTypes.nextOf (.ref j)) Q E s:=by obtain⟨ob,hb,kc,kd⟩:=id ji;obtain⟨ot,ht,_,nt,dt⟩:=jt;unfold Builtin.SmallTypes.nextOf;refine G1 (j4 (name:=Str.ofString "__next__") ji.typeIs c4 (z5 c4 ji.typeIs F.entry_tuple_iterator_next ?_ (F.args_tuple_iterator_next_1 _)));refine G1 (m:=field (.ref j) 0) (G0 hb kd (x:=.ref q) rfl ?_);show wpAny _ _ (if(Value.ref q==Value.none)=true then _ else _) _ _ s;rw[J7 (show(Value.ref q==Value.none)≠true from r0)];refine G1 (m:=field (.ref j) 1) (G0 hb kd (x:=.int i 0) rfl ?_);refine G1 (m:=seqItems? (.ref q)) (wpAny_seqItems ht dt ?_);simp only[x4,jx];refine G1 (B7 hb kd (by simp) (G2 ⟨x,rfl,G2 (k _ ?_ (o4 ..))⟩));refine⟨_,k8 _ hb (l9 (u7 kd _)),(Obj.cls_mapFields ..).trans kc,?_⟩;rw[u7 kd];simp[rawInt]
theorem Kd{j q:Addr}{i:Nat}{vs:Array Value}{Q:Value->Shared->Prop}(hA:A.handled=none)(ji:s.heap.IsTupleIter j q i)(jt:s.heap.IsTuple q vs)(jx:vs[i]?=none) (k:∀h' e,Heap.ExtBut j s.heap h'->(∃o,h'.get? e=some o/\o.cls=.type "StopIteration")->E (.ref e) {s with heap:=h'}):wpAny (model prog w) A (Builtin.SmallTypes.nextOf (.ref j)) Q E s:=by obtain⟨ob,hb,kc,kd⟩:=id ji;obtain⟨ot,ht,_,nt,dt⟩:=jt;unfold Builtin.SmallTypes.nextOf;refine G1 (j4 (name:=Str.ofString "__next__") ji.typeIs c4 (z5 c4 ji.typeIs F.entry_tuple_iterator_next ?_ (F.args_tuple_iterator_next_1 _)));refine G1 (m:=field (.ref j) 0) (G0 hb kd (x:=.ref q) rfl ?_);show wpAny _ _ (if(Value.ref q==Value.none)=true then _ else _) _ _ s;rw[J7 (show(Value.ref q==Value.none)≠true from r0)];refine G1 (m:=field (.ref j) 1) (G0 hb kd (x:=.int i 0) rfl ?_);refine G1 (m:=seqItems? (.ref q)) (wpAny_seqItems ht dt ?_);simp only[x4,jx];refine G1 (wpAny_rule (G1 (B7 hb kd (by simp) ?_)));refine G1 (m:=newExc (.type "StopIteration") []) ?_;simp only[newExc,newTuple];refine G1 (x5 (G1 (m:=firstArgMember _ _) (wpAny_of_eq (a:=Value.none) (by first|rfl|(simp only[firstArgMember];rfl)) (x5 ?_ (by size_fits)))) (by size_fits));simp only[raiseNew];refine G1 (wpAny_handled ?_);have hB:A.in1.handled=none:=hA;rw[hB];exact G1 (G2 (wpAny_throw (k _ _ (((o4 ..).extBut.push _).push _) ⟨_,o8 _ rfl,rfl⟩)))
end
theorem CC:NK "tuple_iterator" Heap.IsTuple where
 keep:=λ x k=>let⟨o,a,r⟩:=x;⟨o,k o a,r⟩
 start:=λ x q=>wpAny_pyIter_tuple x q
 item:=λ a b c d=>Mc a b c d
 stop:=λ a b c d e=>Kd a b c d e
end L5
namespace L2
open PySem PySem.Spec PyProof.Rows
open PySem.SeqAt PySem.MeetsSeq PySem.MeetsSeq2 PySem.MeetsSeq3 PySem.SeqRoads2
open PySem.AutoSeq1 (wpAny_loadPart')
end L2
namespace L2
open PySem PySem.Spec PyProof.Rows L5
def Sq(b:Bool)(K:J8)(H:Hp)(a:Addr)(xs:List V):Prop:=match b with
 |true=>gb K H a xs
 |false=>fb K H a xs
def Vl(b:Bool):String:=match b with
 |true=>"tuple_iterator"
 |false=>"list_iterator"
def Qd(b:Bool):Heap->Addr->Array Value->Prop:=match b with
 |true=>Heap.IsTuple
 |false=>Heap.IsList
theorem CD:∀b,NK (Vl b) (Qd b)
 |true=>CC
 |false=>Hz
section
variable {X:Cx}{pins:List (Addr×Obj)}{σ:St}{H:Hp}{s:Shared}{a v:Addr}{xs ys:List V}
theorem uz(I:Inv X pins σ H s):∀{b:Bool},Sq b X.K H a xs->∃au:List Value,Vals xs au/\Qd b s.heap a au.toArray
 |true,h=>let⟨au,r,p,_⟩:=I.tuple h;⟨au,r,p⟩
 |false,h=>let⟨au,r,p,_⟩:=I.list h;⟨au,r,p.isList⟩
theorem Kg(I:Inv X pins σ H s):∀{b:Bool},Sq b X.K H a xs->Sq b X.K H a ys->xs=ys
 |true,h,q=>I.pe h q
 |false,h,q=>I.sV h q
theorem wI{u:HO}(h:Rd H a u):∃o,H a=some o:=by
 rcases h with h|⟨o,h⟩
 ·exact⟨_,h⟩
 ·exact⟨_,h⟩
theorem AR:∀{b:Bool} {K:J8},Sq b K H a xs->(∃o,H a=some o)\/∃o,K.lookup a=some o
 |true,K,h=>by
  rcases h with h|⟨o,au,n,hk,_⟩
  ·exact .inl (wI h)
  ·exact .inr ⟨o,hk⟩
 |false,K,h=>by
  rcases h with h|⟨o,au,n,hk,_⟩
  ·exact .inl (wI h)
  ·exact .inr ⟨o,hk⟩
theorem AS(I:Inv X pins σ H s)(f:jJ X pins H v){b:Bool}(h:Sq b X.K H a xs):a≠v:=λ e=>by
 subst e;rcases AR h with⟨o,q⟩|⟨o,q⟩
 ·rw[f.1]at q;cases q
 ·have q:=I.ok.mod.Mo a o q;rcases f.2.2.2.1 with z|z
  ·exact I.ok.vb a o q z
  ·exact absurd (u3 (C8 q) (D3 I.ok.vX z)) (C1 _)
theorem AJ{t':Nat}{ch:List Addr}{h':Heap}(I:Inv X pins σ H s)(k:∀b o,b∉ch->s.heap.get? b=some o->h'.get? b=some o)(hf:∀b∈ch,jJ X pins H b):Inv X pins σ H {s with heap:=h',toks:=t'}:=by
 have PH:∀b u,H b=some u->b∉ch:=λ b u e z=>by rw[(hf b z).1]at e;cases e
 refine I.step (g':=s.gens) (d':=s.drawn) (ch:=ch) (λ b hb=>?_) (λ b o _ _ hc e _=>k b o hc e) (λ b o _ _ hc e _=>⟨o.slots,k b o hc e⟩) (λ _ _ _ _ n=>n)
  (λ b o hc e=>⟨o,k b o hc e⟩) (λ _ _ e=>e) (λ _ _ _ e=>e) (λ b ps e=>⟨#[],by rw[e];simp⟩) (λ m hm=>?_) (λ b u e=>?_) I.bare
 ·obtain⟨f0,f1,f2,f3,f4,f5⟩:=hf b hb;exact⟨f3,f1,f4,f5⟩
 ·obtain⟨o,es,ep,ho,r⟩:=hm;exact⟨o,es,ep,k _ o (λ z=>(hf _ z).2.1 rfl) ho,r⟩
 ·refine(I.aK b u e).eK (λ c v hc q=>k c v ?_ q) (λ _ q=>q) λ _ _ q=>q;rcases hc with z|z
  ·rw[z];exact PH b u e
  ·exact PH c _ z
end
end L2
namespace L2
open PySem PySem.Spec PyProof.Rows L5 PySem.W
end L2
namespace L5
open PySem
theorem Fj:fillsNumberSlot (.type "tuple") "mul"=pure false:=fillsNumberSlot_seq (id:="tuple.__mul__") (r:=some (.builtin "tuple.__rmul__")) F.slot_tuple_mul.lookup (by decide+kernel) F.slot_tuple_rmul.lookup (by decide+kernel)
theorem JS:seqRepeat? (.type "tuple")=pure (some (.builtin "tuple.__mul__")):=by unfold seqRepeat?;rw[seqSlot_of (T:="tuple") (name:="__mul__") (id:="tuple.__mul__") F.slot_tuple_mul.lookup (by decide+kernel),seqSlot_of (T:="tuple") (name:="__rmul__") (id:="tuple.__rmul__") F.slot_tuple_rmul.lookup (by decide+kernel)];rfl
theorem JU(a:Int)(t:Tok)(l:Addr)(au:Array Value)(n:Nat)(dd:Option Addr)(sl:Array (Option Value)):Meets (Builtin.«int.__rmul__» ⟨[.int a t,.ref l],[]⟩) (λ _ R s=>s.heap.get? l=some {cls:=.type "tuple",dict:=dd,data:=.seq au n,slots:=sl}/\R (.ok (.ret Value.notImplemented)) s):=
 .of_wp λ prog w A R s h=>by
  obtain⟨hp,g,d,tk,os⟩:=s;obtain⟨hl,h⟩:=h
  wp_walk
  exact⟨_,rfl,h⟩
theorem JT(l:Addr)(au:Array Value)(n:Nat)(dd:Option Addr)(sl:Array (Option Value))(u:Tok):Meets (Builtin.«tuple.__mul__» ⟨[.ref l,.int 1 u],[]⟩) (λ _ R s=>s.heap.get? l=some {cls:=.type "tuple",dict:=dd,data:=.seq au n,slots:=sl}/\R (.ok (.ret (.ref l))) s):=
 .of_wp λ prog w A R s h=>by
  obtain⟨hp,g,d,tk,os⟩:=s;obtain⟨hl,h⟩:=h
  wp_walk
  exact⟨_,rfl,h⟩
theorem Fi(l:Addr)(au:Array Value)(n:Nat)(dd:Option Addr)(sl:Array (Option Value))(x:Int)(u:Tok)(hx:x≠1)(h1: -(2^63)<=x)(h2:x < 2^63)(hi:au.isEmpty=false)(hz:au.size*x.toNat<=sizeLine):
  Meets (Builtin.«tuple.__mul__» ⟨[.ref l,.int x u],[]⟩) (λ _ R s=>s.heap.get? l=some {cls:=.type "tuple",dict:=dd,data:=.seq au n,slots:=sl}/\
   R (.ok (.ret (.ref s.heap.objs.size))) {s with heap:=s.heap.push {cls:=.type "tuple",data:=.seq ((List.replicate x.toNat au).foldl (·++·) #[])}}):=
 .of_wp λ prog w A R s h=>by
  obtain⟨hp,g,d,tk,os⟩:=s;obtain⟨hl,h⟩:=h
  wp_walk
  rw[J7 (by simp;omega)]
  wp_walk
  by_cases Ud:x<=0
  ·rw[J0 (by simp[Ud])]
   wp_walk
   have e:x.toNat=0:=by omega
   rw[e]at h;exact⟨_,rfl,h⟩
  ·rw[J7 (by simp[hi];omega)];have ez:((au.size:Int)*x)=((au.size*x.toNat:Nat):Int):=by rw[Int.natCast_mul,Int.toNat_of_nonneg (by omega)]
   have XC:=hz;rw[D9]at XC;rw[J7 (by rw[ez];omega)]
   wp_walk
   rw[J7 (by unfold Builtin.Tuple.tupleTooMany;rw[ez,decide_eq_true_eq,D9];omega)];have hsz:(List.foldl (λ x1 x2=>x1++x2) #[] (List.replicate x.toNat au)).size<=sizeLine:=by
    have f0:∀(m:Nat) (acc:Array Value),(List.foldl (λ x1 x2=>x1++x2) acc (List.replicate m au)).size=acc.size+m*au.size:=by
     intro m
     induction m with
     |zero=>intro acc;simp
     |succ m ih=>intro acc;rw[o6,foldl_cons,ih,Array.size_append,Nat.succ_mul];omega
    rw[f0,Nat.mul_comm];simpa using hz
   wp_walk
   exact⟨_,rfl,h⟩
end L5
namespace L2
open PySem PySem.Spec PyProof.Rows L5
section
variable {X:Cx}
theorem Hd:eJ X (binaryOp .Mult) (λ x y H Q=>∃l k xs,x=.ref l/\y=.int k/\gb X.K H l xs/\xs≠[]/\-(2^63)<=k/\k < 2^63/\xs.length*k.toNat<=sizeLine/\(k=1->Q (.ref l) H)/\(k≠1->∀p,H p=none->Q (.ref p) (upd H p (.tup (List.replicate k.toNat xs).flatten)))):=by
 intro pins s σ H x y v u Q I rx ry h;obtain⟨l,k,xs,rfl,rfl,hH,ie,h1,h2,hz,q1,q2⟩:=h;cases rx;obtain⟨t,rfl⟩:=ry;obtain⟨au,r,⟨⟨c,dd,da,sl⟩,e,hc,n,hd⟩,_⟩:=I.tuple hH;have hl:=r.length;cases(show c=.type "tuple" from hc);cases(show da=.seq au.toArray n from hd);refine wpAny_binaryOp_repeat_ref (T:="tuple") (U:="int") (by decide) ⟨_,e,rfl⟩ (λ s'=>typeIs_int s' k t) Fj F.fills_int_mul F.slot_int_rmul JS F.slot_int_index.lookup
  (G3 F.slot_int_rmul (typeIs_int s k t) F.entry_int_rmul (F.args_int_rmul_2 _ _) (JU k t l au.toArray n dd sl) ⟨e,rfl,⟨_,e,rfl⟩,?_⟩)
 by_cases hk:k=1
 ·subst hk;exact G3 F.slot_tuple_mul ⟨_,e,rfl⟩ F.entry_tuple_mul (F.args_tuple_mul_2 _ _) (JT l au.toArray n dd sl t) ⟨e,.ref l,H,I,rfl,q1 rfl⟩
 ·refine G3 F.slot_tuple_mul ⟨_,e,rfl⟩ F.entry_tuple_mul (F.args_tuple_mul_2 _ _) (Fi l au.toArray n dd sl k t hk h1 h2 ?_ (by rw[y3,<- hl];exact hz)) ⟨e,?_⟩
  ·cases au with
   |nil=>cases r;exact absurd rfl ie
   |cons a b=>rfl
  ·have Dq:List.foldl (λ x1 x2=>x1++x2) #[] (List.replicate k.toNat au.toArray)=(List.replicate k.toNat au).flatten.toArray:=by have:=foldl_rep au k.toNat [];rw[nil_append]at this;exact this
   rw[Dq];have fr:=I.fresh;refine⟨.ref s.heap.objs.size,_,I.laid (t':=s.toks) (o:=.tup (List.replicate k.toNat xs).flatten) (λ b o e=>j8 _ e) (D8 _) ⟨?_,_,r.rep k.toNat,⟨_,o8 _ rfl,rfl,_,rfl⟩⟩,rfl,q2 hk _ fr⟩;rw[len_rep,Nat.mul_comm];exact hz
end
end L2
namespace L3
open PySem PySem.Spec L2 L5 PyProof.Rows
mutual
def toP:D->PyData
 | .aY=>.none
 | .bl b=>.bool b
 | .int i=>.int i
 | .str x=>.str x
 | .ty _=>.none
 | .ref _=>.none
 | .tup ds=>.tuple (toPs ds)
 | .fl ds=>.list (toPs ds)
def toPs:List D->List PyData
 |[]=>[]
 |d::ds=>toP d::toPs ds
end
mutual
def nr:D->Bool
 | .aY=>true
 | .bl _=>true
 | .int _=>true
 | .str _=>true
 | .ty _=>false
 | .ref _=>false
 | .tup ds=>va ds
 | .fl ds=>va ds
def va:List D->Bool
 |[]=>true
 |d::ds=>nr d&&va ds
end
section
variable {X:Cx}{pins:List (Addr×Obj)}{σ:L2.St}{H:Hp}{s:Shared}
mutual
theorem RX(I:Inv X pins σ H s):∀(d:D) {x:V} {u:Value},nr d=true->Dat X.K H d x->RelV x u->∃as,Reads s.heap u (toP d) as
 | .aY,x,u,_,h,r=>by cases(cq.mp h);cases r;unfold toP;exact⟨_,Reads.none⟩
 | .bl b,x,u,_,h,r=>by cases(aH.mp h);cases r;unfold toP;exact⟨_,Reads.bool b⟩
 | .int i,x,u,_,h,r=>by cases(aw.mp h);obtain⟨t,rfl⟩:=r;unfold toP;exact⟨_,Reads.int i t⟩
 | .str z,x,u,_,h,r=>by cases(aI.mp h);obtain⟨t,rfl⟩:=r;unfold toP;exact⟨_,Reads.str z t⟩
 | .ty _,x,u,n,h,r=>by unfold nr at n;cases n
 | .ref _,x,u,n,h,r=>by unfold nr at n;cases n
 | .tup ds,x,u,n,h,r=>by unfold nr at n;obtain⟨p,xs,rfl,hq,hd⟩:=aW.mp h;cases(show u=Value.ref p from r);obtain⟨au,rv,⟨o,ho,hc,m,Ae⟩,_⟩:=I.tuple hq;obtain⟨as,ra⟩:=uN I ds n hd rv;unfold toP;exact⟨_,reads_tuple_at ho hc Ae ra⟩
 | .fl ds,x,u,n,h,r=>by unfold nr at n;obtain⟨p,xs,rfl,hq,hd⟩:=km.mp h;cases(show u=Value.ref p from r);obtain⟨au,rv,pl,_⟩:=I.list hq.sq;obtain⟨o,ho,hc,m,Ae⟩:=pl.isList;obtain⟨as,ra⟩:=uN I ds n hd rv;unfold toP;exact⟨_,reads_list_at ho hc Ae ra⟩
theorem uN(I:Inv X pins σ H s):∀(ds:List D) {xs:List V} {us:List Value},va ds=true->ay X.K H ds xs->Vals xs us->∃as,ReadsAll s.heap us (toPs ds) as
 |[],xs,us,_,h,r=>by cases(av.mp h);cases r;unfold toPs;exact⟨_,ReadsAll.nil⟩
 |d::ds,xs,us,n,h,r=>by
  unfold va at n;rw[z6]at n;obtain⟨x,N8,rfl,h1,h2⟩:=aj.mp h;cases r with
  |cons r1 r2=>obtain⟨as,a⟩:=RX I d n.1 h1 r1;obtain⟨bs,b⟩:=uN I ds n.2 h2 r2;unfold toPs;exact⟨_,ReadsAll.cons a b⟩
end
end
def N0(K:J8)(H:Hp)(x:V)(a:PyData):Prop:=(∃d,nr d=true/\Dat K H d x/\toP d=a)\/∃p ds xs,x=.ref p/\fb K H p xs/\ay K H ds xs/\va ds=true/\a=.list (toPs ds)
def sH(M:Mem)(d:D):Option PyData:=match d with
 | .ref a=>match M a with
  |some (.lst ds)=>if va ds=true then some (.list (toPs ds))else none
  |_=>none
 |d=>if nr d=true then some (toP d)else none
theorem lP{K:J8}{H:Hp}{M:Mem}{d:D}{x:V}{a:PyData}(e:sH M d=some a)(h:Dat K H d x)(hm:RelM K H M):N0 K H x a:=by
 cases d with
 |ref p=>
  cases(aG.mp h);unfold sH at e;cases q:M p with
  |none=>simp[q]at e
  |some o=>
   cases o with
   |bI b kvs=>simp[q]at e
   |hX x=>simp[q]at e
   |lst ds=>
    simp only[q]at e;by_cases n:va ds=true
    ·rw[J0 n]at e;cases e;obtain⟨xs,hx,hd⟩:=hm p _ q;exact .inr ⟨p,ds,xs,rfl,fb.of hx,hd,n,rfl⟩
    ·rw[J7 n]at e;cases e
 |aY=>exact .inl ⟨_,rfl,h,by simpa[sH,nr]using e⟩
 |bl _=>exact .inl ⟨_,rfl,h,by simpa[sH,nr]using e⟩
 |int _=>exact .inl ⟨_,rfl,h,by simpa[sH,nr]using e⟩
 |str _=>exact .inl ⟨_,rfl,h,by simpa[sH,nr]using e⟩
 |ty _=>simp[sH,nr]at e
 |tup ds=>
  by_cases n:va ds=true
  ·exact .inl ⟨.tup ds,by unfold nr;exact n,h,by simpa[sH,nr,n]using e⟩
  ·simp[sH,nr,n]at e
 |fl ds=>
  by_cases n:va ds=true
  ·exact .inl ⟨.fl ds,by unfold nr;exact n,h,by simpa[sH,nr,n]using e⟩
  ·simp[sH,nr,n]at e
section
variable {X:Cx}
theorem hV{pins:List (Addr×Obj)}{σ:L2.St}{H:Hp}{s:Shared}(I:Inv X pins σ H s){x:V}{u:Value}{a:PyData}(h:N0 X.K H x a)(r:RelV x u):∃as,Reads s.heap u a as:=by
 rcases h with⟨d,n,hd,rfl⟩|⟨p,ds,xs,rfl,hq,hd,n,rfl⟩
 ·exact RX I d n hd r
 ·cases(show u=Value.ref p from r);obtain⟨au,rv,pl,_⟩:=I.list hq;obtain⟨o,ho,hc,m,Ae⟩:=pl.isList;obtain⟨as,ra⟩:=uN I ds n hd rv;exact⟨_,reads_list_at ho hc Ae ra⟩
def U6(neg:Bool):fh:=λ x y M Q=>∃a b,sH M x=some a/\sH M y=some b/\SeqAt.shaped a=true/\SeqAt.shaped b=true/\Q (.bl (if neg then !PyData.eqv a b else PyData.eqv a b)) M
theorem LW(hu:X.A.units+64 < cLine):eJ X (compareOp .Eq) (λ x y H Q=>∃a b,N0 X.K H x a/\N0 X.K H y b/\SeqAt.shaped a=true/\SeqAt.shaped b=true/\Q (.bl (PyData.eqv a b)) H):=by intro pins s σ H x y v u Q I rx ry h;obtain⟨a,b,ha,hb,sa,sb,q⟩:=h;obtain⟨as,ra⟩:=hV I ha rx;obtain⟨bs,rb⟩:=hV I hb ry;exact eq_dataH ra rb sa sb hu ⟨.bl (PyData.eqv a b),H,I,rfl,q⟩
theorem LQ(hu:X.A.units+64 < cLine):eJ X (compareOp .NotEq) (λ x y H Q=>∃a b,N0 X.K H x a/\N0 X.K H y b/\SeqAt.shaped a=true/\SeqAt.shaped b=true/\Q (.bl (!PyData.eqv a b)) H):=by intro pins s σ H x y v u Q I rx ry h;obtain⟨a,b,ha,hb,sa,sb,q⟩:=h;obtain⟨as,ra⟩:=hV I ha rx;obtain⟨bs,rb⟩:=hV I hb ry;exact ne_dataH ra rb sa sb hu ⟨.bl (!PyData.eqv a b),H,I,rfl,q⟩
theorem ff.or {f:Value->Value->Sem Value}{r r':fh}(h:ff X f r)(h':ff X f r'):ff X f (λ x y M Q=>r x y M Q\/r' x y M Q):=by
 obtain⟨a,h1,h2⟩:=h;obtain⟨b,g1,g2⟩:=h';refine⟨_,h1.or g1,λ x y d e H M Q2 Q hd he hm q k=>?_⟩;rcases q with q|q
 ·exact .inl (h2 x y d e H M Q2 Q hd he hm q k)
 ·exact .inr (g2 x y d e H M Q2 Q hd he hm q k)
def oO(neg:Bool):fh:=λ x y M Q=>JI neg x y M Q\/U6 neg x y M Q
theorem fU(hu:X.A.units+64 < cLine):ff X (compareOp .Eq) (oO false):=TJ.or ⟨_,LW hu,λ x y d e H M Q2 Q hd he hm q k=>by
 obtain⟨a,b,ha,hb,sa,sb,q⟩:=q;exact⟨a,b,lP ha hd hm,lP hb he hm,sa,sb,k _ H _ M (aH.mpr rfl) hm (ah.refl H) q⟩⟩
theorem pL(hu:X.A.units+64 < cLine):ff X (compareOp .NotEq) (oO true):=TB.or ⟨_,LQ hu,λ x y d e H M Q2 Q hd he hm q k=>by
 obtain⟨a,b,ha,hb,sa,sb,q⟩:=q;exact⟨a,b,lP ha hd hm,lP hb he hm,sa,sb,k _ H _ M (aH.mpr rfl) hm (ah.refl H) q⟩⟩
def mi:D->List D->Mem->bu->Prop:=λ x vs M Q=>∃p ds y,x=.ref p/\vs=[y]/\M p=some (.lst ds)/\ds.length < sizeLine/\Q .aY (af M p (.lst (ds++[y])))
theorem cI:NG X "list.append" mi:=⟨wQ,y_,λ x xs d ds H M Q2 Q hx hd hm q k=>by
 obtain⟨p,es,y,rfl,rfl,hM,hz,q⟩:=q;cases(aG.mp hx);obtain⟨v,r,rfl,hv,hr⟩:=aj.mp hd;cases(av.mp hr);obtain⟨zs,h1,h2⟩:=hm p _ hM;have t:=ah.lst (o:=.lst (zs++[v])) h1;refine⟨p,zs,v,rfl,rfl,h1,by rw[h2.length];exact hz,k _ _ .aY _ (cq.mpr rfl) (hm.put (u:=.lst (es++[y])) t ⟨_,aD,?_⟩) t q⟩;exact(ay.mono t es h2).append (ay.one (Dat.mono t y hv))⟩
theorem nR{K:J8}{H:Hp}:∀{ns:List Int} {xs:List V},ay K H (ns.map D.int) xs->xs=ns.map V.int
 |[],xs,h=>by rw[map_nil,av]at h;exact h
 |b::bs,xs,h=>by rw[C2,aj]at h;obtain⟨x,r,rfl,a,q⟩:=h;rw[aw]at a;rw[a,nR q];rfl
def Q8:fh:=λ x y M Q=>∃ds k,x=.tup ds/\y=.int k/\ds≠[]/\-(2^63)<=k/\k < 2^63/\ds.length*k.toNat<=sizeLine/\Q (.tup (List.replicate k.toNat ds).flatten) M
theorem nQ{K:J8}{H:Hp}{ds:List D}{xs:List V}(h:ay K H ds xs):∀k:Nat,ay K H (List.replicate k ds).flatten (List.replicate k xs).flatten
 |0=>by simp[av]
 |k+1=>by rw[o6,o6,x6,x6];exact h.append (nQ h k)
def xR:fh:=λ x y M Q=>Ng x y M Q\/Q8 x y M Q
theorem L':ff X (binaryOp .Mult) xR:=Px.or ⟨_,Hd,λ x y d e H M Q2 Q hd he hm q k=>by
 obtain⟨ds,n,rfl,rfl,ie,h1,h2,hz,q⟩:=q;obtain⟨p,xs,rfl,hq,hx⟩:=aW.mp hd;cases(aw.mp he);refine⟨p,n,xs,rfl,rfl,hq,λ z=>?_,h1,h2,by rw[hx.length];exact hz,λ e1=>?_,λ _ l hl=>?_⟩
 ·have:=hx.length;rw[z]at this;exact ie (j5.mp this.symm)
 ·subst e1;rw[show(1:Int).toNat=1 from rfl,show(List.replicate 1 ds).flatten=ds by simp]at q;exact k _ H _ M (aW.mpr ⟨p,xs,rfl,hq,hx⟩) hm (ah.refl H) q
 ·exact k _ _ (.tup _) M (gY hl (nQ hx _)) (hm.laid hl) (ah.laid hl) q⟩
end
end L3
namespace L3
open PySem PySem.Spec L2 L5
section
variable {M:Mem}{Q:bu}
theorem F'{i j:Int}(q:Q (.bl (decide (i=j))) M):oO false (.int i) (.int j) M Q:=.inl (KY q)
theorem Ga{i j:Bool}(q:Q (.bl (decide (i=j))) M):oO false (.bl i) (.bl j) M Q:=.inl (KZ q)
theorem F_{i j:Str}(q:Q (.bl (decide (i=j))) M):oO false (.str i) (.str j) M Q:=.inl (KW q)
theorem FQ{i j:Int}(q:Q (.bl (!decide (i=j))) M):oO true (.int i) (.int j) M Q:=.inl (KN q)
theorem FR{i j:Bool}(q:Q (.bl (!decide (i=j))) M):oO true (.bl i) (.bl j) M Q:=.inl (KO q)
theorem By{i j:Int}(h:rK i j)(q:Q (.int (i*j)) M):xR (.int i) (.int j) M Q:=.inl (FU h q)
theorem Bx{d:D}{k:Int}(h0:0<=k)(h1:k<=10000)(q:Q (.tup (List.replicate k.toNat d)) M):xR (.tup [d]) (.int k) M Q:=.inr ⟨[d],k,rfl,rfl,by simp,Int.le_trans (by decide) h0,u9 h1 (by decide),D3 (show 1*k.toNat<=10000 by omega) (by decide),by
 rw[show(List.replicate k.toNat [d]).flatten=List.replicate k.toNat d by simp];exact q⟩
theorem fz{p:Addr}{ds:List D}{y:D}(h:M p=some (.lst ds))(hz:ds.length < sizeLine)(q:Q .aY (af M p (.lst (ds++[y])))):mi (.ref p) [y] M Q:=⟨p,ds,y,rfl,rfl,h,hz,q⟩
abbrev row(ns:List Int):D:=.tup (ns.map D.int)
theorem FI{i j:Nat}{a b:D}{δ:bY}{N:bY->Mem->Prop}(h:N ((δ.set i (some a)).set j (some b)) M):tu 2 (dq (hName i) (dq (hName j) tw)) (.tup [a,b]) δ M N:=⟨rfl,h⟩
theorem gz{c:dN}{tb:fQ}{E:cQ}{δ:bY}(h:∃W:Nat->bY->Mem->Prop,(∃m,W m δ M)/\∀m δ M,W m δ M->c δ M λ b M1=>
  if b=true then ∃N:bY->Mem->Prop,(∀δ' M',N δ' M'->∃m',m' < m/\W m' δ' M')/\tb {E with nx:=N,ct:=N,bk:=E.nx} δ M1 else E.nx δ M1):uF c tb E δ M:=h
theorem Eb{g:iz}{tt:dN}{te:bJ}{δc:bY}{M1:Mem}{Qe:List D->Mem->Prop}{a:Addr}{ds:List D}(Pv:Nat->List D->Mem->Prop)(h0:Pv 0 [] M1)(hl:∀i acc M,i<=ds.length->Pv i acc M->M a=some (.lst ds))(hz:∀i acc M,i<=ds.length->Pv i acc M->acc.length<=sizeLine) (hs:∀i d acc M,ds[i]?=some d->Pv i acc M->g d δc M λ δ2 M2=>tt δ2 M2 λ b M3=>if b=true then te δ2 M3 λ y M4=>Pv (i+1) (acc++[y]) M4 else Pv (i+1) acc M3) (hd:∀acc M,Pv ds.length acc M->Qe acc M):∃(B:Nat) (W:Nat->List D->Mem->Prop),W 0 [] M1/\∀i acc M,W i acc M->i<=B/\acc.length<=sizeLine/\match items (.at a) M with
   |none=>False
   |some ds=>match ds[i]? with
    |none=>i=ds.length/\Qe acc M
    |some d=>g d δc M λ δ2 M2=>tt δ2 M2 λ b M3=>if b=true then te δ2 M3 λ y M4=>W (i+1) (acc++[y]) M4 else W (i+1) acc M3:=by
 refine⟨ds.length,λ i acc M=>if i<=ds.length then Pv i acc M else False,by dsimp only;rw[J0 (F0 _)];exact h0,?_⟩;intro i acc M w;by_cases hi:i<=ds.length
 ·rw[J0 hi]at w;refine⟨hi,hz i acc M hi w,?_⟩;have e0:items (.at a) M=some ds:=by show(match M a with|some (.lst ds)=>some ds|_=>none)=some ds;rw[hl i acc M hi w]
  rw[e0];show(match ds[i]? with
    |none=>i=ds.length/\Qe acc M
    |some d=>g d δc M λ δ2 M2=>tt δ2 M2 λ b M3=>if b=true then te δ2 M3 λ y M4=>(if i+1<=ds.length then Pv (i+1) (acc++[y]) M4 else False)else(if i+1<=ds.length then Pv (i+1) acc M3 else False))
  cases e:ds[i]? with
  |none=>have:i=ds.length:=B1 hi (i5.mp e);subst this;exact⟨rfl,hd acc M w⟩
  |some d=>have ig:i+1<=ds.length:=(i4.mp e).1;simp only[J0 ig];exact hs i d acc M e w
 ·rw[J7 hi]at w;exact w.elim
end
end L3
namespace L5
open PySem
open AutoSeq1 (wpAny_loadPart')
abbrev So(T:String)(h:Heap)(l:Addr):Heap:=h.push {cls:=.type T,data:=.fields #[.ref l,.int 0 0]}
abbrev U1(T:String)(h:Heap)(l:Addr):Heap:=(So T h l).push {cls:=.type "enumerate",data:=.fields #[.none,.bool false,.ref h.objs.size,rawInt 0,.none,.none]}
set_option tactic.hygienic true in
theorem vB{T:String}{S:Heap->Addr->Array Value->Prop}(k:NK T S)(l:Addr)(vs:Array Value):Meets (Builtin.«enumerate.__new__» ⟨[.type "enumerate",.ref l],[]⟩) (λ _ R s=>S s.heap l vs/\R (.ok (.ret (.ref (So T s.heap l).objs.size))) {s with heap:=U1 T s.heap l}):=
 .of_wp λ prog w A R s h=>by
  obtain⟨hp,g,d,tk,os⟩:=s;obtain⟨a1,h⟩:=h;have se:=sub_enumerate;have aT:S (Shared.heap ⟨hp,g,d,tk,os⟩) l vs:=a1
  wp_walk using k.start aT
  refine wpAny_stack_any λ st=>G2 ?_;split
  ·rename_i c _ _ _ _ _;cases(c==Value.type "enumerate")
   all_goals
    wp_walk using k.start aT
    exact⟨_,rfl,h⟩
  ·wp_walk using k.start aT
   exact⟨_,rfl,h⟩
theorem HD{prog:Program}{w:World}{A:Around}{E:Value->Shared->Prop}{s:Shared}{T:String}{S:Heap->Addr->Array Value->Prop}(kk:NK T S){l:Addr}{vs:Array Value}{Q:Value->Shared->Prop}(a1:S s.heap l vs) (k:∀h',IsEnum h' (s.heap.objs.size+1) s.heap.objs.size 0 .none->zZ T h' s.heap.objs.size l 0->(∀f o,s.heap.get? f=some o->h'.get? f=some o)->Q (.ref (s.heap.objs.size+1)) {s with heap:=h'}):wpAny (model prog w) A (call (.type "enumerate") [.ref l]) Q E s:=by refine callType_new F.called_enumerate (by decide) (F.typeCall_enumerate_1 _) (F.newCall_enumerate_1 _) (λ ob=>F.args_object_init_2 ob _) F.entry_enumerate_new (vB kk l vs) ⟨a1,?_⟩;have e1:(So T s.heap l).objs.size=s.heap.objs.size+1:=B6 ..;have g2:(U1 T s.heap l).get? (So T s.heap l).objs.size=some _:=o8 _ rfl;have g1:(U1 T s.heap l).get? s.heap.objs.size=some _:=j8 _ (o8 s.heap rfl);rw[e1]at g2;show _/\_;rw[e1];exact⟨⟨_,g2,rfl⟩,k _ g2 ⟨_,g1,rfl,rfl⟩ λ f o x=>j8 _ (j8 _ x)⟩
theorem CF{T:String}{S:Heap->Addr->Array Value->Prop}(k:NK T S){prog:Program}{w:World}{A:Around}(hA:A.handled=none)(j l:Addr)(ne:l≠j)(vs:Array Value):Draws prog w A j [j,l] vs.size (λ i v=>vs[i]?=some v) (λ i h=>zZ T h j l i/\S h l vs) where
 live:=λ _ _ st=>let⟨⟨o,ho,_⟩,_⟩:=st;⟨o,ho⟩
 frame:=λ _ _ _ st q=>let⟨⟨o,ho,r⟩,su⟩:=st;⟨⟨o,q j (by simp) o ho,r⟩,k.keep su λ o e=>q l (by simp) o e⟩
 item:=λ i s Q E hi st kk=>k.item st.1 st.2 (i0 hi) λ h' a b=>kk _ h' s.toks (i0 hi) ⟨a,k.keep st.2 λ o e=>b.extBut _ _ ne e⟩ b
 done:=λ s Q E st kk=>k.stop hA st.1 st.2 (j7 (D8 _)) kk
end L5
namespace L2
open PySem PySem.Spec PyProof.Rows L5
def SG(K:J8)(b:Bool)(l:Addr):It:=
 ⟨λ i H=>∃xs x,Sq b K H l xs/\xs[i]?=some x,
  λ i H v H'=>∃(p:Addr) (x:V),H p=none/\v=.ref p/\H'=upd H p (.tup [.int i,x])/\∀xs,Sq b K H l xs->xs[i]?=some x,
  λ i H=>∃xs,Sq b K H l xs/\xs.length<=i⟩
def WZ(b:Bool)(e j l:Addr)(i:Nat)(h:Heap):Prop:=(∃old,IsEnum h e j i old)/\zZ (Vl b) h j l i
theorem yx{P:Program}{w:World}{K:J8}{es:List Expr}{k0}{pos:Pos}{e j:Addr}(b:Bool)(B:e≠j)(l:Addr):Turn P w K (.Tuple es k0 pos) (SG K b l) [e,j] e (WZ b e j l) where
 mem:=by simp
 obj:=λ i h st c hc=>by
  obtain⟨⟨old,he⟩,⟨oa,ha,_,da⟩⟩:=st;rcases C3.mp hc with rfl|hc
  ·exact⟨_,he,λ v z=>by cases z⟩
  rcases C3.mp hc with rfl|hc
  ·exact⟨_,ha,λ v z=>by rw[da]at z;cases z⟩
  ·cases hc
 keep:=λ i h h' st q=>by obtain⟨⟨old,he⟩,⟨oa,ha,r⟩⟩:=st;exact⟨⟨old,q e (by simp) _ he⟩,⟨oa,q j (by simp) _ ha,r⟩⟩
 item:=by
  intro X hP hw hK hc i pins s σ H E I hf st hg;subst hP hw hK;obtain⟨xs,x,hl,hx⟩:=hg;obtain⟨⟨old,he⟩,hj⟩:=st;obtain⟨R6,r1,p1⟩:=uz I hl;obtain⟨u1,e1,q1⟩:=r1.get hx;have lj:l≠j:=AS I (hf j (by simp)) hl;have le:l≠e:=AS I (hf e (by simp)) hl;have hi:i < R6.toArray.size:=by have:=(i4.mp e1).1;simpa using this
  refine wpAny_pyNext_enum_itemD (CF (CD b) (A:=X.A.in1) (I.ok.hd hc) j l lj R6.toArray) he ⟨hj,p1⟩ hi B (by simp;exact⟨B,H9 le⟩) λ y g tk g1 g2 g3 g4 g5 g6=>?_;have ey:y=u1:=by rw[getElem?_toArray,e1]at g1;cases g1;rfl
  subst ey;have hn:H s.heap.objs.size=none:=I.aK.fresh (D8 _);have I1:Inv X pins σ H {s with heap:=g,toks:=tk+1}:=AJ (t':=tk+1) I (ch:=[e,j]) (λ c o hc e=>g6 c o (λ z=>hc (by simp[z])) (λ z=>hc (by simp[z])) e) hf;refine⟨_,rfl,wpAny_letOwnedTupleGo_enum (s:={s with heap:=g,toks:=tk+1}) g2 λ g' e' sb=>?_⟩;have I2:Inv X pins σ H {s with heap:=g',toks:=tk+1}:=AJ (s:={s with heap:=g,toks:=tk+1}) (t':=tk+1) (ch:=[e]) I1 (λ c o hc q=>sb.extBut _ _ (λ z=>hc (by simp[z])) q) (λ c hc=>hf c (by simp at hc ⊢;exact .inl hc));have fo:=I.qZ (H':=H) (D8 s.heap.objs.size) hn;have VJ:e < s.heap.objs.size:=C8 he;have Xv:j < s.heap.objs.size:=let⟨_,q,_⟩:=hj;C8 q
  have t5:=sb.extBut _ _ (D6 VJ) g4;have I3:Inv X pins σ (upd H s.heap.objs.size (.tup [.int i,x])) {s with heap:=g',toks:=tk+1}:=Inv.AK I2 hn ⟨show 2<=sizeLine by decide,[.int i tk,y],.cons ⟨tk,rfl⟩ (.cons q1 .nil),⟨_,t5,rfl,_,rfl⟩⟩ fo.2.1 (D3 I.sz (D8 _)) fo.2.2.2.2.1 fo.2.2.2.2.2;refine⟨.ref s.heap.objs.size,_,I3,rfl,⟨s.heap.objs.size,x,hn,rfl,rfl,λ N8 h'=>by rw[Kg I h' hl];exact hx⟩,⟨⟨_,by simpa using e'⟩,?_⟩,λ c hc=>?_⟩
  ·obtain⟨o,ho,r⟩:=g3.1;exact⟨o,sb.extBut _ _ (H9 B) ho,r⟩
  ·have ig:c < s.heap.objs.size:=by
    simp at hc;rcases hc with rfl|rfl
    ·exact VJ
    ·exact Xv
   rw[ar (C7 ig)];exact(hf c hc).1
 done:=by intro X hP hw hK hc i pins s σ H E I hf st hg;subst hP hw hK;obtain⟨xs,hl,hx⟩:=hg;obtain⟨⟨old,he⟩,hj⟩:=st;obtain⟨R6,r1,p1⟩:=uz I hl;have l1:=r1.length;have lj:l≠j:=AS I (hf j (by simp)) hl;have hT:s.TypeIs (.ref e) "enumerate":=⟨_,he,rfl⟩;unfold pyNext;refine G1 (B9 (j4 (name:=Str.ofString "__next__") hT F.slot_enumerate_next (z5 F.slot_enumerate_next hT F.entry_enumerate_next ?_ (F.args_enumerate_next_1 _))));refine G1 (m:=field (.ref e) 2) (G0 he rfl (x:=.ref j) rfl ?_);refine G1 ((CD b).stop (A:=X.A.in1) (I.ok.hd hc) hj p1 (j7 (by simp;omega)) λ g c g1 g2=>?_);obtain⟨o,ho,MP⟩:=g2;refine G1 (wpAny_isInstance (T:="StopIteration") (b:=true) ⟨o,ho,MP⟩ isSubtype_stop (G2 ⟨rfl,?_⟩));exact AJ (t':=s.toks) (ch:=[j]) I (λ b o hb q=>g1 b o (λ z=>hb (by simp[z])) q) λ b hb=>hf b (by simp at hb ⊢;exact .inr hb)
 self:=λ _ _ _ _ _ st h=>wpAny_pyIter_enum st.1.choose_spec h
section
variable {X:Cx}{es:List Expr}{k0:_}{mG:Pos}{a:Expr}{ta:TA}{p pos:Pos}
def P_(K:J8)(ta:TA):TI:=λ σ H R=>ta σ H λ vs H1=>∃(b:Bool) (l:Addr),vs=[.ref l]/\(∃xs,Sq b K H1 l xs)/\R (SG K b l) H1
theorem GX(hg:Gl X "enumerate")(hm:X.mg "enumerate"=none)(ha:PA X [a] ta)(hs:starEach [a] X.env=[(false,eval a X.env)]:=by rfl)(EE:starEach [] X.env=[]:=by rfl):PI X (.Tuple es k0 mG) (.Call (.Name "enumerate" p) [a] [] pos) (P_ X.K ta):=by
 intro pins s σ H R I h;refine Call_ (j' I hg hm boot_enumerate (a9 (bZ (ha pos pins s σ H _ I h) λ us s1 ⟨vs,H1,I1,r1,q1⟩=>?_) (by rw[hs,EE]) (by rw[EE];rfl)));obtain⟨b,l,e,⟨xs,hl⟩,q⟩:=q1;subst e;obtain⟨u1,rfl,r⟩:=vals1 r1;cases(show u1=Value.ref l from r);obtain⟨R6,r1,p1⟩:=uz I1 hl;refine HD (CD b) p1 λ g g1 g2 g7=>wpAny_pyIter_enum (s:={s1 with heap:=g}) g1 ?_;have I2:Inv X pins σ H1 {s1 with heap:=g}:=I1.kept (t':=s1.toks) g7;have fr:∀c,s1.heap.objs.size<=c->jJ X pins H1 c:=λ c hc=>I1.qZ hc (I1.aK.fresh hc);have ne:s1.heap.objs.size+1≠s1.heap.objs.size:=by omega
 refine⟨_,[s1.heap.objs.size+1,s1.heap.objs.size],_,_,H1,rfl,I2,yx b ne l,⟨⟨_,g1⟩,g2⟩,λ c hc=>fr c ?_,q⟩;simp at hc;rcases hc with rfl|rfl <;> omega
end
end L2
namespace L3
open PySem PySem.Spec L2 L5
def e_(ds:List D):List D:=(List.range ds.length).map λ(i:Nat)=>D.tup [.int (i:Int),ds.getD i D.aY]
theorem dM(ds:List D):(e_ ds).length=ds.length:=by simp[e_]
def kindB:D->Bool
 | .tup _=>true
 |_=>false
theorem qv{K:J8}{H:Hp}{M:Mem}{d:D}{ds:List D}{x:V}(e:cz M d=some ds)(h:Dat K H d x)(hm:RelM K H M):∃p xs,x=.ref p/\Sq (kindB d) K H p xs/\ay K H ds xs:=by
 cases d with
 |tup es=>cases(show some es=some ds from e);obtain⟨p,xs,rfl,h1,h2⟩:=aW.mp h;exact⟨p,xs,rfl,h1,h2⟩
 |fl es=>cases(show some es=some ds from e);obtain⟨p,xs,rfl,h1,h2⟩:=km.mp h;exact⟨p,xs,rfl,h1.sq,h2⟩
 |ref a=>cases(aG.mp h);obtain⟨xs,h1,h2⟩:=dH (show bh M a=some ds from e) hm;exact⟨a,xs,rfl,fb.of h1,h2⟩
 |_=>cases e
def kS(x:D)(M:Mem):Option (List D):=(cz M x).map e_
theorem zm{K:J8}{H1:Hp}{a:Addr}{x:D}(hx:Dat K H1 x (.ref a)):tY K H1 (SG K (kindB x) a) (.fn (kS x)):=λ H M fs t hm e=>by
 have e:(cz M x).map e_=some fs:=e;cases e1:cz M x with
 |none=>rw[e1]at e;cases e
 |some ds=>rw[e1]at e;cases e;obtain⟨p,xs,e3,q1,x1⟩:=qv e1 (Dat.mono t x hx) hm;cases e3;have l1:=x1.length;rw[dM];refine⟨λ i hi=>⟨xs,xs[i]'(by omega),q1,by simp⟩,λ i hi=>⟨xs,q1,by omega⟩,λ i v H' hi y=>?_⟩;obtain⟨p,v,hp,rfl,rfl,hx⟩:=y;obtain⟨d,d1,d2⟩:=x1.DA (hx xs q1);refine⟨ah.laid hp,hm.laid hp,.tup [.int i,d],?_,gY hp (aj.mpr ⟨.int i,[v],rfl,aw.mpr rfl,ay.one d2⟩)⟩;obtain⟨z1,w1⟩:=i4.mp d1;simp[e_,z1,w1]
def CT(ta:dE):qj:=λ δ M R=>ta δ M λ ds M1=>match ds with
 |[.tup xs]=>R (.fix (e_ xs)) M1
 |[x]=>(∃zs,cz M1 x=some zs)/\R (.fn (kS x)) M1
 |_=>False
section
variable {X:Cx}{es:List Expr}{k0:_}{mG:Pos}{a:Expr}{ta:dE}{p pos:Pos}
theorem Gz(hg:Gl X "enumerate")(hm:X.mg "enumerate"=none)(ha:QA X [a] ta)(hs:starEach [a] X.env=[(false,eval a X.env)]:=by rfl)(EE:starEach [] X.env=[]:=by rfl):QI X (.Tuple es k0 mG) (.Call (.Name "enumerate" p) [a] [] pos) (CT ta):=Ca (GX hg hm ha hs EE) λ σ H R ⟨δ,M,R2,hs,hm,q,k⟩=>by
 refine⟨δ,M,_,hs,hm,q,λ xs H1 ds M1 hd bG t1 q1=>?_⟩;have go:∀x,ds=[x]->(∃zs,cz M1 x=some zs)->(∀J,tY X.K H1 J (.fn (kS x))->R J H1)->∃(b:Bool) (l:Addr),xs=[.ref l]/\(∃xs,Sq b X.K H1 l xs)/\R (SG X.K b l) H1:=by rintro x rfl ⟨zs,hz⟩ hR;obtain⟨vx,r,rfl,hx,hr⟩:=aj.mp hd;cases(av.mp hr);obtain⟨p,vs,rfl,q1,_⟩:=qv hz hx bG;exact⟨_,p,rfl,⟨vs,q1⟩,hR _ (zm hx)⟩
 match ds,q1 with
 |[x],q1=>
  by_cases ht:∃xs,x=.tup xs
  ·obtain⟨xs,rfl⟩:=ht;exact go _ rfl ⟨_,rfl⟩ λ J hJ=>k J H1 (.fix (e_ xs)) M1 (λ H M ds t hm e=>hJ H M ds t hm e) bG t1 q1
  ·have q2:(∃zs,cz M1 x=some zs)/\R2 (.fn (kS x)) M1:=by cases x <;> first|exact q1|exact absurd ⟨_,rfl⟩ ht
   exact go x rfl q2.1 λ J hJ=>k J H1 _ M1 hJ bG t1 q2.2
 |[],q1=>exact q1.elim
 |x::y::r,q1=>cases x <;> exact q1.elim
end
end L3
namespace L4
open PySem PySem.Spec L2 L3 L5
section
variable {X:Cx}{es:List Expr}{k0:_}{mG:Pos}{a:Expr}{ta:dE}{p pos:Pos}
theorem qp(hm:X.mg "enumerate"=none)(ha:WA X [a] ta)(hg:Gl X "enumerate":=by rfl)(hs:starEach [a] X.env=[(false,eval a X.env)]:=by rfl)(EE:starEach [] X.env=[]:=by rfl):WI X (.Tuple es k0 mG) (.Call (.Name "enumerate" p) [a] [] pos) (CT ta):=⟨Gz hg hm ha.h hs EE⟩
end
end L4
namespace L2
open PySem PySem.Spec PyProof.Rows
section
variable {X:Cx}
theorem Hk:eJ X (binaryOp .Add) (λ x y H Q=>∃a b ys,x=.ref a/\y=.ref b/\gb X.K H a []/\gb X.K H b ys/\Q (.ref b) H):=by intro pins s σ H x y v u Q I rx ry h;obtain⟨a,b,ys,rfl,rfl,ha,hb,q⟩:=h;cases rx;cases ry;obtain⟨i1,r1,p1,_⟩:=I.tuple ha;obtain⟨i2,r2,p2,_⟩:=I.tuple hb;cases r1;obtain⟨⟨c1,d1,a1,l1⟩,o1,k1,n1,e1⟩:=id p1;obtain⟨⟨c2,d2,a2,l2⟩,o2,k2,n2,e2⟩:=id p2;cases(show c1=.type "tuple" from k1);cases(show a1=_ from e1);cases(show c2=.type "tuple" from k2);cases(show a2=_ from e2);exact concat_meets ⟨_,o1,rfl⟩ ⟨_,o2,rfl⟩ noFill_tuple_add seq_tuple_add PySem.F.slot_tuple_add PySem.F.entry_tuple_add (PySem.F.args_tuple_add_2 _ _) (tuple_addW0 a b #[] i2.toArray n1 n2 d1 d2 l1 l2 rfl) ⟨o1,o2,⟨.ref b,H,I,rfl,q⟩⟩
end
end L2
namespace L3
open PySem PySem.Spec L2
section
variable {X:Cx}
def tK:fh:=λ x y M Q=>Iz x y M Q\/∃ys,x=.tup []/\y=.tup ys/\Q (.tup ys) M
theorem bw:ff X (binaryOp .Add) tK:=by
 obtain⟨r,h1,h2⟩:=(Pz:ff X (binaryOp .Add) Iz);refine⟨_,h1.or Hk,λ x y d e H M Q2 Q hd he hm q k=>?_⟩;rcases q with q|⟨ys,rfl,rfl,q⟩
 ·exact .inl (h2 x y d e H M Q2 Q hd he hm q k)
 ·obtain⟨p,vs,rfl,hp,hx⟩:=aW.mp hd;obtain⟨p2,ws,rfl,iJ,hy⟩:=aW.mp he;cases(av.mp hx);exact .inr ⟨p,p2,ws,rfl,rfl,hp,iJ,k _ H _ M (aW.mpr ⟨p2,ws,rfl,iJ,hy⟩) hm (ah.refl H) q⟩
end
section
variable {M:Mem}{Q:bu}
theorem sG{i j:Int}(q:Q (.int (i+j)) M):tK (.int i) (.int j) M Q:=.inl q
theorem BJ{i j:Str}(h:i.length+j.length<=sizeLine)(q:Q (.str (i++j)) M):tK (.str i) (.str j) M Q:=.inl ⟨h,q⟩
theorem mU{a b:Addr}{xs ys:List D}(ha:M a=some (.lst xs))(hb:M b=some (.lst ys))(h:xs.length+ys.length<=sizeLine)(q:∀p,M p=none->Q (.ref p) (af M p (.lst (xs++ys)))):tK (.ref a) (.ref b) M Q:=.inl (Gj ha hb h q)
theorem sF{xs ys:List D}(h:xs.length+ys.length<=sizeLine)(q:Q (.tup (xs++ys)) M):tK (.tup xs) (.tup ys) M Q:=by
 cases xs with
 |nil=>exact .inr ⟨ys,rfl,rfl,q⟩
 |cons x xs=>exact .inl ⟨by simp,h,q⟩
end
end L3
namespace L3
open PySem L2
section
variable {g:iz}{tt:dN}{te:bJ}{δ δc:bY}{M1:Mem}{Qe:List D->Mem->Prop}
theorem S7{n:Nat}(h:n<=10000):n<=sizeLine:=D3 h (by decide)
theorem Ec{α β:Type}{xs:List α}{enc:α->D}(Nc:β->D)(I:List β->Mem->Prop)(hn:xs.length<=10000)(h0:I [] M1) (hs:∀(i:Nat) (x:α) (ys:List β) (M:Mem) (N:D->Mem->Prop),xs[i]?=some x->ys.length=i->I ys M->(∀b M',I (ys++[b]) M'->N (Nc b) M')->g (enc x) δc M λ δ2 M2=>te δ2 M2 N) (hd:∀ys M,ys.length=xs.length->I ys M->Qe (ys.map Nc) M):∃(B:Nat) (W:Nat->List D->Mem->Prop),W 0 [] M1/\∀i acc M,W i acc M->i<=B/\acc.length<=sizeLine/\match items (.fix (xs.map enc)) M with
   |none=>False
   |some ds=>match ds[i]? with
    |none=>i=ds.length/\Qe acc M
    |some d=>g d δc M λ δ2 M2=>FD δ2 M2 λ b M3=>if b=true then te δ2 M3 λ y M4=>W (i+1) (acc++[y]) M4 else W (i+1) acc M3:=by
 refine fL (λ i acc M=>∃ys:List β,acc=ys.map Nc/\ys.length=i/\I ys M) ⟨[],rfl,rfl,h0⟩ (λ i acc M hi h=>?_) (λ i d acc M hd h=>?_) (λ acc M h=>?_)
 ·obtain⟨ys,rfl,h1,_⟩:=h;rw[A8]at hi ⊢;exact S7 (by omega)
 ·obtain⟨ys,rfl,h1,h2⟩:=h;rw[x3]at hd;cases e:xs[i]? with
  |none=>rw[e]at hd;cases hd
  |some x=>rw[e]at hd;cases hd;refine hs i x ys M _ e h1 h2 λ b M' hb=>⟨ys++[b],by rw[B0];rfl,by simp[h1],hb⟩
 ·obtain⟨ys,rfl,h1,h2⟩:=h;rw[A8]at h1;exact hd ys M h1 h2
theorem take_one{α:Type}{l:List α}{i:Nat}{a:α}(h:l[i]?=some a):l.take (i+1)=l.take i++[a]:=by rw[take_add_one,h];rfl
theorem ID{α:Type}{xs:List α}{enc:α->D}(p:α->Bool)(out:α->D)(hn:xs.length<=10000) (hs:∀(i:Nat) (x:α) (N1:D->Mem->Prop) (N2:Mem->Prop),xs[i]?=some x->(p x=true->N1 (out x) M1)->(p x=false->N2 M1)->g (enc x) δc M1 λ δ2 M2=>tt δ2 M2 λ b M3=>if b=true then te δ2 M3 N1 else N2 M3) (hd:Qe ((xs.filter p).map out) M1):∃(B:Nat) (W:Nat->List D->Mem->Prop),W 0 [] M1/\∀i acc M,W i acc M->i<=B/\acc.length<=sizeLine/\match items (.fix (xs.map enc)) M with
   |none=>False
   |some ds=>match ds[i]? with
    |none=>i=ds.length/\Qe acc M
    |some d=>g d δc M λ δ2 M2=>tt δ2 M2 λ b M3=>if b=true then te δ2 M3 λ y M4=>W (i+1) (acc++[y]) M4 else W (i+1) acc M3:=by
 refine fL (λ i acc M=>M=M1/\acc=((xs.take i).filter p).map out) ⟨rfl,by simp⟩ (λ i acc M hi h=>?_) (λ i d acc M he h=>?_) (λ acc M h=>?_)
 ·obtain⟨_,rfl⟩:=h;rw[A8];refine D3 (length_filter_le _ _) ?_;rw[z7];exact S7 (by omega)
 ·obtain⟨rfl,rfl⟩:=h;rw[x3]at he;cases e:xs[i]? with
  |none=>rw[e]at he;cases he
  |some x=>
   rw[e]at he;cases he;refine hs i x _ _ e (λ hp=>⟨rfl,?_⟩) (λ hp=>⟨rfl,?_⟩)
   ·rw[take_one e,filter_append,B0];simp[hp]
   ·rw[take_one e,filter_append,B0];simp[hp]
 ·obtain⟨rfl,rfl⟩:=h;rw[A8,z4];exact hd
end
abbrev EB(i:Nat):D:=.int ((0:Int)+(i:Nat))
theorem Kz(i:Nat):EB i=.int (i:Int):=by show D.int (0+(i:Int))=_;rw[C6]
theorem pI(n:Nat):fA 0 n=(List.range n).map EB:=rfl
def Ny(R:Src->Mem->Prop)(d:D)(M1:Mem):Prop:=match d with
 | .str z=>R (.fix (jS z)) M1
 | .tup ds=>R (.fix ds) M1
 | .fl ds=>R (.fix ds) M1
 | .ref a=>(match M1 a with
  |some (.lst _)=>R (.at a) M1
  |_=>False)
 |_=>False
theorem Ge{ta:bJ}{δ:bY}{M:Mem}{R:Src->Mem->Prop}(h:ta δ M (Ny R)):Mt ta δ M R:=h
theorem Gg{ds:List D}{M:Mem}{R:Src->Mem->Prop}(h:R (.fix ds) M):Ny R (.tup ds) M:=h
theorem Gh{a:Addr}{ds:List D}{M:Mem}{R:Src->Mem->Prop}(hM:M a=some (.lst ds))(h:R (.at a) M):Ny R (.ref a) M:=by show(match M a with|some (.lst _)=>R (.at a) M|_=>False);rw[hM];exact h
end L3
namespace KK
open PySem L3 L4 L5
open L2 hiding aM gu
def JA(c:Addr)(p b sd ct:Int):List D:=[.ref c,.int p,.int b,.int sd,.int ct]
structure Flow(M:Mem)(f c:Addr):Prop where
 ex:∃(ns:List Int) (p b sd ct:Int),M f=some (.lst (JA c p b sd ct))/\M c=some (.lst (ns.map D.int))/\c≠f/\0<=p/\0<=b/\0<=sd/\sd < 2147483647
def qt:gc:=λ ds M Q=>∃(f c:Addr) (n:Int),ds=[.ref f,.int n]/\Flow M f c/\0 < n/\n < 1073741824/\∀(d:Int) (o:MO),0<=d->d < n->Flow (af M f o) f c->Q (.int d) (af M f o)
structure Fl(f c:Addr)(M M':Mem):Prop where
 cU:Flow M' f c
 mv:∀b o,b≠f->M b=some o->M' b=some o
theorem Fl.trans {f c:Addr}{M M1 M2:Mem}(a:Fl f c M M1)(b:Fl f c M1 M2):Fl f c M M2:=⟨b.cU,λ c o h e=>b.mv c o h (a.mv c o h e)⟩
theorem Fl.pick {f c:Addr}{M:Mem}{o:MO}(h:Flow (af M f o) f c):Fl f c M (af M f o):=⟨h,λ b o' hb e=>by rw[ak hb];exact e⟩
theorem Flow.there {M:Mem}{f c:Addr}(h:Flow M f c):∃o,M f=some o:=by obtain⟨ns,p,b,sd,ct,h,_⟩:=h;exact⟨_,h⟩
theorem Flow.JV {M:Mem}{f c:Addr}(h:Flow M f c):∃o,M c=some o:=by obtain⟨ns,p,b,sd,ct,_,h,_⟩:=h;exact⟨_,h⟩
theorem Flow.put {M:Mem}{f c q:Addr}{o:MO}(h:Flow M f c)(n:M q=none):Flow (af M q o) f c:=by obtain⟨ns,p,b,sd,ct,h1,h2,h3⟩:=h;exact⟨ns,p,b,sd,ct,by rw[ak (λ z=>by rw[z,n]at h1;cases h1)];exact h1,by rw[ak (λ z=>by rw[z,n]at h2;cases h2)];exact h2,h3⟩
theorem Fl.put {M:Mem}{f c q:Addr}{o:MO}(h:Flow M f c)(n:M q=none):Fl f c M (af M q o):=⟨h.put n,λ b o' hb e=>by rw[ak (λ z=>by rw[z,n]at e;cases e)];exact e⟩
theorem Flow.ne {M:Mem}{f c q:Addr}(h:Flow M f c)(n:M q=none):q≠f/\q≠c:=by
 constructor
 ·intro z;subst z;obtain⟨o,e⟩:=h.there;rw[n]at e;cases e
 ·intro z;subst z;obtain⟨o,e⟩:=h.JV;rw[n]at e;cases e
theorem small{n:Nat}(h:n<=10000):n<=sizeLine:=D3 h (by decide)
theorem dF{lo:Int}{n i:Nat}{d:D}(h:(fA lo n)[i]?=some d):i < n/\d=.int (lo+(i:Nat)):=by
 have hi:i < n:=by have:=(i4.mp h).1;rwa [bN]at this
 rw[mV hi]at h;exact⟨hi,(A6 h).symm⟩
theorem Ei{ns:List Int}{i:Nat}(h:i < ns.length):f' (ns.map D.int) (i:Int)=some (.int (ns.getD i 0)):=by refine bt ?_;simp[c6,h]
theorem eY{p:Addr}{ds:List D}{M:Mem}{Q:bu}(h:M p=some (.lst ds))(q:Q (.tup ds) M):vJ [.ref p] M Q:=by show(match bh M p with|some ds=>Q (.tup ds) M|none=>False);unfold bh;rw[h];exact q
theorem TU{M M':Mem}(h:∀b o,M b=some o->M' b=some o){q:Addr}(n:M' q=none)(x:MO):∀b o,M b=some o->af M' q x b=some o:=λ b o e=>by rw[ak (λ z=>by rw[<- z,h b o e]at n;cases n)];exact h b o e
theorem FO{d:D}{M:Mem}{Q:bu}(h:N_ M d≠some "NoneType")(q:Q (.bl false) M):vM false d .aY M Q:=by
 cases d with
 |aY=>exact absurd rfl h
 |_=>exact q
theorem xI{ds:List D}{i:Nat}{d:D}(h:(e_ ds)[i]?=some d):i < ds.length/\d=.tup [.int (i:Int),ds.getD i D.aY]:=by
 have hi:i < ds.length:=by have:=(i4.mp h).1;rwa [dM]at this
 refine⟨hi,?_⟩;unfold e_ at h;rw[x3,getElem?_range hi]at h;exact(A6 h).symm
def Ext(M M':Mem):Prop:=∀b o,M b=some o->M' b=some o
theorem Ext.own {M M':Mem}(h:Ext M M'){q:Addr}{x:MO}(n:M q=none):Ext M (af M' q x):=λ b o e=>by rw[ak (λ z=>by rw[z,n]at e;cases e)];exact h b o e
end KK
namespace HT
open PySem PySem.Spec PyProof.Rows
section
variable {prog:Program}{w:World}{A:Around}{E:Value->Shared->Prop}{s:Shared}
theorem ir{t sl:Addr}{items:Array Value}{vl vu:Value}{lo hi:Option Int}{Q:Value->Shared->Prop}(ht:IsTup s.heap t items)(hs:s.heap.IsSliceOf sl vl vu .none)(pl:IsPart vl lo)(pu:IsPart vu hi) (hw:bO items.size 0 lo=0/\bO items.size items.size hi=items.size) (h:Q (.ref t) s):wpAny (model prog w) A (getItem (.ref t) (.ref sl)) Q E s:=by
 obtain⟨os,lX,Dx,Dv⟩:=id hs;have UH:s.TypeIs (.ref sl) "slice":=⟨os,lX,Dx⟩;unfold getItem
 try with_reducible refine B8 ?_
 first|refine G1 (G2 ?_)|skip
 refine G1 (wpAny_sequenceKey ht.typeIs (by decide) ?_);refine G1 (j4 (name:=Str.ofString "__getitem__") ht.typeIs a8
  (z5 a8 ht.typeIs entry_tuple_getitem ?_ (args_tuple_getitem _ _)))
 show wpAny _ _ (Builtin.Tuple.tupleItemsOf (.ref t) >>= _) _ _ s;refine G1 (tupleItemsOf_ ht ?_);refine G1 (wpAny_typeOf UH ?_);rw[J0 (by decide)];refine G1 (eV hs pl pu ?_);have Ub:(((bO items.size 0 lo:Nat):Int)==0&&(1:Int)==1&&(bO items.size items.size hi - bO items.size 0 lo)==items.size)=true:=by rw[hw.1,hw.2];simp
 show wpAny _ _ (if(((bO items.size 0 lo:Nat):Int)==0&&(1:Int)==1&&(bO items.size items.size hi - bO items.size 0 lo)==items.size)=true then _ else _) _ _ s;rw[J0 Ub];unfold Builtin.Tuple.tupleIsExact;refine G1 (G1 (wpAny_typeOf ht.typeIs (G2 ?_)));rw[J0 (by decide)];exact G1 (wpAny_rule (G2 ⟨_,rfl,G2 h⟩))
end
end HT
namespace L2
open PySem PySem.Spec PyProof.Rows
section
variable {X:Cx}
theorem Fx:yc X (λ x lo hi H Q=>∃a xs,x=.ref a/\gb X.K H a xs/\(HT.bO xs.length 0 lo=0/\HT.bO xs.length xs.length hi=xs.length)/\Q (.ref a) H):=by
 intro pins s σ H x v vl vu lo hi sl Q I rx hs pl pu h;obtain⟨a,xs,rfl,hx,hw,q⟩:=h;cases rx;obtain⟨au,r,ht,hz⟩:=I.tuple hx;have hlen:au.toArray.size=xs.length:=by rw[y3];exact r.length.symm
 exact⟨"tuple",_,a8.lookup,ht.typeIs,HT.ir ht hs pl pu (by rw[hlen];exact hw) ⟨.ref a,H,I,rfl,q⟩⟩
end
end L2
namespace L3
open PySem PySem.Spec L2
section
variable {X:Cx}
def vK:D->Option Int->Option Int->Mem->bu->Prop:=λ x lo hi M Q=>match x with
 | .str z=>z.length<=sizeLine/\Q (.str (vO z lo hi)) M
 | .tup ds=>Q (.tup (cutD ds lo hi)) M
 | .ref a=>match bh M a with
  |some ds=>∀p,M p=none->Q (.ref p) (af M p (.lst (cutD ds lo hi)))
  |none=>False
 |_=>False
theorem sf:Rv X vK:=by
 obtain⟨r,h1,h2⟩:=(gu:Rv X Wr);refine⟨_,h1.or Fx,λ x d lo hi H M Q2 Q hd hm q k=>?_⟩;cases d with
 |tup ds=>
  by_cases hw:HT.bO ds.length 0 lo=0/\HT.bO ds.length ds.length hi=ds.length
  ·have q:Q2 (.tup (cutD ds lo hi)) M:=q;have e:cutD ds lo hi=ds:=by unfold cutD;rw[hw.1,hw.2];simp
   rw[e]at q;obtain⟨p,xs,rfl,h,hx⟩:=aW.mp hd;exact .inr ⟨p,xs,rfl,h,by rw[hx.length];exact hw,k _ H _ M (aW.mpr ⟨p,xs,rfl,h,hx⟩) hm (ah.refl H) q⟩
  ·exact .inl (h2 x (.tup ds) lo hi H M Q2 Q hd hm ⟨hw,q⟩ k)
 |str z=>exact .inl (h2 x (.str z) lo hi H M Q2 Q hd hm q k)
 |ref a=>exact .inl (h2 x (.ref a) lo hi H M Q2 Q hd hm q k)
 |_=>exact q.elim
end
section
variable {M:Mem}{Q:bu}
theorem xU{ds:List D}{i:Int}(h0:0<=i):cutD ds none (some i)=ds.take i.toNat:=by
 unfold cutD;have e:HT.bO ds.length ds.length (some i)=min i.toNat ds.length:=by show(if i < 0 then(i+(ds.length:Int)).toNat else min i.toNat ds.length)=_;rw[J7 (by omega)]
 rw[e];show(ds.drop 0).take (min i.toNat ds.length - 0)=_;rw[drop_zero,Nat.sub_zero,take_eq_take_iff];omega
theorem zF{ds:List D}{i:Int}(h0:0<=i):cutD ds (some i) none=ds.drop i.toNat:=by
 unfold cutD;have e:HT.bO ds.length 0 (some i)=min i.toNat ds.length:=by show(if i < 0 then(i+(ds.length:Int)).toNat else min i.toNat ds.length)=_;rw[J7 (by omega)]
 rw[e];show(ds.drop (min i.toNat ds.length)).take (ds.length - min i.toNat ds.length)=_;rw[j6 (by rw[length_drop];omega)];by_cases h:i.toNat<=ds.length
 ·rw[Nat.min_eq_left h]
 ·rw[Nat.min_eq_right (by omega),drop_length,drop_of_length_le (by omega)]
theorem Bv{ds:List D}{i:Int}(h0:0<=i)(q:Q (.tup (ds.take i.toNat)) M):vK (.tup ds) none (some i) M Q:=by show Q (.tup (cutD ds none (some i))) M;rw[xU h0];exact q
theorem uJ{ds:List D}{i:Int}(h0:0<=i)(q:Q (.tup (ds.drop i.toNat)) M):vK (.tup ds) (some i) none M Q:=by show Q (.tup (cutD ds (some i) none)) M;rw[zF h0];exact q
theorem wJ{a:Addr}{ds:List D}{lo hi:Option Int}(h:M a=some (.lst ds))(q:∀p,M p=none->Q (.ref p) (af M p (.lst (cutD ds lo hi)))):vK (.ref a) lo hi M Q:=by show(match bh M a with|some ds=>∀p,M p=none->Q (.ref p) (af M p (.lst (cutD ds lo hi)))|none=>False);unfold bh;rw[h];exact q
theorem jU{a:Addr}{ds:List D}{i:Int}(h:M a=some (.lst ds))(h0:0<=i)(q:∀p,M p=none->Q (.ref p) (af M p (.lst (ds.take i.toNat)))):vK (.ref a) none (some i) M Q:=by refine wJ h ?_;rw[xU h0];exact q
end
end L3
namespace L3
open PySem PySem.Spec L2 L5
section
variable {g:iz}{tt:dN}{te:bJ}{tb:fQ}{δ δc:bY}{M1:Mem}{Qe:List D->Mem->Prop}{E:cQ}
theorem Nq{src:Src}{ds:List D}(Pv:Nat->List D->Mem->Prop)(h0:Pv 0 [] M1)(hl:∀i acc M,i<=ds.length->Pv i acc M->items src M=some ds)(hz:∀i acc M,i<=ds.length->Pv i acc M->acc.length<=sizeLine) (hs:∀i d acc M,ds[i]?=some d->Pv i acc M->g d δc M λ δ2 M2=>tt δ2 M2 λ b M3=>if b=true then te δ2 M3 λ y M4=>Pv (i+1) (acc++[y]) M4 else Pv (i+1) acc M3) (hd:∀acc M,Pv ds.length acc M->Qe acc M):∃(B:Nat) (W:Nat->List D->Mem->Prop),W 0 [] M1/\∀i acc M,W i acc M->i<=B/\acc.length<=sizeLine/\match items src M with
   |none=>False
   |some ds=>match ds[i]? with
    |none=>i=ds.length/\Qe acc M
    |some d=>g d δc M λ δ2 M2=>tt δ2 M2 λ b M3=>if b=true then te δ2 M3 λ y M4=>W (i+1) (acc++[y]) M4 else W (i+1) acc M3:=by
 refine⟨ds.length,λ i acc M=>if i<=ds.length then Pv i acc M else False,by dsimp only;rw[J0 (F0 _)];exact h0,?_⟩;intro i acc M w;by_cases hi:i<=ds.length
 ·rw[J0 hi]at w;refine⟨hi,hz i acc M hi w,?_⟩;rw[hl i acc M hi w];show(match ds[i]? with
    |none=>i=ds.length/\Qe acc M
    |some d=>g d δc M λ δ2 M2=>tt δ2 M2 λ b M3=>if b=true then te δ2 M3 λ y M4=>(if i+1<=ds.length then Pv (i+1) (acc++[y]) M4 else False)else(if i+1<=ds.length then Pv (i+1) acc M3 else False))
  cases e:ds[i]? with
  |none=>have:i=ds.length:=B1 hi (i5.mp e);subst this;exact⟨rfl,hd acc M w⟩
  |some d=>have ig:i+1<=ds.length:=(i4.mp e).1;simp only[J0 ig];exact hs i d acc M e w
 ·rw[J7 hi]at w;exact w.elim
end
end L3
namespace L3
open PySem PySem.Spec L2 L5 PyProof.Rows
def Pl:Nat->D->Prop
 |0,d=>d=.aY\/(∃i,d=.int i)\/∃x,d=.str x/\PyData.strOk x=true
 |k+1,d=>d=.aY\/(∃i,d=.int i)\/(∃x,d=.str x/\PyData.strOk x=true)\/∃ds,d=.tup ds/\∀e∈ds,Pl k e
theorem fB(k:Nat)(i:Int):Pl k (.int i):=by
 cases k with
 |zero=>exact .inr (.inl ⟨i,rfl⟩)
 |succ k=>exact .inr (.inl ⟨i,rfl⟩)
theorem eL{k:Nat}{ds:List D}(h:∀e∈ds,Pl k e):Pl (k+1) (.tup ds):=.inr (.inr (.inr ⟨ds,rfl,h⟩))
theorem jX{α:Type}{k:Nat}{xs:List α}{enc:α->D}(h:∀x∈xs,Pl k (enc x)):∀e∈xs.map enc,Pl k e:=λ e he=>by obtain⟨x,hx,rfl⟩:=C9.mp he;exact h x hx
structure WC(k:Nat)(d:D):Prop where
 nr:nr d=true
 lay:(toP d).canLay0=true
 dep:(toP d).depth<=k
structure Va(k:Nat)(ds:List D):Prop where
 nr:va ds=true
 lay:PyData.canLayAll0 (toPs ds)=true
 dep:PyData.depthAll (toPs ds)<=k
theorem jk{k:Nat}:∀{ds:List D},(∀e∈ds,WC k e)->Va k ds
 |[],_=>⟨by unfold va;rfl,by unfold toPs;simp[PyData.canLayAll0],by unfold toPs;simp[PyData.depthAll]⟩
 |d::ds,h=>by
  have h1:=h d (q9 ..);have h2:=jk (ds:=ds) λ e he=>h e (m7 _ he);refine⟨?_,?_,?_⟩
  ·unfold va;rw[h1.nr,h2.nr];rfl
  ·unfold toPs;simp only[PyData.canLayAll0];rw[h1.lay,h2.lay];rfl
  ·unfold toPs;simp only[PyData.depthAll];exact Nat.max_le.mpr ⟨h1.dep,h2.dep⟩
theorem Pl.f:∀{k:Nat} {d:D},Pl k d->WC k d
 |0,d,h=>by
  rcases h with rfl|⟨i,rfl⟩|⟨x,rfl,hx⟩
  ·exact⟨by unfold L3.nr;rfl,by unfold toP;simp[PyData.canLay0],by unfold toP;simp[PyData.depth]⟩
  ·exact⟨by unfold L3.nr;rfl,by unfold toP;simp[PyData.canLay0],by unfold toP;simp[PyData.depth]⟩
  ·exact⟨by unfold L3.nr;rfl,by unfold toP;simp[PyData.canLay0,hx],by unfold toP;simp[PyData.depth]⟩
 |k+1,d,h=>by
  rcases h with rfl|⟨i,rfl⟩|⟨x,rfl,hx⟩|⟨ds,rfl,h⟩
  ·exact⟨by unfold L3.nr;rfl,by unfold toP;simp[PyData.canLay0],by unfold toP;simp[PyData.depth]⟩
  ·exact⟨by unfold L3.nr;rfl,by unfold toP;simp[PyData.canLay0],by unfold toP;simp[PyData.depth]⟩
  ·exact⟨by unfold L3.nr;rfl,by unfold toP;simp[PyData.canLay0,hx],by unfold toP;simp[PyData.depth]⟩
  ·have q:=jk λ e he=>Pl.f (h e he);refine⟨?_,?_,?_⟩
   ·unfold L3.nr;exact q.nr
   ·unfold toP;simp only[PyData.canLay0];exact q.lay
   ·unfold toP;simp only[PyData.depth];have:=q.dep;omega
theorem nO{k:Nat}(ih:∀x y:D,Pl k x->Pl k y->(PyData.eqv (toP x) (toP y)=true↔x=y)):∀{ds es:List D},(∀e∈ds,Pl k e)->(∀e∈es,Pl k e)->(PyData.eqvAll (toPs ds) (toPs es)=true↔ds=es)
 |[],[],_,_=>by unfold toPs;simp[PyData.eqvAll]
 |[],e::es,_,_=>by unfold toPs;simp[PyData.eqvAll]
 |d::ds,[],_,_=>by unfold toPs;simp[PyData.eqvAll]
 |d::ds,e::es,h1,h2=>by have a:=ih d e (h1 d (q9 ..)) (h2 e (q9 ..));have b:=nO ih (ds:=ds) (es:=es) (λ x hx=>h1 x (m7 _ hx)) (λ x hx=>h2 x (m7 _ hx));unfold toPs;simp only[PyData.eqvAll,z6,a,b,List.cons.injEq]
theorem il:∀{k:Nat} (x y:D),Pl k x->Pl k y->(PyData.eqv (toP x) (toP y)=true↔x=y)
 |0,x,y,hx,hy=>by rcases hx with rfl|⟨i,rfl⟩|⟨z,rfl,_⟩ <;> rcases hy with rfl|⟨j,rfl⟩|⟨w,rfl,_⟩ <;> simp[toP,PyData.eqv]
 |k+1,x,y,hx,hy=>by
  rcases hx with rfl|⟨i,rfl⟩|⟨z,rfl,_⟩|⟨ds,rfl,hd⟩ <;> rcases hy with rfl|⟨j,rfl⟩|⟨w,rfl,_⟩|⟨es,rfl,he⟩ <;> first
   |(simp[toP,PyData.eqv];done)
   |(have:=nO (λ x y=>il (k:=k) x y) hd he
     unfold toP;simp only[PyData.eqv,D.tup.injEq];exact this)
theorem nP{k:Nat}{x y:D}(hx:Pl k x)(hy:Pl k y){b:Bool}(hb:b=true↔x=y):PyData.eqv (toP x) (toP y)=b:=by rw[A0];exact(il x y hx hy).trans hb.symm
theorem g_{k:Nat}{d:D}(h:Pl k d)(hk:k<=60):SeqAt.shaped (toP d)=true:=by have f:=h.f;unfold SeqAt.shaped;rw[f.lay,B5 (by have:=f.dep;omega)];rfl
theorem mK{k:Nat}{ds:List D}(h:∀e∈ds,Pl k e)(hk:k<=60):SeqAt.shaped (.list (toPs ds))=true:=by
 have f:=jk λ e he=>(h e he).f;have h1:(PyData.list (toPs ds)).canLay0=true:=by simp only[PyData.canLay0];exact f.lay
 have h2:(PyData.list (toPs ds)).depth<=64:=by simp only[PyData.depth];have:=f.dep;omega
 unfold SeqAt.shaped;rw[h1,B5 h2];rfl
theorem qD{k:Nat}{d:D}{M:Mem}(h:Pl k d):sH M d=some (toP d):=by
 have f:=h.f.nr;cases d with
 |ref a=>unfold nr at f;cases f
 |_=>unfold sH;dsimp only;rw[J0 f]
section
variable {M:Mem}{Q:bu}
theorem wN{k:Nat}{x y:D}{b:Bool}(hx:Pl k x)(hy:Pl k y)(hk:k<=60)(hb:b=true↔x=y)(q:Q (.bl b) M):oO false x y M Q:=by refine .inr ⟨_,_,qD hx,qD hy,g_ hx hk,g_ hy hk,?_⟩;rw[nP hx hy hb];exact q
theorem FT{k:Nat}{x y:D}{b:Bool}(hx:Pl k x)(hy:Pl k y)(hk:k<=60)(hb:b=true↔x=y)(q:Q (.bl (!b)) M):oO true x y M Q:=by refine .inr ⟨_,_,qD hx,qD hy,g_ hx hk,g_ hy hk,?_⟩;rw[nP hx hy hb];exact q
theorem wW{k:Nat}{p:Addr}{ds:List D}(hM:M p=some (.lst ds))(h:∀e∈ds,Pl k e):sH M (.ref p)=some (.list (toPs ds)):=by have f:=jk λ e he=>(h e he).f;unfold sH;simp only[hM];rw[J0 f.nr]
theorem zA{k:Nat}{ds es:List D}(h1:∀e∈ds,Pl k e)(h2:∀e∈es,Pl k e){b:Bool}(hb:b=true↔ds=es):PyData.eqv (.list (toPs ds)) (.list (toPs es))=b:=by rw[A0];have:=nO (λ x y=>il (k:=k) x y) h1 h2;simp only[PyData.eqv];exact this.trans hb.symm
theorem wK{k:Nat}{p p2:Addr}{ds es:List D}{b:Bool}(hM:M p=some (.lst ds))(YN:M p2=some (.lst es))(h1:∀e∈ds,Pl k e)(h2:∀e∈es,Pl k e)(hk:k<=60)(hb:b=true↔ds=es)(q:Q (.bl (!b)) M):oO true (.ref p) (.ref p2) M Q:=by refine .inr ⟨_,_,wW hM h1,wW YN h2,mK h1 hk,mK h2 hk,?_⟩;rw[zA h1 h2 hb];exact q
end
section
variable {X:Cx}
theorem jY{A:Around}{s:Shared}{v:Value}{y:PyData}{bs:List Addr}(ry:Reads s.heap v y bs)(cy:y.canLay0=true)(hu:A.units+y.depth < cLine):∀{ds:List D} {us:List Value} {as:List Addr},ReadsAll s.heap us (toPs ds) as->PyData.canLayAll0 (toPs ds)=true->
  ∃e:Value->Bool,(∀u∈us,SeqAt.EqAt A s u v (e u))/\us.map e=ds.map λ d=>PyData.eqv (toP d) y:=by
 intro ds us as ra cl;refine⟨λ u=>PyData.eqv (SeqAt.readOf s.heap u) y,λ u XZ=>?_,?_⟩
 ·obtain⟨d,ZL,rd,cd,_⟩:=SeqAt.readsAll_mem _ _ _ cl ra u XZ;have e:=SeqAt.readOf_eq cd rd;dsimp only;rw[e];exact SeqAt.eqAt_reads d y A s u v _ _ rd ry cd cy (by omega)
 ·have e:=SeqAt.readsAll_map _ _ _ cl ra;have f:∀(us:List Value) (ds:List D),us.map (SeqAt.readOf s.heap)=toPs ds->us.map (λ u=>PyData.eqv (SeqAt.readOf s.heap u) y)=ds.map λ d=>PyData.eqv (toP d) y:=by
   intro us
   induction us with
   |nil=>
    intro ds q;cases ds with
    |nil=>rfl
    |cons d r=>unfold toPs at q;cases q
   |cons u us ih=>
    intro ds q;cases ds with
    |nil=>unfold toPs at q;cases q
    |cons d r=>
     unfold toPs at q;rw[C2]at q;injection q with q1 q2
     rw[C2,C2,ih r q2,q1]
  exact f us ds e
structure RC(K:J8)(H:Hp)(b:Bool)(p:Addr)(xs:List V)(ds:List D)(x:V)(d:D):Prop where
 sq:Sq b K H p xs
 Iu:ay K H ds xs
 dat:Dat K H d x
 ns:va ds=true
 n:nr d=true
 ze:PyData.canLayAll0 (toPs ds)=true
 lay:(toP d).canLay0=true
 dep:(toP d).depth < 62
theorem any_map{α:Type}(us:List α)(e:α->Bool)(bs:List Bool)(h:us.map e=bs):us.any e=bs.any id:=by rw[<- h,List.any_map];rfl
theorem LV(neg:Bool)(hu:X.A.units+64 < cLine):eJ X (compareOp (if neg then .NotIn else .In)) (λ x y H Q=>∃(b:Bool) (p:Addr) (xs:List V) (ds:List D) (d:D),y=.ref p/\RC X.K H b p xs ds x d/\Q (.bl (if neg then !ds.any (λ e=>PyData.eqv (toP e) (toP d))else ds.any λ e=>PyData.eqv (toP e) (toP d))) H):=by
 intro pins s σ H x y v u Q I rx ry h;obtain⟨b,p,xs,ds,d,rfl,ok,q⟩:=h;cases ry;obtain⟨bs,rb⟩:=RX I d ok.n ok.dat rx;have hd:=ok.dep;cases b with
 |false=>
  obtain⟨au,r,pl,hz⟩:=I.list ok.sq;obtain⟨as,ra⟩:=uN I ds ok.ns ok.Iu r;obtain⟨e,e1,e2⟩:=jY (A:=X.A.in1) rb ok.lay (by show X.A.units+1+_ < _;omega) ra ok.ze;have e3:au.toArray.any e=ds.any λ e=>PyData.eqv (toP e) (toP d):=by rw[show au.toArray.any e=au.any e by simp,any_map _ _ _ e2,List.any_map];rfl
  cases neg with
  |false=>exact SeqAt.in_listAt e pl.isList (λ w hw=>e1 w (by simpa using hw)) ⟨.bl _,H,I,rfl,by rw[e3];exact q⟩
  |true=>exact SeqAt.notIn_listAt e pl.isList (λ w hw=>e1 w (by simpa using hw)) ⟨.bl _,H,I,rfl,by rw[e3];exact q⟩
 |true=>
  obtain⟨au,r,pl,hz⟩:=I.tuple ok.sq;obtain⟨as,ra⟩:=uN I ds ok.ns ok.Iu r;obtain⟨e,e1,e2⟩:=jY (A:=X.A.in1) rb ok.lay (by show X.A.units+1+_ < _;omega) ra ok.ze;have e3:au.toArray.any e=ds.any λ e=>PyData.eqv (toP e) (toP d):=by rw[show au.toArray.any e=au.any e by simp,any_map _ _ _ e2,List.any_map];rfl
  cases neg with
  |false=>exact SeqAt.in_tupleAt e pl (λ w hw=>e1 w (by simpa using hw)) ⟨.bl _,H,I,rfl,by rw[e3];exact q⟩
  |true=>exact SeqAt.notIn_tupleAt e pl (λ w hw=>e1 w (by simpa using hw)) ⟨.bl _,H,I,rfl,by rw[e3];exact q⟩
end
end L3
namespace L2
open PySem PySem.Spec PyProof.Rows L5
section
variable {X:Cx}
theorem tP(hc:X.calm=true):de X (.builtin "any") (λ xs H Q=>∃(p:Addr) (bs:List Bool),xs=[.ref p]/\fb X.K H p (bs.map V.bl)/\Q (.bl (bs.any id)) H):=by
 intro pins s σ H xs us Q I r h;obtain⟨p,bs,rfl,hq,q⟩:=h;obtain⟨u,rfl,r1⟩:=vals1 r;cases r1;obtain⟨au,rv,pl,hz⟩:=I.list hq;refine call_any_walk (x9 pl.isList ?_);have ie:p≠s.heap.objs.size:=by obtain⟨o,n,e,_⟩:=pl;exact C7 (C8 e)
 have hlen:au.length=bs.length:=by rw[<- rv.length,A8]
 refine⟨s.heap.objs.size,_,_,_,_,_,λ i=>(bs[i]?).getD false,rfl,Walks.list (A:=X.A.in1) (show X.A.in1.handled=none from I.ok.hd hc) s.heap.objs.size p ie au.toArray,⟨⟨_,o8 _ rfl,rfl,rfl⟩,pl.isList.at λ o e=>j8 _ e⟩,?_,λ h' tk hk=>?_⟩
 ·intro i v s' Q' E' hP hQ;have QQ:au[i]?=some v:=by simpa using hP
  have hi:i < bs.length:=by rw[<- hlen];exact(i4.mp QQ).1
  have hb:(bs.map V.bl)[i]?=some (V.bl bs[i]):=by simp[hi]
  obtain⟨u,hu,ru⟩:=rv.get hb;rw[QQ]at hu;cases hu;have e:v=Value.bool bs[i]:=ru;subst e;have:(bs[i]?).getD false=bs[i]:=by simp[hi]
  dsimp only at hQ;rw[this]at hQ;exact x8 hQ
 ·refine⟨.bl (bs.any id),H,I.kept (t':=tk) λ b o e=>hk b o (by simpa using C7 (C8 e)) (j8 _ e),?_,q⟩;show Value.bool _=Value.bool _;congr 1;rw[y3,hlen];rw[A0];simp only[List.any_eq_true,mem_range,id];constructor
  ·rintro⟨i,hi,h⟩;exact⟨bs[i],z8 hi,by simpa[hi]using h⟩
  ·rintro⟨b,hb,h⟩;obtain⟨i,hi,rfl⟩:=mem_iff_getElem.mp hb;exact⟨i,hi,by simpa[hi]using h⟩
end
end L2
namespace L3
open PySem PySem.Spec L2 L5 PyProof.Rows
section
variable {X:Cx}
def Rc:List D->Mem->bu->Prop:=λ xs M Q=>∃(a:Addr) (bs:List Bool),xs=[.ref a]/\bh M a=some (bs.map D.bl)/\Q (.bl (bs.any id)) M
theorem Rl(hc:X.calm=true):dz X (.builtin "any") Rc:=⟨_,tP hc,λ xs ds H M Q2 Q hd hm q k=>by
 obtain⟨a,bs,rfl,hM,q⟩:=q;obtain⟨x,r,rfl,hx,hr⟩:=aj.mp hd;cases(av.mp hr);cases(aG.mp hx);obtain⟨ys,h,hy⟩:=dH hM hm;exact⟨a,bs,rfl,fb.of (by rw[h,nS hy]),k _ H _ M (aH.mpr rfl) hm (ah.refl H) q⟩⟩
def JJ:List D->Mem->bu->Prop:=λ ds M Q=>∃bs:List Bool,ds=bs.map D.bl/\Q (.bl (bs.any id)) M
theorem Fg:kW Rc JJ:=λ ds M p Q hp hz q=>by obtain⟨bs,rfl,q⟩:=q;exact⟨p,bs,rfl,pN,M,(n_.refl M).put hp,q⟩
def JG:List D->Mem->bu->Prop:=λ xs M Q=>(∃b,xs=[.bl b]/\Q (.int (if b then 1 else 0)) M)\/∃i,xs=[.int i]/\Q (.int i) M
theorem vW:dz X (.type "int") JG:=⟨_,zJ,λ xs ds H M Q2 Q hd hm q k=>by
 rcases q with⟨b,rfl,q⟩|⟨b,rfl,q⟩
 ·obtain⟨v,r,rfl,hv,hr⟩:=aj.mp hd;cases(av.mp hr);cases(aH.mp hv);exact .inr ⟨b,rfl,k _ H _ M (aw.mpr rfl) hm (ah.refl H) q⟩
 ·obtain⟨v,r,rfl,hv,hr⟩:=aj.mp hd;cases(av.mp hr);cases(aw.mp hv);exact .inl ⟨b,rfl,k _ H _ M (aw.mpr rfl) hm (ah.refl H) q⟩⟩
def Q6:fh:=λ x y M Q=>∃l k ds,x=.ref l/\y=.int k/\M l=some (.lst ds)/\-(2^63)<=k/\k < 2^63/\ds.length*k.toNat<=sizeLine/\∀p,M p=none->Q (.ref p) (af M p (.lst (List.replicate k.toNat ds).flatten))
def xQ:fh:=λ x y M Q=>xR x y M Q\/Q6 x y M Q
theorem eN:ff X (binaryOp .Mult) xQ:=L'.or ⟨_,LO,λ x y d e H M Q2 Q hd he hm q k=>by
 obtain⟨l,n,ds,rfl,rfl,hM,h1,h2,hz,q⟩:=q;cases(aG.mp hd);cases(aw.mp he);obtain⟨xs,hx,V'⟩:=hm l _ hM;exact⟨l,n,xs,rfl,rfl,hx,h1,h2,by rw[V'.length];exact hz,λ p hp=>k _ _ (.ref p) _ (aG.mpr rfl) (dB hp (nQ V' n.toNat) hm) (ah.laid hp) (q p (hm.free hp))⟩⟩
structure Vf(M:Mem)(x y:D)(ds:List D):Prop where
 sq:cz M y=some ds
 ns:va ds=true
 n:nr x=true
 ze:PyData.canLayAll0 (toPs ds)=true
 lay:(toP x).canLay0=true
 dep:(toP x).depth < 62
def Nj(neg:Bool):fh:=λ x y M Q=>∃ds,Vf M x y ds/\Q (.bl (if neg then !ds.any (λ e=>PyData.eqv (toP e) (toP x))else ds.any λ e=>PyData.eqv (toP e) (toP x))) M
theorem Jr(neg:Bool)(hu:X.A.units+64 < cLine):ff X (compareOp (if neg then .NotIn else .In)) (Nj neg):=⟨_,LV neg hu,λ x y d e H M Q2 Q hd he hm q k=>by
 obtain⟨ds,ok,q⟩:=q;obtain⟨p,xs,rfl,q1,x1⟩:=qv ok.sq he hm;exact⟨_,p,xs,ds,d,rfl,⟨q1,x1,hd,ok.ns,ok.n,ok.ze,ok.lay,ok.dep⟩,k _ H _ M (aH.mpr rfl) hm (ah.refl H) q⟩⟩
def Nk:fh:=λ x y M Q=>Wt x y M Q\/Nj false x y M Q
theorem xh(hu:X.A.units+64 < cLine):ff X (compareOp .In) Nk:=TF.or (Jr false hu)
def xO:fh:=λ x y M Q=>∃i j,x=.str i/\y=.str j/\Q (.bl (!(!(Builtin.Str.occurrences j i 0 j.length 1).isEmpty))) M
theorem Cu:ff X (compareOp .NotIn) xO:=⟨_,qJ,λ x y d e H M Q2 Q hd he hm q k=>by
 obtain⟨i,j,rfl,rfl,q⟩:=q;cases(aI.mp hd);cases(aI.mp he);exact⟨i,j,rfl,rfl,k _ H _ M (aH.mpr rfl) hm (ah.refl H) q⟩⟩
def mh:fh:=λ x y M Q=>xO x y M Q\/Nj true x y M Q
theorem ng(hu:X.A.units+64 < cLine):ff X (compareOp .NotIn) mh:=Cu.or (Jr true hu)
structure RB(ds:List D)(y:D)(j:Nat):Prop where
 lt:j < ds.length
 hit:∀e,ds[j]?=some e->PyData.eqv (toP e) (toP y)=true
 no:∀m e,m < j->ds[m]?=some e->PyData.eqv (toP e) (toP y)=false
def vN:D->List D->Mem->bu->Prop:=λ x vs M Q=>∃p ds y j,x=.ref p/\vs=[y]/\M p=some (.lst ds)/\Vf M y x ds/\RB ds y j/\Q (.int (j:Nat)) M
theorem xk(hu:X.A.units+64 < cLine):NG X "list.index" vN:=⟨λ x vs H Q=>∃p ds xs d y j,x=.ref p/\vs=[y]/\RC X.K H false p xs ds y d/\RB ds d j/\Q (.int (j:Nat)) H,by
  intro pins s σ H x xs v us Q I rx rv h;obtain⟨p,ds,zs,d,y,j,rfl,rfl,ok,ix,q⟩:=h;cases(show v=Value.ref p from rx);obtain⟨u,rfl,ru⟩:=rv.one;have hd:=ok.dep;obtain⟨bs,rb⟩:=RX I d ok.n ok.dat ru;obtain⟨au,r,pl,hz⟩:=I.list ok.sq;obtain⟨as,ra⟩:=uN I ds ok.ns ok.Iu r;obtain⟨e,e1,e2⟩:=jY (A:=X.A.in1) rb ok.lay (by show X.A.units+1+_ < _;omega) ra ok.ze;obtain⟨⟨c,dd,da,sl⟩,ho,hc,n,Ae⟩:=pl.isList;cases(show c=.type "list" from hc);cases(show da=.seq au.toArray n from Ae);have l1:=r.length;have l2:=ok.Iu.length;have ig:=ix.lt;have at_:∀m (hm:m < au.length) (jw:m < ds.length),e au[m]=PyData.eqv (toP ds[m]) (toP d):=λ m hm jw=>by have:=G8 (·[m]?) e2;simp only[x3,i7 hm,i7 jw,Option.map_some,Option.some.injEq]at this;exact this
  have hs:ds.length<=16777216:=by
   have h2:zs.length<=sizeLine:=hz;have h3:sizeLine=16777216:=by decide
   omega
  refine G3 PySem.F.slot_list_index ⟨_,ho,rfl⟩ PySem.F.entry_list_index (PySem.F.args_list_index_2 _ _) (SeqAt.list_indexAt p au.toArray n dd sl u e j (by simp;omega) (by omega) ?_ ?_) ⟨ho,λ y hy=>e1 y (by simpa using hy),?_⟩
  ·have:=at_ j (by omega) ig;simp only[getElem_toArray];rw[this];exact ix.hit _ (i7 ig)
  ·intro m hm Yi;have cE:m < au.length:=by simpa using hm
   have:=at_ m cE (by omega);simp only[getElem_toArray];rw[this];exact ix.no m _ Yi (i7 (by omega))
  ·exact⟨.int _,H,I.tok _,⟨_,rfl⟩,q⟩,λ x xs d ds H M Q2 Q hx hd hm q k=>by
  obtain⟨p,es,y,j,rfl,rfl,hM,ok,ix,q⟩:=q;cases(aG.mp hx);obtain⟨v,r,rfl,hv,hr⟩:=aj.mp hd;cases(av.mp hr);obtain⟨zs,hz,jz⟩:=hm p _ hM;exact⟨p,es,zs,y,v,j,rfl,rfl,⟨fb.of hz,jz,hv,ok.ns,ok.n,ok.ze,ok.lay,ok.dep⟩,ix,k _ H _ M (aw.mpr rfl) hm (ah.refl H) q⟩⟩
def Q7:D->List D->Mem->bu->Prop:=λ x vs M Q=>(∃p ds y,x=.ref p/\vs=[]/\M p=some (.lst ds)/\ds[ds.length - 1]?=some y/\Q y (af M p (.lst ds.dropLast)))\/
 ∃p ds i k y,x=.ref p/\vs=[.int i]/\M p=some (.lst ds)/\-(2^63)<=i/\i < 2^63/\seqIndex? i ds.length=some k/\ds[k]?=some y/\Q y (af M p (.lst (ds.eraseIdx k)))
theorem ay.eraseIdx {K:J8}{H:Hp}:∀{ds:List D} {xs:List V} (n:Nat),ay K H ds xs->ay K H (ds.eraseIdx n) (xs.eraseIdx n)
 |[],xs,n,h=>by rw[av]at h;subst h;simp[av]
 |d::ds,xs,0,h=>by obtain⟨x,r,rfl,a,b⟩:=aj.mp h;exact b
 |d::ds,xs,n+1,h=>by obtain⟨x,r,rfl,a,b⟩:=aj.mp h;rw[eraseIdx_cons_succ,eraseIdx_cons_succ,aj];exact⟨x,_,rfl,a,b.eraseIdx n⟩
theorem ay.dropLast {K:J8}{H:Hp}{ds:List D}{xs:List V}(h:ay K H ds xs):ay K H ds.dropLast xs.dropLast:=by rw[dropLast_eq_take,dropLast_eq_take,h.length];exact h.take _
theorem JM.or {id:String}{r r':V->List V->Hp->VK->Prop}(h:JM X id r)(h':JM X id r'):JM X id (λ x vs H Q=>r x vs H Q\/r' x vs H Q):=by
 intro pins s σ H x xs v us Q I a b q;rcases q with q|q
 ·exact h pins s σ H x xs v us Q I a b q
 ·exact h' pins s σ H x xs v us Q I a b q
theorem Js:NG X "list.pop" Q7:=⟨_,JM.or Mg CH,λ x xs d ds H M Q2 Q hx hd hm q k=>by
 rcases q with⟨p,es,y,rfl,rfl,hM,hy,q⟩|⟨p,es,i,j,y,rfl,rfl,hM,h1,h2,hs,hy,q⟩
 ·cases(aG.mp hx);cases(av.mp hd);obtain⟨zs,h1,h2⟩:=hm p _ hM;obtain⟨v,hv,Ui⟩:=h2.get hy;have t:=ah.lst (o:=.lst zs.dropLast) h1;exact .inl ⟨p,zs,v,rfl,rfl,h1,by rw[h2.length];exact hv,k _ _ y _ (Dat.mono t y Ui) (hm.put (u:=.lst es.dropLast) t ⟨_,aD,ay.mono t _ h2.dropLast⟩) t q⟩
 ·cases(aG.mp hx);obtain⟨v0,r,rfl,XW,hr⟩:=aj.mp hd;cases(av.mp hr);cases(aw.mp XW);obtain⟨zs,g1,g2⟩:=hm p _ hM;obtain⟨v,hv,Ui⟩:=g2.get hy;have t:=ah.lst (o:=.lst (zs.eraseIdx j)) g1;exact .inr ⟨p,zs,i,j,v,rfl,rfl,g1,h1,h2,by rw[g2.length];exact hs,hv,k _ _ y _ (Dat.mono t y Ui) (hm.put (u:=.lst (es.eraseIdx j)) t ⟨_,aD,ay.mono t _ (g2.eraseIdx j)⟩) t q⟩⟩
end
section
variable {M:Mem}{Q:bu}
theorem BC{b:Bool}(q:Q (.int (if b then 1 else 0)) M):JG [.bl b] M Q:=.inl ⟨b,rfl,q⟩
theorem sy{i j:Int}(h:rK i j)(q:Q (.int (i*j)) M):xQ (.int i) (.int j) M Q:=.inl (By h q)
theorem gA{d:D}{k:Int}(h0:0<=k)(h1:k<=10000)(q:Q (.tup (List.replicate k.toNat d)) M):xQ (.tup [d]) (.int k) M Q:=.inl (Bx h0 h1 q)
theorem sx{p:Addr}{d:D}{k:Int}(hM:M p=some (.lst [d]))(h0:0<=k)(h1:k<=10000)(q:∀p,M p=none->Q (.ref p) (af M p (.lst (List.replicate k.toNat d)))):xQ (.ref p) (.int k) M Q:=by
 refine .inr ⟨p,k,[d],rfl,rfl,hM,Int.le_trans (by decide) h0,u9 h1 (by decide),?_,?_⟩
 ·have:[d].length*k.toNat<=10000:=by simp;omega
  exact S7 this
 ·have e:(List.replicate k.toNat [d]).flatten=List.replicate k.toNat d:=by
   generalize k.toNat=n
   induction n with
   |zero=>rfl
   |succ n ih=>rw[o6,x6,ih,o6];rfl
  rw[e];exact q
theorem dR{a:Addr}{ds:List D}(h:M a=some (.lst ds)):cz M (.ref a)=some ds:=by show bh M a=some ds;unfold bh;rw[h]
theorem ke{k:Nat}{x y:D}{ds:List D}(hs:cz M y=some ds)(hx:Pl k x)(hd:∀e∈ds,Pl k e)(hk:k<=60):Vf M x y ds:=by have f:=jk λ e he=>(hd e he).f;exact⟨hs,f.nr,hx.f.nr,f.lay,hx.f.lay,by have:=hx.f.dep;omega⟩
theorem Ej{k:Nat}{x:D}{ds:List D}(hx:Pl k x)(hd:∀e∈ds,Pl k e){b:Bool}(hb:b=true↔x∈ds):(ds.any λ e=>PyData.eqv (toP e) (toP x))=b:=by
 rw[A0,hb,List.any_eq_true];constructor
 ·rintro⟨e,he,h⟩;rw[<- (il e x (hd e he) hx).mp h];exact he
 ·intro h;exact⟨x,h,(il x x hx hx).mpr rfl⟩
theorem FZ{k:Nat}{x y:D}{ds:List D}{b:Bool}(hs:cz M y=some ds)(hx:Pl k x)(hd:∀e∈ds,Pl k e)(hk:k<=60)(hb:b=true↔x∈ds)(q:Q (.bl b) M):Nk x y M Q:=by refine .inr ⟨ds,ke hs hx hd hk,?_⟩;rw[Ej hx hd hb];exact q
theorem mT{k:Nat}{x y:D}{ds:List D}{b:Bool}(hs:cz M y=some ds)(hx:Pl k x)(hd:∀e∈ds,Pl k e)(hk:k<=60)(hb:b=true↔x∈ds)(q:Q (.bl (!b)) M):mh x y M Q:=by refine .inr ⟨ds,ke hs hx hd hk,?_⟩;rw[Ej hx hd hb];exact q
theorem qL{α:Type}{xs:List α}{enc:α->D}(inj:∀a b,enc a=enc b->a=b)(a:α):enc a∈xs.map enc↔a∈xs:=by
 rw[C9];constructor
 ·rintro⟨b,hb,e⟩;rw[<- inj _ _ e];exact hb
 ·intro h;exact⟨a,h,rfl⟩
theorem sA{α:Type}[DecidableEq α]{k:Nat}{p:Addr}{xs:List α}{a:α}(enc:α->D)(inj:∀a b,enc a=enc b->a=b)(hM:M p=some (.lst (xs.map enc)))(ha:a∈xs)(hp:∀a,Pl k (enc a))(hk:k<=60)(q:Q (.int (xs.idxOf a:Nat)) M):vN (.ref p) [enc a] M Q:=by
 have ig:xs.idxOf a < xs.length:=idxOf_lt_length_of_mem ha;refine⟨p,xs.map enc,enc a,xs.idxOf a,rfl,rfl,hM,ke (dR hM) (hp a) (jX λ x _=>hp x) hk,⟨by rw[A8];exact ig,λ e he=>?_,λ m e hm he=>?_⟩,q⟩
 ·rw[x3,i7 ig,getElem_idxOf]at he;cases he;exact(il _ _ (hp a) (hp a)).mpr rfl
 ·rw[x3,i7 (by omega)]at he;cases he;refine nP (hp _) (hp a) ⟨(λ z=>by cases z),λ z=>?_⟩;have:=inj _ _ z;have ie:=not_of_lt_findIdx (p:=(·==a)) (xs:=xs) (i:=m) hm;exact absurd (show(xs[m]==a)=true by rw[this];simp) (by simpa using ie)
theorem Bw{p:Addr}{ds:List D}{y:D}(hM:M p=some (.lst (ds++[y])))(q:Q y (af M p (.lst ds))):Q7 (.ref p) [] M Q:=by refine .inl ⟨p,ds++[y],y,rfl,rfl,hM,by simp,?_⟩;rw[dropLast_concat];exact q
end
end L3
namespace L3
open PySem PySem.Spec L2 L5 PyProof.Rows
def Bp(i:Nat)(te:bJ):fQ:=λ E δ M=>∃a,δ[i]?=some (some (.int a))/\te δ M λ d M1=>∃b,d=.int b/\E.nx (δ.set i (some (.int (a+b)))) M1
section
variable {X:Cx}{pos:Pos}{te:bJ}
theorem Gu{i:Nat}{x:Str}{e:Expr}{pos':Pos}(hN:X.N.Nodup)(hi:X.N[i]?=some x)(hx:Loc X.env.scope x)(he:QE X e te)(hf:X.fn x=true\/X.env.scope.names.lookup x=some .local:=by first|exact .inl rfl|exact .inr rfl|assumption):QS X (.AugAssign (.Name x pos') .Add e pos) (Bp i te):=eZ (Lv hN hi hx he MA hf) λ E σ H ⟨δ,M,D2,hs,hm,⟨a,ea,q⟩,k⟩=>by obtain⟨v,ev,hv⟩:=hs.get i _ ea;cases(aw.mp hv);refine⟨_,ev,δ,M,_,hs,hm,q,λ y H1 d M1 hd bG t1 q1=>?_⟩;obtain⟨b,rfl,q1⟩:=q1;cases(aw.mp hd);exact⟨_,_,rfl,rfl,k.nx _ _ _ _ ((hs.mono t1).set (aw.mpr rfl)) bG t1 q1⟩
end
theorem Gd{i:Nat}{te:bJ}{E:cQ}{δ:bY}{M:Mem}{a:Int}(ea:δ[i]?=some (some (.int a)))(h:te δ M λ d M1=>∃b,d=.int b/\E.nx (δ.set i (some (.int (a+b)))) M1):Bp i te E δ M:=⟨a,ea,h⟩
def DR(R:Src->Mem->Prop)(ds:List D)(M1:Mem):Prop:=match ds with
 |[.tup xs]=>R (.fix (e_ xs)) M1
 |[x]=>(∃zs,cz M1 x=some zs)/\R (.fn (kS x)) M1
 |_=>False
theorem BE{ta:dE}{δ:bY}{M:Mem}{R:Src->Mem->Prop}(h:ta δ M (DR R)):CT ta δ M R:=h
theorem BF{xs:List D}{M:Mem}{R:Src->Mem->Prop}(h:R (.fix (e_ xs)) M):DR R [.tup xs] M:=h
theorem BG{a:Addr}{xs:List D}{M:Mem}{R:Src->Mem->Prop}(hM:M a=some (.lst xs))(h:R (.fn (kS (.ref a))) M):DR R [.ref a] M:=⟨⟨xs,dR hM⟩,h⟩
end L3
namespace L4
open PySem PySem.Spec L2 L3 L5
section
variable {X:Cx}{pos:Pos}{te:bJ}
theorem E_{x:Str}{e:Expr}{pos':Pos}(i:Nat)(he:WE X e te)(hN:X.N.Nodup:=by exact nd)(hi:X.N[i]?=some x:=by rfl)(hx:Loc X.env.scope x:=by first|exact Or.inl rfl|exact Or.inr rfl)(hf:X.fn x=true\/X.env.scope.names.lookup x=some .local:=by first|exact .inl rfl|exact .inr rfl|assumption):WS X (.AugAssign (.Name x pos') .Add e pos) (Bp i te):=⟨Gu hN hi hx he.h hf⟩
end
end L4
namespace L2
open PySem PySem.Spec PyProof.Rows
section
variable {X:Cx}
def Tj(K:J8)(x y:V)(H:Hp)(Q:Bool->Prop):Prop:=(∃a o,y=.ref a/\oW H a x o/\Q o.isSome)\/∃a b kvs k,y=.ref a/\x=.ref b/\oj K H a kvs/\k.dep<=5/\gG K H k (.ref b)/\Q (iX kvs k).isSome
theorem Hh(neg:Bool)(hu:X.A.units+64 < cLine):eJ X (compareOp (if neg then .NotIn else .In)) (λ x y H Q=>Tj X.K x y H λ b=>Q (.bl (if neg then !b else b)) H):=by
 intro pins s σ H x y v u Q I rx ry h;rcases h with⟨a,o,rfl,g,q⟩|⟨a,b,kvs,k,rfl,rfl,d,hk,ue,q⟩
 ·cases(show u=Value.ref a from ry);cases neg with
  |false=>exact U5 (by omega) I g rx λ s3 I3=>⟨.bl o.isSome,H,I3,rfl,q⟩
  |true=>exact Iv (by omega) I g rx λ s3 I3=>⟨.bl (!o.isSome),H,I3,rfl,q⟩
 ·cases(show u=Value.ref a from ry);cases(show v=Value.ref b from rx);cases neg with
  |false=>exact SS hu I d hk ue λ s3 I3=>⟨.bl (iX kvs k).isSome,H,I3,rfl,q⟩
  |true=>exact Fp hu I d hk ue λ s3 I3=>⟨.bl (!(iX kvs k).isSome),H,I3,rfl,q⟩
def OO(K:J8)(x y:V)(H:Hp)(Q:VK):Prop:=(∃a v,x=.ref a/\oW H a y (some v)/\Q v H)\/∃a b kvs k v,x=.ref a/\y=.ref b/\oj K H a kvs/\k.dep<=5/\gG K H k (.ref b)/\iX kvs k=some v/\Q v H
theorem Mx(hu:X.A.units+64 < cLine):wb X (λ x y H Q=>OO X.K x y H Q):=by
 intro value slice pins s σ H x y v u Q I rx ry h hs;rcases h with⟨a,w,rfl,g,q⟩|⟨a,b,kvs,k,w,rfl,rfl,d,hk,ue,g,q⟩
 ·cases(show v=Value.ref a from rx);refine tail_any (ops:=[.ref a,u]) (tG I g) PySem.F.slot_dict_getitem.lookup ?_ hs;exact zD (by omega) I g ry λ w' s3 I3 kZ=>⟨w,H,I3,kZ,q⟩
 ·cases(show v=Value.ref a from rx);cases(show u=Value.ref b from ry);obtain⟨_,_,xs,_,dd⟩:=d.of I;refine tail_any (ops:=[.ref a,.ref b]) dd.typeIs PySem.F.slot_dict_getitem.lookup ?_ hs;exact yA hu I d hk ue g λ w' s3 I3 kZ=>⟨w,H,I3,kZ,q⟩
def ON(K:J8):zR:=λ o i v H Q=>(∃a H',o=.ref a/\Er H a i v H'/\Q H')\/∃a b kvs k,o=.ref a/\i=.ref b/\oj K H a kvs/\k.dep<=5/\gG K H k (.ref b)/\kvs.length < sizeLine/\Q (upd H a (rN a (jg kvs k b v)))
theorem FC(hu:X.A.units+64 < cLine):rG X (ON X.K):=by
 intro pins s σ H o i v ov iv u Q I ro ri rv h;rcases h with⟨a,H',rfl,g,q⟩|⟨a,b,kvs,k,rfl,rfl,d,hk,ue,hl,q⟩
 ·cases(show ov=Value.ref a from ro);exact zB (by omega) I g ri rv λ s3 I3=>⟨H',I3,q⟩
 ·cases(show ov=Value.ref a from ro);cases(show iv=Value.ref b from ri);exact yz hu I d hk ue hl rv λ s3 I3=>⟨_,I3,q⟩
theorem vU:de X (.builtin "len") (λ xs H Q=>∃a,xs=[.ref a]/\((∃kvs,H a=some (.dK kvs)/\Q (.int kvs.length) H)\/∃kvs,H a=some (rN a kvs)/\Q (.int kvs.length) H)):=by
 intro pins s σ H xs us Q I r h;obtain⟨a,rfl,h⟩:=h;obtain⟨u,rfl,ru⟩:=vals1 r;cases(show u=Value.ref a from ru);rcases h with⟨kvs,e,q⟩|⟨kvs,e,q⟩
 ·exact Q5 I (.inl e) λ t s' I'=>⟨.int kvs.length,H,I',⟨t,rfl⟩,q⟩
 ·exact Oc I e λ t s' I'=>⟨.int kvs.length,H,I',⟨t,rfl⟩,q⟩
end
end L2
namespace L3
open PySem PySem.Spec L2 L5 PyProof.Rows
noncomputable instance Zm:DecidableEq D:=λ a b=>Classical.propDecidable (a=b)
noncomputable def cj (kvs:List (D×D))(k:D):Option D:=(kvs.find? λ p=>decide (p.1=k)).map (·.2)
noncomputable def putD (kvs:List (D×D))(k v:D):List (D×D):=if(cj kvs k).isSome=true then kvs.map (λ p=>if p.1=k then(p.1,v)else p)else kvs++[(k,v)]
def fW(t:Bool)(x:D):Prop:=match t with
 |false=>∃k:Key,x=lh k
 |true=>∃ks:List IK,x=lW (.t ks)/\(IK.t ks).dep<=5
def Ab(K:J8)(H:Hp):Option D->Option V->Prop
 |none,none=>True
 |some d,some v=>Dat K H d v
 |_,_=>False
section
variable {K:J8}{H:Hp}
theorem Es.look {kvs:List (D×D)}{xs:List (Key×V)}(h:Es K H kvs xs)(k:Key):Ab K H (cj kvs (lh k)) (iG xs k):=by
 induction h with
 |nil=>exact True.intro
 |@cons p q ps qs ud t ih=>
  obtain⟨h1,h2⟩:=ud;unfold cj iG at ih ⊢;by_cases e:q.1=k
  ·have e':p.1=lh k:=by rw[h1,e]
   simp only[A3,B5 e,B5 e',Option.map_some];exact h2
  ·have e':¬p.1=lh k:=λ z=>e (sZ (h1.symm.trans z));simp only[A3,A4 e,A4 e'];exact ih
theorem Aa.look {kvs:List (D×D)}{xs:List eh}(h:Aa K H kvs xs)(k:IK):Ab K H (cj kvs (lW k)) (iX xs k):=by
 induction h with
 |nil=>exact True.intro
 |@cons p q ps qs ud t ih=>
  obtain⟨h1,_,_,h2⟩:=ud;unfold cj iX at ih ⊢;by_cases e:q.1=k
  ·have e':p.1=lW k:=by rw[h1,e]
   simp only[A3,B5 e,B5 e',Option.map_some];exact h2
  ·have e':¬p.1=lW k:=λ z=>e (qV (h1.symm.trans z));simp only[A3,A4 e,A4 e'];exact ih
theorem Ab.isSome {o:Option D}{u:Option V}(h:Ab K H o u):o.isSome=u.isSome:=by
 cases o with
 |none=>cases u with
  |none=>rfl
  |some _=>exact(show False from h).elim
 |some _=>cases u with
  |none=>exact(show False from h).elim
  |some _=>rfl
theorem Ab.some_of {d:D}{u:Option V}(h:Ab K H (some d) u):∃v,u=some v/\Dat K H d v:=by
 cases u with
 |none=>exact(show False from h).elim
 |some v=>exact⟨v,rfl,h⟩
theorem Aa.keys {a:Addr}{kvs:List (D×D)}{xs:List eh}(h:Aa K H kvs xs)(e:H a=some (rN a xs)):oj K H a xs:=by
 refine⟨e,?_⟩;clear e
 induction h with
 |nil=>intro p hp;cases hp
 |@cons p q ps qs ud t ih=>
  intro x hx;rcases C3.mp hx with rfl|hx
  ·obtain⟨h1,h2,h3,_⟩:=ud;rw[h1]at h3;exact⟨h2,kj _ h3⟩
  ·exact ih x hx
theorem BR(xs:List (Key×V))(k:Key)(v:V):putK xs k v=if(iG xs k).isSome=true then xs.map (λ kv=>if kv.1=k then(kv.1,v)else kv)else xs++[(k,v)]:=by unfold putK;rw[mE]
theorem Es.put {kvs:List (D×D)}{xs:List (Key×V)}(h:Es K H kvs xs)(k:Key){d:D}{v:V}(hd:Dat K H d v):Es K H (putD kvs (lh k) d) (putK xs k v):=by
 rw[BR];unfold putD;rw[(h.look k).isSome];by_cases e:(iG xs k).isSome=true
 ·rw[J0 e,J0 e];clear e
  induction h with
  |nil=>exact .nil
  |@cons p q ps qs ud t ih=>
   rw[C2,C2];refine .cons ?_ ih;obtain⟨h1,h2⟩:=ud;by_cases e:q.1=k
   ·rw[J0 e,J0 (by rw[h1,e])];exact⟨h1,hd⟩
   ·rw[J7 e,J7 (λ z=>e (sZ (h1.symm.trans z)))];exact⟨h1,h2⟩
 ·rw[J7 e,J7 e];exact Paired.snoc h ⟨rfl,hd⟩
theorem Aa.put {kvs:List (D×D)}{xs:List eh}(h:Aa K H kvs xs)(k:IK){b:Addr}{d:D}{v:V}(hk:k.dep<=5)(hb:Dat K H (lW k) (.ref b))(hd:Dat K H d v):Aa K H (putD kvs (lW k) d) (jg xs k b v):=by
 unfold putD jg;rw[(h.look k).isSome];by_cases e:(iX xs k).isSome=true
 ·rw[J0 e,J0 e];clear e
  induction h with
  |nil=>exact .nil
  |@cons p q ps qs ud t ih=>
   rw[C2,C2];refine .cons ?_ ih;obtain⟨h1,h2,h3,h4⟩:=ud;by_cases e:q.1=k
   ·rw[J0 e,J0 (by rw[h1,e])];exact⟨h1,h2,h3,hd⟩
   ·rw[J7 e,J7 (λ z=>e (qV (h1.symm.trans z)))];exact⟨h1,h2,h3,h4⟩
 ·rw[J7 e,J7 e];exact Paired.snoc h ⟨rfl,hk,hb,hd⟩
end
section
variable {X:Cx}
def Ra(neg:Bool):fh:=λ x y M Q=>∃a t kvs,y=.ref a/\M a=some (.bI t kvs)/\fW t x/\Q (.bl (if neg then !(cj kvs x).isSome else(cj kvs x).isSome)) M
theorem lL{K:J8}{H:Hp}{ks:List IK}{v:V}(h:Dat K H (lW (.t ks)) v):∃b,v=.ref b:=by unfold lW at h;obtain⟨p,xs,rfl,_⟩:=aW.mp h;exact⟨p,rfl⟩
theorem Mb(neg:Bool)(hu:X.A.units+64 < cLine):ff X (compareOp (if neg then .NotIn else .In)) (Ra neg):=⟨_,Hh neg hu,λ x y d e H M Q2 Q hd he hm q k=>by
 obtain⟨a,t,kvs,rfl,hM,ok,q⟩:=q;cases(aG.mp he);have hr:=hm a _ hM;cases t with
 |false=>obtain⟨xs,hx,rel⟩:=hr;obtain⟨kk,rfl⟩:=ok;rw[md hd];refine .inl ⟨a,_,rfl,oW.k hx,k _ H _ M (aH.mpr rfl) hm (ah.refl H) ?_⟩;rw[<- (rel.look kk).isSome];exact q
 |true=>
  obtain⟨xs,hx,rel⟩:=hr;obtain⟨ks,rfl,jy⟩:=ok;obtain⟨b,rfl⟩:=lL hd;refine .inr ⟨a,b,xs,_,rfl,rfl,rel.keys hx,jy,kj _ hd,k _ H _ M (aH.mpr rfl) hm (ah.refl H) ?_⟩;rw[<- (rel.look _).isSome];exact q⟩
def xP:fh:=λ x y M Q=>mh x y M Q\/Ra true x y M Q
theorem m_(hu:X.A.units+64 < cLine):ff X (compareOp .NotIn) xP:=(ng hu).or (Mb true hu)
def Rb:fh:=λ x y M Q=>∃a t kvs d,x=.ref a/\M a=some (.bI t kvs)/\fW t y/\cj kvs y=some d/\Q d M
def Nh:fh:=λ x y M Q=>Ni x y M Q\/Rb x y M Q
theorem dj(hu:X.A.units+64 < cLine):RA X Nh:=by
 obtain⟨r,h1,h2⟩:=(L3.aM:RA X Ni);refine⟨_,h1.or (Mx hu),λ x y d e H M Q2 Q hd he hm q k=>?_⟩;rcases q with q|⟨a,t,kvs,w,rfl,hM,ok,hl,q⟩
 ·exact .inl (h2 x y d e H M Q2 Q hd he hm q k)
 ·cases(aG.mp hd);have hr:=hm a _ hM;cases t with
  |false=>obtain⟨xs,hx,rel⟩:=hr;obtain⟨kk,rfl⟩:=ok;have hv:=rel.look kk;rw[hl]at hv;obtain⟨v,e1,e2⟩:=hv.some_of;rw[md he];exact .inr (.inl ⟨a,v,rfl,by rw[<- e1];exact oW.k hx,k _ H _ M e2 hm (ah.refl H) q⟩)
  |true=>obtain⟨xs,hx,rel⟩:=hr;obtain⟨ks,rfl,jy⟩:=ok;have hv:=rel.look (.t ks);rw[hl]at hv;obtain⟨v,e1,e2⟩:=hv.some_of;obtain⟨b,rfl⟩:=lL he;exact .inr (.inr ⟨a,b,xs,_,v,rfl,rfl,rel.keys hx,jy,kj _ he,e1,k _ H _ M e2 hm (ah.refl H) q⟩)
def Q_:jH:=λ o i v M N=>∃a t kvs,o=.ref a/\M a=some (.bI t kvs)/\fW t i/\kvs.length < sizeLine/\N (af M a (.bI t (putD kvs i v)))
def JF:jH:=λ o i v M N=>Iy o i v M N\/Q_ o i v M N
theorem rG.or {t u:zR}(h:rG X t)(g:rG X u):rG X (λ o i v H Q=>t o i v H Q\/u o i v H Q):=by
 intro pins s σ H o i v ov iv uu Q I ro ri rv q;rcases q with q|q
 ·exact h pins s σ H o i v ov iv uu Q I ro ri rv q
 ·exact g pins s σ H o i v ov iv uu Q I ro ri rv q
theorem uE(hu:X.A.units+64 < cLine):Em X JF:=by
 obtain⟨r,h1,h2⟩:=(mM:Em X Iy);refine⟨_,rG.or h1 (FC hu),λ o i v d j e H M Q2 Q hd hj he hm q k=>?_⟩;rcases q with q|⟨a,t,kvs,rfl,hM,ok,hl,q⟩
 ·exact .inl (h2 o i v d j e H M Q2 Q hd hj he hm q k)
 ·cases(aG.mp hd);have hr:=hm a _ hM;cases t with
  |false=>obtain⟨xs,hx,rel⟩:=hr;obtain⟨kk,rfl⟩:=ok;rw[md hj];have t:=ah.mut (o:=.dK (putK xs kk v)) hx (λ _ z=>by cases z) (λ _ _ z=>by cases z);refine .inr (.inl ⟨a,_,rfl,Er.k hx (by rw[<- C0 rel];exact hl),k _ _ (hm.put (u:=.bI false (putD kvs (lh kk) e)) t ⟨_,aD,(rel.put kk he).mono t⟩) t q⟩)
  |true=>obtain⟨xs,hx,rel⟩:=hr;obtain⟨ks,rfl,jy⟩:=ok;obtain⟨b,rfl⟩:=lL hj;have t:=ah.mut (o:=rN a (jg xs (.t ks) b v)) hx (λ _ z=>by cases z) (λ _ _ z=>by cases z);refine .inr (.inr ⟨a,b,xs,_,rfl,rfl,rel.keys hx,jy,kj _ hj,by rw[<- C0 rel];exact hl,k _ _ (hm.put (u:=.bI true (putD kvs (lW (.t ks)) e)) t ⟨_,aD,(rel.put (.t ks) jy hj he).mono t⟩) t q⟩)
def xS:List D->Mem->bu->Prop:=λ xs M Q=>vL xs M Q\/∃a t kvs,xs=[.ref a]/\M a=some (.bI t kvs)/\Q (.int (kvs.length:Nat)) M
theorem ku:dz X (.builtin "len") xS:=by
 obtain⟨r,h1,h2⟩:=(L3.dW:dz X (.builtin "len") vL);refine⟨_,h1.or vU,λ xs ds H M Q2 Q hd hm q k=>?_⟩;rcases q with q|⟨a,t,kvs,rfl,hM,q⟩
 ·exact .inl (h2 xs ds H M Q2 Q hd hm q k)
 ·obtain⟨x,r,rfl,hx,hr⟩:=aj.mp hd;cases(av.mp hr);cases(aG.mp hx);have hr:=hm a _ hM;cases t with
  |false=>obtain⟨xs,hx,rel⟩:=hr;exact .inr ⟨a,rfl,.inl ⟨xs,hx,by rw[<- C0 rel];exact k _ H _ M (aw.mpr rfl) hm (ah.refl H) q⟩⟩
  |true=>obtain⟨xs,hx,rel⟩:=hr;exact .inr ⟨a,rfl,.inr ⟨xs,hx,by rw[<- C0 rel];exact k _ H _ M (aw.mpr rfl) hm (ah.refl H) q⟩⟩
end
end L3
namespace L2
open PySem PySem.Spec PySem.W PyProof.Rows L5
section
variable {X:Cx}
theorem Ci{k v:Expr}{tk tv:TE}{pos:Pos}(hu:X.A.units+64 < cLine)(hk:PE X k tk)(hv:PE X v tv):PE X (.Dict [some k] [v] pos) (λ σ H Q=>∀p,H p=none->tk σ (upd H p (rN p [])) λ x H1=>tv σ H1 λ y H2=>∃b ik,x=.ref b/\H2 p=some (rN p [])/\ik.dep<=5/\gG X.K H2 ik (.ref b)/\Q (.ref p) (upd H2 p (rN p (jg [] ik b y)))):=by
 intro pins s σ H Q I h;refine wpAny_Dict_any rfl rfl (by simp) (by simp) ?_;have I0:=I.laid (a:=s.heap.objs.size) (o:=rN s.heap.objs.size []) (t':=s.toks) (λ _ _ q=>j8 _ q) (D8 _) (vC (Io s.heap I.big));refine pairTrees_cons_walk (bZ (hk pins _ σ _ _ I0 (h _ (I.aK.fresh (D8 _)))) λ kv s1 ⟨x,H1,I1,r1,q1⟩=>bZ (hv pins s1 σ H1 _ I1 q1) λ vv s2 ⟨y,H2,I2,r2,q2⟩=>pairTrees_nil_walk ?_);obtain⟨b,ik,rfl,hp,hd,ue,q⟩:=q2;cases(show kv=Value.ref b from r1);generalize s.heap.objs.size=p at*;obtain⟨z,nm,xs,rel,dd⟩:=oj.of I2 (kvs:=[]) ⟨hp,λ _ z=>by cases z⟩;cases rel;have Dr:(jg [] ik b y).length<=sizeLine:=by have:=sL [] ik b y;exact D3 this (by decide)
 unfold storeAll;rw[forIn_cons];refine G1 (G1 (wpAny_dictSet_heap (knd:=iY X.prog X.w) (hsz:=F0 _) (show X.A.units+8 < cLine by omega) ⟨hd,nA I2 ik ue rfl⟩ dd λ h' Ag hs=>G2 ?_));dsimp only;rw[forIn_nil];obtain⟨q',es,ep,hq,h2,h3,h4,_,h5⟩:=Ag;exact G2 ⟨.ref p,_,jE I2 (by rw[hp];exact True.intro) hs ⟨q',hq⟩ (vC ⟨Dr,nm,_,Am.put .nil ik r2,q',es,ep,hq,h2,h3,h4,h5⟩),rfl,q⟩
end
end L2
namespace L3
open PySem PySem.Spec L2 L5 PyProof.Rows
section
variable {X:Cx}
def Bo(tk tv:bJ):bJ:=λ δ M Q=>∀p,M p=none->tk δ (af M p (.bI true [])) λ x M1=>tv δ M1 λ y M2=>M2 p=some (.bI true [])/\fW true x/\Q (.ref p) (af M2 p (.bI true [(x,y)]))
theorem wV{k v:Expr}{tk tv:bJ}{pos:Pos}(hu:X.A.units+64 < cLine)(hk:QE X k tk)(hv:QE X v tv):QE X (.Dict [some k] [v] pos) (Bo tk tv):=by refine bK (Ci hu hk hv) ?_;rintro σ H Q ⟨δ,M,Q2,hs,hm,q,k⟩ p hp;have t0:ah H (upd H p (rN p [])):=ah.laid hp;refine⟨δ,af M p (.bI true []),_,hs.mono t0,hm.put (u:=.bI true []) t0 ⟨[],aD,.nil⟩,q p (hm.free hp),λ x H1 d M1 hd bG t1 q1=>?_⟩;refine⟨δ,M1,_,(hs.mono t0).mono t1,bG,q1,λ y H2 e M2 he jw t2 q2=>?_⟩;obtain⟨iJ,⟨ks,rfl,jy⟩,q2⟩:=q2;have hd2:=Dat.mono t2 _ hd;obtain⟨b,rfl⟩:=lL hd2;obtain⟨xs,hx,rel⟩:=jw p _ iJ;cases rel;have t:=ah.mut (o:=rN p (jg [] (.t ks) b y)) hx (λ _ z=>by cases z) (λ _ _ z=>by cases z);exact⟨b,.t ks,rfl,hx,jy,kj _ hd2,k _ _ _ _ (aG.mpr rfl) (jw.put (u:=.bI true [(lW (.t ks),e)]) t ⟨_,aD,((Aa.put (kvs:=[]) .nil (.t ks) jy hd2 he):Aa X.K H2 [(lW (.t ks),e)] (jg [] (.t ks) b y)).mono t⟩) ((t0.trans t1).trans (t2.trans t)) q2⟩
end
section
variable {Q:bu}{M:Mem}{a:Addr}{kvs:List (D×D)}{x y v d:D}{t:Bool}{N:Mem->Prop}{xs:List D}
theorem jV(h:M a=some (.bI t kvs))(hk:fW t x)(q:Q (.bl (!(cj kvs x).isSome)) M):xP x (.ref a) M Q:=.inr ⟨a,t,kvs,rfl,h,hk,q⟩
theorem bT(h:Ni x y M Q):Nh x y M Q:=.inl h
theorem BA(h:M a=some (.bI t kvs))(hk:fW t x)(e:cj kvs x=some d)(q:Q d M):Nh (.ref a) x M Q:=.inr ⟨a,t,kvs,d,rfl,h,hk,e,q⟩
theorem qy(h:M a=some (.bI t kvs))(hk:fW t x)(hl:kvs.length < sizeLine)(q:N (af M a (.bI t (putD kvs x v)))):JF (.ref a) x v M N:=.inr ⟨a,t,kvs,rfl,h,hk,hl,q⟩
theorem qB(h:M a=some (.bI t kvs))(q:Q (.int (kvs.length:Nat)) M):xS [.ref a] M Q:=.inr ⟨a,t,kvs,rfl,h,q⟩
theorem je(h:vL xs M Q):xS xs M Q:=.inl h
end
end L3
namespace L4
open PySem PySem.Spec L2 L3 L5
theorem Fc{X:Cx}{k v:Expr}{tk tv:bJ}{pos:Pos}(hu:X.A.units+64 < cLine)(hk:WE X k tk)(hv:WE X v tv):WE X (.Dict [some k] [v] pos) (Bo tk tv):=⟨wV hu hk.h hv.h⟩
end L4
namespace KK
open PySem L3 L4 L5
open L2 hiding aM gu
abbrev Row:=List Int
theorem De:∀r:Row,kg (r.map IK.i)=r.map D.int
 |[]=>by unfold kg;rfl
 |x::r=>by rw[C2,C2];show lW (IK.i x)::kg (r.map IK.i)=_;rw[De r];unfold lW;rfl
theorem Dh:∀r:Row,IK.iu (r.map IK.i)=0
 |[]=>by unfold IK.iu;rfl
 |x::r=>by rw[C2];show max (IK.dep (IK.i x)) (IK.iu (r.map IK.i))=0;rw[Dh r];unfold IK.dep;rfl
end KK
namespace KK
open PySem L3 L4 L5
open L2 hiding aM gu
theorem Ext.free {M M':Mem}(h:Ext M M'){p:Addr}(hp:M' p=none):M p=none:=by
 cases e:M p with
 |none=>rfl
 |some o=>rw[h p o e]at hp;cases hp
theorem Ext.trans {M M1 M2:Mem}(h:Ext M M1)(g:Ext M1 M2):Ext M M2:=λ b o e=>g b o (h b o e)
theorem Ext.new {M M':Mem}(h:Ext M M'){p:Addr}(hp:M' p=none)(x:MO):Ext M (af M' p x):=TU h hp x
theorem aZ{M:Mem}{p q:Addr}{x:MO}(h:M p=some x)(g:M q=none):p≠q:=λ z=>by subst z;rw[h]at g;cases g
end KK
namespace KK
open PySem L3 L4 L5
open L2 hiding aM gu
theorem OB{α:Type}{ds:List α}{X:Prop}(h:ds.length<=16)(q:X):ds.length<=sizeLine/\X:=⟨D3 h (by decide),q⟩
theorem BB{M:Mem}{Q:bu}(q:Q (.bl true) M):vM false .aY .aY M Q:=q
end KK
namespace KK
open PySem L3 L4 L5
open L2 hiding aM gu
structure Tb(m h:Nat)(rows:List Row):Prop where
 len:rows.length=m
 pos:0 < m
 dY:m<=300
 DM:h<=12
 row:∀r∈rows,r.length=h/\∀x∈r,0<=x/\x < (m:Int)
def fu(rows:List Row)(ls:Row):D:=.tup [.tup (rows.map row),row ls]
def a_(rows:List Row)(h x:Nat):Nat:=((rows.getD x []).getD h 0).toNat
theorem Tb.at {m h:Nat}{rows:List Row}(T:Tb m h rows){x i:Nat}(hx:x < m)(hi:i < h):(rows.getD x []).length=h/\(rows.getD x []).getD i 0=(a_ rows i x:Int)/\a_ rows i x < m:=by
 have ED:x < rows.length:=by rw[T.len];exact hx
 have e:rows.getD x []=rows[x]:=by rw[c6,i7 ED];rfl
 have hr:=T.row _ (z8 ED);unfold a_;rw[e];have NW:i < (rows[x]).length:=by rw[hr.1];exact hi
 have e2:(rows[x]).getD i 0=(rows[x])[i]:=by rw[c6,i7 NW];rfl
 have hb:=hr.2 _ (z8 NW);rw[e2];exact⟨hr.1,by omega,by omega⟩
def jK(f:Nat->Nat):Nat->Nat->Nat
 |0,x=>x
 |n+1,x=>jK f n (f x)
theorem lU(f:Nat->Nat):∀a b x,jK f (a+b) x=jK f b (jK f a x)
 |0,b,x=>by rw[D4];rfl
 |a+1,b,x=>by rw[Nat.succ_add];exact lU f a b (f x)
theorem CY(f:Nat->Nat)(n x:Nat):jK f (n+1) x=f (jK f n x):=lU f n 1 x
theorem vj{f:Nat->Nat}{m:Nat}(hf:∀x,x < m->f x < m):∀n x,x < m->jK f n x < m
 |0,x,h=>h
 |n+1,x,h=>vj hf n (f x) (hf x h)
theorem zo{f:Nat->Nat}{x a L:Nat}(ha:a < L)(e:jK f L x=jK f a x){n:Nat}(hn:L<=n):jK f (a+(n - a) % (L - a)) x=jK f n x:=by
 have hp:0 < L - a:=by omega
 have one:∀k y,jK f (a+y+k*(L - a)) x=jK f (a+y) x:=by
  intro k
  induction k with
  |zero=>intro y;rw[Nat.zero_mul];rfl
  |succ k ih=>intro y;rw[Nat.succ_mul,show a+y+(k*(L - a)+(L - a))=L+(y+k*(L - a)) by omega,lU,e,<- lU,show a+(y+k*(L - a))=a+y+k*(L - a) by omega];exact ih y
 have h:=one ((n - a) / (L - a)) ((n - a) % (L - a));rw[<- h];congr 1;have:=Nat.div_add_mod (n - a) (L - a);rw[Nat.mul_comm]at this;omega
def EA(rows:List Row):Nat->Nat->Row->Nat
 |_,x,[]=>x
 |i,x,c::cs=>EA rows (i+1) (jK (a_ rows i) c.toNat x) cs
theorem Tb.gi {m h:Nat}{rows:List Row}(T:Tb m h rows){i:Nat}(hi:i < h):∀x,x < m->a_ rows i x < m:=λ x hx=>(T.at hx hi).2.2
theorem AM{m h:Nat}{rows:List Row}(T:Tb m h rows):∀(cs:Row) (i x:Nat),i+cs.length<=h->x < m->EA rows i x cs < m
 |[],i,x,_,hx=>hx
 |c::cs,i,x,hi,hx=>by rw[y9]at hi;exact AM T cs (i+1) _ (by omega) (vj (T.gi (by omega)) _ _ hx)
theorem rT(rows:List Row):∀(cs:Row) (i x:Nat) (c:Int),EA rows i x (cs++[c])=jK (a_ rows (i+cs.length)) c.toNat (EA rows i x cs)
 |[],i,x,c=>rfl
 |d::cs,i,x,c=>by show EA rows (i+1) _ (cs++[c])=_;rw[rT rows cs (i+1),y9,show i+1+cs.length=i+(cs.length+1) by omega];rfl
end KK
namespace L2
open PySem PySem.Spec PyProof.Rows
theorem pM(f:Array Value->Array Value)(o:Obj):(Obj.mapFields f o).dict=o.dict:=by unfold Obj.mapFields;split <;> rfl
def U_(h:Heap)(e:Addr)(c:Value)(dx:Option Addr)(T:Addr):Prop:=
 ∃oe vs oT ts,h.get? e=some oe/\oe.cls=c/\oe.dict=dx/\oe.data=.fields vs/\vs[1]?=some (.ref T)/\T≠e/\h.get? T=some oT/\oT.data=.fields ts/\ts[3]?=some .none
structure Vc(B:Heap)(l:List Env)(e:Addr)(c:Value)(dx:Option Addr)(h h':Heap):Prop where
 eK:B.StaysIn h'
 fr:h'.FunFrames B l
 tr:U_ h' e c dx h.objs.size
 sl:∀b o,h.get? b=some o->(∀vs,o.data≠.fields vs)->∃z,h'.get? b=some {o with slots:=z}
section
variable {M:Model}{A:Around}{E:Value->Shared->Prop}{s:Shared}{B:Heap}{env:Env}{outer:List Env}{L e:Addr}{oe:Obj}{vs:Array Value}
theorem Cy{hd:Value}{hn:Bool}{Q:Unit->Shared->Prop}(ou:A.frames=some (env::outer))(hl:s.heap.FunFrames B (env::outer))(hf:env.frame=some L) (he:s.heap.get? e=some oe) (kB:B.StaysIn s.heap) (nB:B.get? e=none) (dv:oe.data=.fields vs) (sz:1 < vs.size) (q:∀h',Vc B (env::outer) e oe.cls oe.dict s.heap h'->Q () {s with heap:=h'}):wpAny M A (do let a <- frameOf env;let p <- entryPlaceOf L hn;let b <- EntryCells.newEntry hd a .none (rawInt L) .none p;setField (.ref e) 1 b) (λ _ s'=>wpAny M A (setFlight (.ref e) none) Q E s') E s:=by
 have eF:e∉(env::outer).filterMap (·.frame):=λ z=>by obtain⟨_,o,ho,w⟩:=hl.mem z;rw[he]at ho;cases ho;exact w vs dv
 refine G1 (wpAny_frameOf_fun ou hl hf λ g hg=>G1 (wpAny_entryPlaceOf λ pl hpl=>?_));unfold EntryCells.newEntry newFields;refine G1 (x5 ?_ (hpl.sizeOk5 _ _ _ _ _));have e1:g.get? e=some oe:=(hg.2.1 e eF).trans he;have k1:B.StaysIn g:=λ b o z=>(hg.2.1 b λ y=>by rw[(hl.mem y).1]at z;cases z).trans (kB b o z);generalize hT:({cls:=.type "traceback",dict:=none,data:=.fields ([hd,.ref L,.none,rawInt L,.none]++(if pl.isEmpty then List.replicate 6 Value.none else pl)).toArray}:Obj)=nt;have dT:nt.data=.fields ([hd,.ref L,.none,rawInt L,.none]++(if pl.isEmpty then List.replicate 6 Value.none else pl)).toArray:=by rw[<- hT]
 have e2:=j8 (h:=g) nt e1;refine B7 e2 dv sz ?_;have ne:g.objs.size≠e:=D6 (C8 e1);have d3:=u7 dv (·.setIfInBounds 1 (Value.ref g.objs.size));have e3:=k8 (Obj.mapFields (·.setIfInBounds 1 (Value.ref g.objs.size))) e2 (l9 d3);have fN:nt.isFreed=false:=l9 dT;have t3:=(j9 (g.push nt) (Obj.mapFields (·.setIfInBounds 1 (Value.ref g.objs.size))) ne.symm).trans (o8 g fN);unfold setFlight;refine G1 (G0 e3 d3 (x:=.ref g.objs.size) (by simp[sz]) ?_);rw[J0 (show(Value.ref g.objs.size != Value.none)=true from by simp)];refine B7 t3 dT (by simp only[y3,r6,y9,length_nil] <;> omega) (q _ ?_);have kp:∀b o,b≠e->g.get? b=some o->(((g.push nt).update e (Obj.mapFields (·.setIfInBounds 1 (Value.ref g.objs.size)))).update g.objs.size (Obj.mapFields (·.setIfInBounds 3 ((none:Option Addr).elim Value.none λ f=>rawInt f)))).get? b=some o:=λ b o y z=>by rw[j9 _ _ (D6 (C8 z)),j9 _ _ y.symm];exact j8 _ z
 have nr:∀b o,s.heap.get? b=some o->(∀vs,o.data≠.fields vs)->b≠e:=λ b o z w y=>by rw[y,he]at z;cases z;exact w vs dv
 refine⟨λ b o z=>kp b o (λ y=>by rw[y,nB]at z;cases z) (k1 b o z),hl.of_keeps λ b o z w=>?_,?_,λ b o z w=>?_⟩
 ·obtain⟨sl,y⟩:=hg.2.2 b o z;exact⟨_,kp b _ (nr b o z w) y,rfl⟩
 ·rw[<- hg.1];refine⟨_,_,_,_,?_,Obj.cls_mapFields _ _,pM _ _,d3,by simp[sz],ne,k8 _ t3 (l9 (u7 dT _)),u7 dT _,by first|(simp;done)|(rcases hpl with rfl|⟨_,_,_,_,_,_,_,rfl⟩ <;> simp)⟩;rw[j9 _ _ ne];exact e3
 ·obtain⟨sl,y⟩:=hg.2.2 b o z;exact⟨sl,kp b _ (nr b o z w) y⟩
end
def ow(P:Program)(w:World):Eu:=λ outer H s E e s'=>∃(a:Addr) (c:Value) (dx:Option Addr) (T:Addr) (H':Hp),e=.ref a/\s'.os=s.os/\AllBare s'.gens/\Un (f_ outer) [] H H' s.heap s'.heap/\dX P w H' s'.heap/\
 s.heap.objs.size<=a/\s.heap.objs.size<=T/\H' a=none/\H' T=none/\U_ s'.heap a c dx T/\E c dx H'
end L2
namespace L2
open PySem PySem.Spec PyProof.Rows
section
variable {prog:Program}{w:World}{A:Around}{E:Value->Shared->Prop}{h:Heap}{g:Array GenState}{d:Drawn}{t:Nat}{os:OsState}
variable {nm q:Str}{C N:Addr}{bs bm IH:List Value}{hdct:Bool}{sn:List Str}{sub:List Value}{ab:Bool}{col:Option Bool}{dd:Option Addr}{k0 k1 k2 k3 k5:Option Value}{B Bn newId R1 fG VO:String}{Wz:List Value}
theorem uv(Fn:ExcBaseFacts Bn newId VO Wz)(Sm:IH.contains (.type Bn)=true)(F:ExcBaseFacts B R1 fG IH)(T:OwnTail h IH bm){mN:Str->Option Value}{rest:List Value}{fI:Addr}{oI:Obj}{Q:Fin->Shared->Prop} (cl:h.get? C=some (excClassObj nm q C N bs bm hdct sn sub ab col dd k0 k1 k2 k3 k5 newId)) (ns:h.Ns N mN) (gI:mN "__init__"=some (.ref fI)) (fo:h.get? fI=some oI) (fc:oI.cls=.type "function") (k:∀h' e,h.objs.size<=e->Heap.MadeExcOf h h' e (.ref C) rest->wpAny (model prog w) A (call (.ref fI) (.ref e::rest)) (λ r s'=>r=.none/\Q (.done (.ret (.ref e))) s') E ⟨h',g,d,t,os⟩) (dY:rest.length<=sizeLine):wpAny (model prog w) A (Builtin.«type.__call__» ⟨.ref C::rest,[]⟩) Q E ⟨h,g,d,t,os⟩:=by
 repeat(first|with_reducible refine y4 cl ?_|with_reducible refine wpAny_madeBy_exc cl ?_|wp_step)
 refine codeAny_call_builtin_code (Code.quiet_builtin _ Fn.quiet) (wpAny_check_new_subU Fn Sm T cl (codeAny_exc_new_subU Fn Sm F T cl ?_ dY));show wpAny _ _ _ _ _ _;generalize UQ:(h.push {cls:=.type "tuple",data:=.seq rest.toArray}).push {cls:=.ref C,data:=.fields #[.ref h.objs.size,.none,.none,.none,.bool false,.none]}=h1;have kp:∀b o,h.get? b=some o->h1.get? b=some o:=λ b o z=>by rw[<- UQ];exact j8 _ (j8 _ z)
 have ge:h1.get? (h.objs.size+1)=some {cls:=.ref C,data:=.fields #[.ref h.objs.size,.none,.none,.none,.bool false,.none]}:=by rw[<- UQ];heap_get
 have gt:h1.get? h.objs.size=some {cls:=.type "tuple",data:=.seq rest.toArray}:=by rw[<- UQ];exact j8 _ (Heap.get?_push_at rfl rfl)
 have Wx:=kp _ _ cl;have Xl:h1.Ns N mN:=ns.keeps kp;have YZ:=kp _ _ fo;have T1:=T.keeps kp;have cc:(Value.ref C::bm).contains (.ref C)=true:=by simp
 unfold isInstance
 repeat(first|with_reducible refine y4 ge ?_|(with_reducible refine o9 Wx ?_;rw[cc])|wp_step)
 show wpAny _ _ (typeLookup (.ref C) _) _ _ _;refine wpAny_typeLookup_tail Wx Xl T1 F.mroIs F.init.lookup ?_;rw[gI];refine B8 (G1 ?_);unfold bindSpecial;refine G1 (wpAny_typeOf (T:="function") ⟨_,YZ,fc⟩ ?_);rw[J0 (by decide)];refine G2 (G1 (G4 (k h1 (h.objs.size+1) (Nat.le_succ _) ⟨kp,Heap.get?_none_of_le (Nat.le_succ _),h.objs.size,ge,Heap.get?_none_of_le (D8 _),gt⟩) (λ r s' hr=>?_) λ _ _ x=>x));obtain⟨rfl,z⟩:=hr
 wp_walk
 exact z
theorem zK(Fn:ExcBaseFacts Bn newId VO Wz)(Sm:IH.contains (.type Bn)=true)(F:ExcBaseFacts B R1 fG IH)(T:OwnTail h IH bm){mN:Str->Option Value}{rest:List Value}{fI:Addr}{oI:Obj}{Q:Value->Shared->Prop} (cl:h.get? C=some (excClassObj nm q C N bs bm hdct sn sub ab col dd k0 k1 k2 k3 k5 newId)) (ns:h.Ns N mN) (gI:mN "__init__"=some (.ref fI)) (fo:h.get? fI=some oI) (fc:oI.cls=.type "function") (k:∀h' e,h.objs.size<=e->Heap.MadeExcOf h h' e (.ref C) rest->wpAny (model prog w) (A.under (.builtin "type.__call__" ⟨.ref C::rest,[]⟩)) (call (.ref fI) (.ref e::rest)) (λ r s'=>r=.none/\Q (.ref e) s') E ⟨h',g,d,t,os⟩) (dY:rest.length<=sizeLine):wpAny (model prog w) A (call (.ref C) rest) Q E ⟨h,g,d,t,os⟩:=by
 have f1:=tc_lookup;have f2:=tc_bind (.ref C);have ty:(⟨h,g,d,t,os⟩:Shared).TypeIs (.ref C) "type":=⟨_,cl,rfl⟩;refine G5 (codeAny_of_tree ?_);show wpAny _ _ (callAny (.ref C) _) _ _ _
 repeat(any_goals (first|assumption|with_reducible refine y4 cl ?_|wp_step))
 refine⟨rfl,codeAny_call_builtin_at (Code.quiet_builtin _ (by decide+kernel)) entry_typeCall (wpAny_check_type_call_sub cl (uv Fn Sm F T cl ns gI fo fc (λ h' e le m=>?_) dY))⟩;exact k h' e le m
end
section
variable {M:Model}{A:Around}{E:Value->Shared->Prop}{env:Env}{nm q:Str}{C N:Addr}{bs bm:List Value}{hdct:Bool}{sn:List Str}{sub:List Value}{ab:Bool}{col:Option Bool}{dd:Option Addr}{k0 k1 k2 k3 k5:Option Value}{newId:String}
theorem mW{s:Shared}{x:Sem Value}{Q:Flow->Shared->Prop}(hb:bm.contains (.type "BaseException")=true)(hh:A.handled=none) (k:wpAny M A x (λ v s1=>∃e oe vs,v=.ref e/\s1.heap.get? C=some (excClassObj nm q C N bs bm hdct sn sub ab col dd k0 k1 k2 k3 k5 newId)/\s1.heap.get? e=some oe/\oe.cls=.ref C/\oe.data=.fields vs/\vs[1]?=some .none/\E (.ref e) s1) E s):wpAny M A (raiseStmt env (some x) none) Q E s:=by
 have hc:(Value.ref C::bm).contains (.type "BaseException")=true:=by rw[contains_cons,hb,Bool.or_true]
 unfold raiseStmt;refine G1 (G4 k (λ v s1 z=>?_) λ _ _ x=>x);obtain⟨e,⟨oc,od,da,sl⟩,vs,rfl,cl,he,rfl,rfl,h1,z⟩:=z;obtain⟨hp,g,d,tk,os⟩:=s1
 repeat(first|with_reducible refine y4 he ?_|with_reducible refine y4 cl ?_|(with_reducible refine o9 cl ?_;rw[hc])|wp_step)
 rw[h1];refine G2 ?_;rw[J7 (by decide)];exact G2 (wpAny_raiseNew_none hh z)
end
end L2
namespace L2
open PySem PySem.Spec PyProof.Rows
section
variable {prog:Program}{w:World}{A:Around}{E:Value->Shared->Prop}{h:Heap}{g:Array GenState}{d:Drawn}{t:Nat}{os:OsState}
variable {nm q:Str}{C N:Addr}{bs bm IH:List Value}{hdct:Bool}{sn:List Str}{sub:List Value}{ab:Bool}{col:Option Bool}{dd:Option Addr}{k0 k1 k2 k3 k5:Option Value}{B newId R1 fG:String}
theorem Rn(F:ExcBaseFacts B R1 fG IH)(T:OwnTail h IH bm){e t0:Addr}{us:List Value}{Q:Value->Shared->Prop} (cl:h.get? C=some (excClassObj nm q C N bs bm hdct sn sub ab col dd k0 k1 k2 k3 k5 newId)) (he:h.get? e=some {cls:=.ref C,data:=.fields #[.ref t0,.none,.none,.none,.bool false,.none]}) (dY:us.length<=sizeLine) (k:∀h',(∀b o,b≠e->h.get? b=some o->h'.get? b=some o)->h'.get? e=some {cls:=.ref C,data:=.fields #[.ref h.objs.size,.none,.none,.none,.bool false,.none]}->Q .none ⟨h',g,d,t,os⟩):wpAny (model prog w) A (call (.builtin fG) (.ref e::us)) Q E ⟨h,g,d,t,os⟩:=by
 refine G5 (n5 F.init.plain F.initEntry (wpAny_check_init_subU F T cl he rfl ?_))
 wp_walk
 refine k _ (λ b o ne z=>?_) ?_
 ·rw[j9 _ _ ne.symm];exact j8 _ z
 ·rw[k8 _ (j8 _ he) rfl];rfl
end
end L2
namespace L2
open PySem PySem.Spec PyProof.Rows Builtin Builtin.ObjectAttr
section
variable {prog:Program}{w:World}{A:Around}{E:Value->Shared->Prop}{K:J8}{h:Heap}{g:Array GenState}{d:Drawn}{t:Nat}{os:OsState}{C x:Addr}{cd:ClassData}{mA:Str->Option Value}{name:Str}{v:Value}
theorem An{Q:Unit->Shared->Prop}{ns:List Str}(X:K.In h)(hc:PySem.W.clsIn K C=some cd)(hp:∀self:Value,refuseLoop self "__setattr__" cd.mro=pure ())(ho:cd.mro.contains (.type "object")=true)(hdct:cd.hasDict=true) (hs:PySem.W.findIn K (.ref C) "__setattr__"=some (some (.builtin "object.__setattr__"))) (hn:PySem.W.findIn K (.ref C) name=some none) (I:h.Inst x C mA) (k:∀h' AL,h'.Inst x C (λ y=>if y=name then some v else mA y)->
   (∀b o,b≠x->(∀o0 dx,h.get? x=some o0->o0.dict=some dx->b≠dx)->h.get? b=some o->h'.get? b=some o)->
   (∀o0,h.get? x=some o0->∃o1,h'.get? x=some o1/\o1.cls=o0.cls/\o1.data=o0.data/\o1.slots=o0.slots/\(∀dx,o0.dict=some dx->o1.dict=some dx)/\(o0.dict=none->o1.dict=some h.objs.size))->Q () ⟨h',g,d,AL,os⟩) (hw:Within mA ns) (hz:ns.length<=1000):
  wpAny (model prog w) A (setAttr (.ref x) name v) Q E ⟨h,g,d,t,os⟩:=by
 have I0:=I;obtain⟨o,hx,jL,nc,dd⟩:=I;have PF:PySem.W.notCls o=true:=by obtain⟨oc,od,da,sl⟩:=o;cases da <;> first|rfl|exact absurd rfl (nc _)
 have IA:∃od,PySem.W.InstAt h x o C od:=by
  rcases dd with⟨dn,_⟩|⟨dx,e,_,od,es,ep,q,_⟩
  ·exact⟨none,hx,jL,PF,by rw[dn];trivial⟩
  ·exact⟨some od,hx,jL,PF,by rw[e];exact q⟩
 obtain⟨od,IA⟩:=IA;have ne:cd.mro.isEmpty=false:=by cases z:cd.mro with|nil=>rw[z]at ho;cases ho|cons _ _=>rfl
 have SF:=PySem.F.store_object;refine PySem.W.set_plain (s:=⟨h,g,d,t,os⟩) X IA hs ?_;have sub:PySem.W.Looks (model prog w) h (isInstance (.ref x) (.type "object")) true:=IA.type.andThen (PySem.W.looks_mroIn X (by unfold PySem.W.mroIn;rw[hc,Option.bind_some,J7 (by rw[ne];decide),ho]));refine n5 SF.slot.plain SF.entry (@PySem.W.check_slot (model prog w) _ _ ⟨h,g,d,t+1,os⟩ "object.__setattr__" "object" "__setattr__" (.ref x) [.str name t,v] [] _ SF.kind SF.split sub (SF.args (.ref x) (.str name t) v) ?_);have hm:PySem.W.Looks (model prog w) h (mroOf (.ref C)) cd.mro:=(PySem.W.looks_clsIn X hc).andThen .now;rw[PySem.W.osa_eq,refuse_eq];refine G1 (G1 (IA.type.here (G1 (hm.here ?_))));rw[hp];refine G2 (G1 (IA.type.here (G1 ((PySem.W.looks_findIn X hn).here (G1 (G2 ?_))))));obtain⟨oc,ZX,R0,pK⟩:=o;dsimp only at jL nc dd;subst jL;refine G1 (G2 (G1 (G1 (wpAny_loadPart hx (G1 ((PySem.W.looks_clsIn X hc).here ?_))))));rw[hdct];rcases dd with⟨rfl,Yj⟩|⟨dx,rfl,ie,Qk⟩
 ·rw[J7 (by decide)];dsimp only;rw[J7 (by simp[typeHasDict])];have nx:x≠h.objs.size:=C7 (C8 hx);have VR:(h.push {cls:=.type "dict",data:=.dict #[]}).get? x=some {cls:=.ref C,data:=R0,slots:=pK}:=j8 _ hx;generalize jw:((h.push {cls:=.type "dict",data:=.dict #[]}).update x λ o=>{cls:=o.cls,dict:=some h.objs.size,data:=o.data,slots:=o.slots})=h2;have gd:h2.get? h.objs.size=some {cls:=.type "dict",data:=.dict #[]}:=by rw[<- jw];exact(Heap.get?_update_ne _ _ _ _ nx.symm).trans (Heap.get?_push_at rfl rfl)
  have nd:h2.Ns h.objs.size (λ _=>none):=⟨_,#[],_,gd,rfl,λ e he=>absurd he (by simp),λ _=>rfl⟩;have gx:h2.get? x=some {cls:=.ref C,dict:=some h.objs.size,data:=R0,slots:=pK}:=by rw[<- jw];refine k8 _ VR ?_;have fr:=(Heap.get?_some_iff.mp hx).2;cases R0 <;> first|rfl|exact fr
  have ot:∀b ob,b≠x->h.get? b=some ob->h2.get? b=some ob:=λ b ob nb z=>by rw[<- jw];exact(Heap.get?_update_ne _ _ _ _ nb).trans (j8 _ z)
  have fin:wpAny (model prog w) A.in1 (storeInDict h.objs.size (.str name t) name v) (λ fin s'=>match fin with| .done f=>(match(Except.ok f:Result)with| .ok (.ret _)=>Q () s'| .ok _=>False| .error e=>E e s')| .again c'=>c'.quiet=true/\codeAny (model prog w) A c' (λ r s'=>match r with| .ok (.ret _)=>Q () s'| .ok _=>False| .error e=>E e s') s') (λ e s'=>E e s') ⟨h2,g,d,t+1,os⟩:=by
   unfold storeInDict newKeyGuard;refine G1 (G2 (G1 (wpAny_nsSet1 (Heap.Ns1.of_empty nd) λ h' Ib NP=>?_)));obtain⟨oD,Zf,Zg,q1,q2,q3⟩:=Ib.count (Within.cons name v Within.nil);refine G1 (wpAny_lookBehind q1 (by rw[q2];exact pastItsLine_dict (D3 q3 (by rw[y9,length_nil,D9];omega))) ?_)
   wp_walk
   have ED:h'.get? x=some {cls:=.ref C,dict:=some h.objs.size,data:=R0,slots:=pK}:=(NP.2 x nx).trans gx;refine k h' _ ⟨_,ED,rfl,nc,.inr ⟨h.objs.size,rfl,nx.symm,?_⟩⟩ (λ b ob nb _ z=>?_) (λ o0 z=>?_)
   ·obtain⟨o',es,ep,e1,e2,e3,eu,e4⟩:=Ib;exact⟨o',es,ep,e1,e2,e3,eu,λ y=>by rw[e4 y];by_cases hy:y=name <;> simp[hy,Yj]⟩
   ·exact(NP.2 b (C7 (C8 z))).trans (ot b ob nb z)
   ·cases(A6 (hx.symm.trans z));exact⟨_,ED,rfl,rfl,rfl,(λ dx e=>by cases e),λ _=>rfl⟩
  split
  ·exact absurd rfl (nc _)
  ·refine G1 (wpAny_alloc' (G1 (wpAny_update' VR ?_)));rw[jw];exact G2 (a:=some h.objs.size) fin
 ·refine G2 (a:=some dx) (G1 (G2 (G1 (wpAny_nsSet1 Qk λ h' Ib NP=>?_))));obtain⟨oD,Zf,Zg,q1,q2,q3⟩:=Ib.count (Within.cons name v hw);refine G1 (wpAny_lookBehind q1 (by rw[q2];exact pastItsLine_dict (D3 q3 (by rw[y9,D9];omega))) ?_)
  wp_walk
  refine k h' _ ⟨_,(NP.2 x ie.symm).trans hx,rfl,nc,.inr ⟨dx,rfl,ie,Ib⟩⟩ (λ b ob _ nb z=>?_) (λ o0 z=>⟨o0,(NP.2 x ie.symm).trans z,rfl,rfl,rfl,(λ _ e=>e),λ e=>by cases(A6 (hx.symm.trans z));cases e⟩);exact(NP.2 b (nb _ dx hx rfl)).trans z
end
end L2
namespace L2
open PySem PySem.Spec PyProof.Rows
abbrev U8:List Value:=[.type "ValueError",.type "Exception",.type "BaseException",.type "object"]
def XO(e C:Addr)(od:Option Addr)(t:Addr):HO:=.ext λ h=>h.get? e=some {cls:=.ref C,dict:=od,data:=.fields #[.ref t,.none,.none,.none,.bool false,.none]}
structure oU(K:J8)(C fI:Addr):Prop where
 ex:∃nm q N bs bm sn sub ab col dd k0 k1 k2 k3 k5,K.lookup C=some (excClassObj nm q C N bs bm true sn sub ab col dd k0 k1 k2 k3 k5 "ValueError.__new__")/\PySem.W.tailIn K U8 bm=true/\PySem.W.nsOkIn K N=true/\PySem.W.nsIn K N "__init__"=some (some (.ref fI))
 fn:PySem.W.isFn K (.ref fI)=true
 kp:PySem.W.keepIn K (.ref C)=true
 sa:PySem.W.findIn K (.ref C) "__setattr__"=some (some (.builtin "object.__setattr__"))
structure JO(K:J8)(C:Addr):Prop where
 ga:PySem.W.specialIn K (.ref C) "__getattribute__"=some (some (.builtin "type.__getattribute__"))
 rd:PySem.W.readsIn K C (.type "type")=true
 fi:PySem.W.findCls K (.ref C) (.type "type") "__init__"=some (.val (.builtin "ValueError.__init__"))
set_option tactic.hygienic true in
theorem u_{K:J8}{h:Heap}{N:Addr}{mg:Str->Option Value}{n:Str}{v:Value}(X:K.In h)(G:h.Ns N mg)(e:PySem.W.nsIn K N n=some (some v)):mg n=some v:=by
 obtain⟨o,es,ep,ho,hd,_,hf⟩:=G;unfold PySem.W.nsIn at e;split at e
 ·rename_i c d es' n' sl q;have z:=X _ _ q;rw[ho]at z;cases z;cases hd;split at e
  ·rename_i en he;rw[<- hf];unfold nsFind findBy;rw[<- Array.find?_toList,he];cases e;rfl
  ·split at e <;> cases e
 ·cases e
theorem sj{h:Heap}{bm:List Value}(T:OwnTail h U8 bm)(self:Value):refuseLoop self "__setattr__" bm=pure ():=by
 induction T with
 |base=>exact PySem.F.store_ValueError.passes self
 |own _ _ _ _ ih=>rw[refuseLoop_ref];exact ih
theorem eU{x:V}{xs:List V}{us:List Value}(r:Vals (x::xs) us):∃u ws,us=u::ws/\RelV x u/\Vals xs ws:=by
 cases r with
 |cons a b=>exact⟨_,_,rfl,a,b⟩
section
variable {X:Cx}{pins:List (Addr×Obj)}{σ:St}{H:Hp}{s:Shared}{x m:Str}{p apos pos:Pos}{a:Expr}{as:List Expr}{t:TA}{HC:Addr}
def W7(K:J8)(t:TA):TE:=λ σ H Q=>t σ H λ vs H1=>∃e C fI t0 us,vs=.ref e::us/\H1 e=some (XO e C none t0)/\oU K C fI/\us.length<=1000/\∀t1,Q .aY (upd H1 e (XO e C none t1))
theorem sO{pl:Sem Bool}(hg:Gl X x)(hm:X.mg x=some (.ref HC))(hb:JO X.K HC)(ha:PA X (a::as) t)(hdb:(x==("__debug__":Str))=false:=by decide) (hst:starEach (a::as) X.env=(false,eval a X.env)::starEach as X.env:=by rfl) (hpl:(backTo pos (starEach as X.env)).any (·.1)=false:=by rfl) (ht:eval (.Call (.Attribute (.Name x p) "__init__" apos) (a::as) [] pos) X.env=(do
   let ov <- eval (.Name x p) X.env
   standAt apos.atName
   let(f,US) <- holding [ov] (getMethod ov "__init__" pl)
   callWith pos f US (backTo pos (starEach (a::as) X.env)) (backToKw pos (keywordEach [] X.env))):=by rfl):
  PE X (.Call (.Attribute (.Name x p) "__init__" apos) (a::as) [] pos) (W7 X.K t):=by
 intro pins s σ H Q I h;refine PySem.W.methodCall_KW (pl:=pl) (dC I hg hm ?_ hdb) ht;refine PySem.W.method_cls I.jq hb.ga (PySem.W.cls_value (expr:=false) I.jq hb.rd hb.fi rfl ?_);have hA:=ha pos pins _ σ H _ (I.tok (s.toks+1)) h;rw[hst]at hA ⊢;refine Calls.callWith_builtin (by show(false||(backTo pos (starEach as X.env)).any (·.1))=false;rw[hpl] <;> rfl) (Calls.evalArgs_plain (bZ hA λ us s2 ⟨vs,H2,I2,r2,q2⟩=>?_));obtain⟨e,C,fI,t0,ws,rfl,he,ec,dY,q⟩:=q2;obtain⟨nm,q0,N,bs,bm,sn,sub,ab,col,dd,k0,k1,k2,k3,k5,cl,tl,no,ni⟩:=ec.ex;obtain⟨u,SN,rfl,ru,rs⟩:=eU r2;obtain rfl:u=Value.ref e:=ru;obtain⟨ho,_,st⟩:=I2.aK e _ he;have hl:SN.length=ws.length:=rs.length.symm;obtain⟨h2,g2,d2,RM,Tu⟩:=s2;refine Rn h7 (u6 I2.jq tl) (I2.jq _ _ cl) ho (by rw[hl];exact D3 dY (by decide)) λ h' kp hn=>?_;refine⟨.aY,_,I2.write (h':=h') (t':=RM) (x:=e) (e:=e) (o:=XO e C none h2.objs.size) (by rw[he];trivial) (.inl rfl) (λ b u nb z=>kp b u nb z) ⟨_,hn⟩ ⟨hn,⟨_,hn⟩,λ h1 h2 z w=>w _ z⟩,rfl,q _⟩
def XD(dx:Addr)(fs:List (Str×V)):HO:=.ext λ h=>∃mA,h.Ns1 dx mA/\∀f,gR (fs.lookup f) (mA f)
theorem XD.ok {P:Program}{w:World}{H:Hp}{h:Heap}{dx:Addr}{fs:List (Str×V)}{mA:Str->Option Value}(n:h.Ns1 dx mA)(r:∀f,gR (fs.lookup f) (mA f)):br P w H h dx (XD dx fs):=by
 refine⟨⟨mA,n,r⟩,?_,?_⟩
 ·obtain⟨o,es,ep,e,_⟩:=n;exact⟨o,e⟩
 ·rintro h1 h2 ⟨m1,⟨o,es,ep,e,z⟩,r1⟩ k;exact⟨m1,⟨o,es,ep,k _ e,z⟩,r1⟩
theorem Un.IP {fs ex:List Addr}{H H1:Hp}{h h1:Heap}{b0:Addr}{o:HO}(u:Un fs ex H H1 h h1)(hf:h.objs.size<=b0)(hn:H b0=none):Un fs ex H (upd H1 b0 o) h h1 where
 keep:=u.keep
 slot:=u.slot
 free:=λ b ob q n x=>by rw[ar (λ z=>absurd (C8 q) (by rw[z];exact Nat.not_lt.mpr hf))];exact u.free b ob q n x
 there:=u.there
 dZ:=λ b xs q=>by rw[ar (λ z=>by rw[z,hn]at q;cases q)];exact u.dZ b xs q
 dD:=λ b ob v q=>by rw[ar (λ z=>by rw[z,hn]at q;cases q)];exact u.dD b ob v q
 d_:=λ b ps q=>by rw[ar (λ z=>by rw[z,hn]at q;cases q)];exact u.d_ b ps q
theorem dX.IP {P:Program}{w:World}{H:Hp}{h:Heap}{b0:Addr}{o:HO}(ok:dX P w H h)(hn:H b0=none)(new:br P w (upd H b0 o) h b0 o):dX P w (upd H b0 o) h:=λ b u q=>by
 by_cases e:b=b0
 ·subst e;rw[aD]at q;cases q;exact new
 ·rw[ar e]at q;refine(ok b u q).eK (λ _ _ _ z=>z) (λ c z=>?_) λ c xs z=>?_
  ·rw[ar (λ y=>by rw[y,hn]at z;cases z)];exact z
  ·rw[ar (λ y=>by rw[y,hn]at z;cases z)];exact z
def Xb(K:J8)(ta tv:TE)(f:Str):TS:=λ D σ H=>tv σ H λ y H1=>ta σ H1 λ v H2=>∃e C fI t0,v=.ref e/\oU K C fI/\PySem.W.findIn K (.ref C) f=some none/\
 ((H2 e=some (XO e C none t0)/\∀dx,H2 dx=none->dx≠e->D.nx σ (upd (upd H2 e (XO e C (some dx) t0)) dx (XD dx [(f,y)])))\/
  ∃dx fs,H2 e=some (XO e C (some dx) t0)/\H2 dx=some (XD dx fs)/\dx≠e/\fs.length<=900/\D.nx σ (upd H2 dx (XD dx ((f,y)::fs))))
theorem pE{f:Str}{y:V}{u:Value}{fs:List (Str×V)}{mA:Str->Option Value}(r:RelV y u)(h:∀n,gR (fs.lookup n) (mA n))(n:Str):gR (((f,y)::fs).lookup n) (if n=f then some u else mA n):=by
 by_cases e:n=f
 ·subst e;rw[J0 rfl];simp only[List.lookup,beq_self_eq_true];exact r
 ·rw[J7 e];simp only[List.lookup,beq_eq_false_iff_ne.mpr e];exact h n
theorem O1{f:Str}{o value:Expr}{ta tv:TE}{pos':Pos}(ho:PE X o ta)(hv:PE X value tv)(hs:swapsWith value (some (.Attribute o f pos')) pos.line X.env=pure false:=by rfl):PS X (.Assign [.Attribute o f pos'] value pos) (Xb X.K ta tv f):=by
 intro pins s σ H D I h;refine plainObj_wpAny_Assign_Attribute (bZ (hv pins s σ H _ I h) λ u s1 ⟨y,H1,I1,ry,q⟩=>bZ (ho pins s1 σ H1 _ I1 q) λ ov s2 ⟨v,H2,I2,rx,e,C,fI,t0,ev,ec,hn,q2⟩=>?_) hs;subst ev;obtain rfl:ov=Value.ref e:=rx;obtain⟨nm,q0,N,bs,bm,sn,sub,ab,col,dd,k0,k1,k2,k3,k5,cl,tl,no,ni⟩:=ec.ex;obtain⟨hp,g2,d2,RM,Tu⟩:=s2;have T:=u6 I2.jq tl;have hc:∃cd:ClassData,PySem.W.clsIn X.K C=some cd/\cd.mro=.ref C::bm/\cd.hasDict=true:=by refine⟨_,by unfold PySem.W.clsIn;rw[cl],rfl,rfl⟩
 obtain⟨cd,hc,MH,hdct⟩:=hc;have Qf:∀self:Value,refuseLoop self "__setattr__" cd.mro=pure ():=λ self=>by rw[MH,refuseLoop_ref];exact sj T self
 have V1:cd.mro.contains (.type "object")=true:=by rw[MH,contains_cons,T.hasType (b:=true) (by decide),Bool.or_true]
 rcases q2 with⟨he,q⟩|⟨dx,fs,he,hd,ne,dY,q⟩
 ·obtain⟨hx,_,_⟩:=I2.aK e _ he;refine An (mA:=λ _=>none) (ns:=[]) I2.jq hc Qf V1 hdct ec.sa hn ⟨_,hx,rfl,(λ c z=>by cases z),.inl ⟨rfl,λ _=>rfl⟩⟩ (λ h' AL hi kp sm=>?_) (λ n z=>absurd rfl z) (F0 _);obtain⟨⟨oc,od,da,sl⟩,Jx,c1,Q4,Oz,_,dn⟩:=sm _ hx;have e9:od=some hp.objs.size:=dn rfl;clear dn;have nx:hp.objs.size≠e:=D6 (C8 hx);have fr:H2 hp.objs.size=none:=I2.aK.fresh (D8 _);dsimp only at c1 Q4 Oz;subst c1 Q4 Oz e9;have Qm:h'.Ns1 hp.objs.size (λ y'=>if y'=f then some u else none):=by
   obtain⟨o2,z1,_,_,z2⟩:=hi;rw[Jx]at z1;cases z1;rcases z2 with⟨z,_⟩|⟨d',z,_,z3⟩
   ·cases z
   ·cases z;exact z3
  have R4:∀b w,b≠e->hp.get? b=some w->h'.get? b=some w:=λ b w nb z=>kp b w nb (λ o0 dx z1 z2=>by rw[hx]at z1;cases z1;cases z2) z;have W:=I2.aK.write (h':=h') (x:=e) (e:=e) (o':=XO e C (some hp.objs.size) t0) (by rw[he];trivial) (.inl rfl) R4 ⟨_,Jx⟩ ⟨Jx,⟨_,Jx⟩,λ h1 h2 z w=>w _ z⟩;have U:Un X.fs [] H2 (upd H2 e (XO e C (some hp.objs.size) t0)) hp h':=Un.write (by rw[he];trivial) (.inl rfl) R4 ⟨_,Jx⟩;have n2:upd H2 e (XO e C (some hp.objs.size) t0) hp.objs.size=none:=by rw[ar nx];exact fr
  exact⟨σ,_,I2.un (s:=⟨hp,g2,d2,RM,Tu⟩) (t':=AL) (U.IP (D8 _) fr) (W.IP n2 (XD.ok Qm (pE (fs:=[]) ry λ _=>trivial))),q _ fr nx⟩
 ·obtain⟨hx,_,_⟩:=I2.aK e _ he;obtain⟨⟨mA,Qk,hr⟩,_,_⟩:=I2.aK dx _ hd;have hw:Within mA (fs.map (·.1)):=λ n z=>by
   have y:=hr n;cases e1:fs.lookup n with
   |none=>rw[e1]at y;cases e2:mA n with
    |none=>exact absurd e2 z
    |some w=>rw[e2]at y;exact y.elim
   |some w=>exact C9.mpr ⟨_,o5 e1,rfl⟩
  refine An (mA:=mA) (ns:=fs.map (·.1)) I2.jq hc Qf V1 hdct ec.sa hn ⟨_,hx,rfl,(λ c z=>by cases z),.inr ⟨dx,rfl,ne,Qk⟩⟩ (λ h' AL hi kp sm=>?_) hw (by rw[A8];omega);obtain⟨⟨oc,od,da,sl⟩,Jx,c1,Q4,Oz,dk,_⟩:=sm _ hx;have e9:od=some dx:=dk dx rfl;clear dk;dsimp only at c1 Q4 Oz;subst c1 Q4 Oz e9;have Qm:h'.Ns1 dx (λ y'=>if y'=f then some u else mA y'):=by
   obtain⟨o2,z1,_,_,z2⟩:=hi;rw[Jx]at z1;cases z1;rcases z2 with⟨z,_⟩|⟨d',z,_,z3⟩
   ·cases z
   ·cases z;exact z3
  have R4:∀b w,b≠dx->hp.get? b=some w->h'.get? b=some w:=λ b w nb z=>by
   by_cases eb:b=e
   ·subst eb;rw[hx]at z;cases z;exact Jx
   ·exact kp b w eb (λ o0 d0 z1 z2=>by rw[hx]at z1;cases z1;cases z2;exact nb) z
  have Ze:∃w,h'.get? dx=some w:=by obtain⟨o',es,ep,z,_⟩:=Qm;exact⟨o',z⟩
  exact⟨σ,_,I2.write (s:=⟨hp,g2,d2,RM,Tu⟩) (t':=AL) (x:=dx) (e:=dx) (by rw[hd];trivial) (.inl rfl) R4 Ze (XD.ok Qm (pE ry hr)),q⟩
end
end L2
namespace L2
open PySem PySem.Spec PyProof.Rows
def JD(H:Hp)(e:Addr):Hp:=λ b=>if b=e then none else H b
theorem gM{H:Hp}{e:Addr}:JD H e e=none:=J0 rfl
theorem dh{H:Hp}{e b:Addr}(h:b≠e):JD H e b=H b:=J7 h
section
variable {X:Cx}{pins:List (Addr×Obj)}{σ:St}{H:Hp}{s:Shared}{C fI:Addr}{k:Nat}{fd:FuncData}{ps:List Str}{sp:Sp}
theorem wG{us:List Value}{vs:List V}{R:Addr->Hp->Prop}(I:Inv X pins σ H s)(ec:oU X.K C fI)(F:aX X.prog X.w X.K X.mg X.base di k fI fd ps sp)(hr:bf (k+1) X.A)(hb:Binds X.K fd ps [])(r:Vals vs us)(dY:vs.length<=1000) (h:∀e t,H e=none->sp (.ref e::vs) (upd H e (XO e C none t)) (λ v H2=>v=.aY/\R e H2) E0):wpAny (model X.prog X.w) X.A (call (.ref C) us) (λ v s'=>∃e H2,v=.ref e/\X.s₀.heap.objs.size<=e/\Inv X pins σ H2 s'/\R e H2) X.xe s:=by
 obtain⟨nm,q0,N,bs,bm,sn,sub,ab,col,dd,k0,k1,k2,k3,k5,cl,tl,no,ni⟩:=ec.ex;obtain⟨hp,g,d,tk,os⟩:=s;have KX:=I.jq;have NS:hp.Ns N (hp.nsMap N):=.of_isNs (PySem.W.isNs_of_in KX no);have hf:∃oI,hp.get? fI=some oI/\oI.cls=.type "function":=by have z:PySem.W.typeIn X.K (.ref fI)=some (.type "function"):=beq_iff_eq.mp ec.fn;obtain⟨o,ho,e⟩:=Option.map_eq_some_iff.mp z;exact⟨o,KX _ _ ho,e⟩
 obtain⟨oI,fo,fc⟩:=hf;refine zK h7 (by decide) h7 (u6 KX tl) (KX _ _ cl) NS (u_ KX NS ni) fo fc (λ h' e le m=>?_) (by rw[<- r.length];exact D3 dY (by decide));obtain⟨kp,_,t0,he,_,ht⟩:=m;have fr:H e=none:=I.aK.fresh le;have hq:=h e t0 fr;have I2:Inv X pins σ (upd H e (XO e C none t0)) ⟨h',g,d,tk,os⟩:=I.laid (s:=⟨hp,g,d,tk,os⟩) (t':=tk) kp le ⟨he,⟨_,he⟩,λ h1 h2 z w=>w _ z⟩;have r2:Vals (V.ref e::vs) (Value.ref e::us):=.cons rfl r;have hl:(Value.ref e::us++[]).length=ps.length:=by rw[A1,<- r2.length];exact F.len _ _ _ _ hq
 have bd:=hb ⟨h',g,d,tk,os⟩ (Value.ref e::us) I2.jq hl;rw[A1]at bd;refine G5 (D5 (F.run _ X.stack _ _ ⟨Value.ref e::us,[]⟩ (Value.ref e::us) _ _ E0 (hr.make C us []) (I2.DQ.make C us []) bd r2 hq) λ r s' ME=>?_);cases r with
 |error x=>exact ME.elim
 |ok fl=>
  cases fl with
  |ret u=>obtain⟨v,H',I3,rv,ev,q3⟩:=I2.after ME;subst ev;exact⟨rv,e,H',rfl,D3 I.sz le,I3,q3⟩
  |next=>exact False.elim ME
  |brk=>exact False.elim ME
  |cont=>exact False.elim ME
def eR(X:Cx)(E:XK):Prop:=∀(pins:List (Addr×Obj)) (σ:St) (H:Hp) (s:Shared) (e C t:Addr) (od:Option Addr),Inv X pins σ H s->X.s₀.heap.objs.size<=e->H e=some (XO e C od t)->E (.ref C) od (JD H e)->X.xe (.ref e) s
def JZ(sp:Sp)(C:Addr)(E:XK)(t:TA):TS:=λ _ σ H=>t σ H λ vs H1=>vs.length<=1000/\∀e t0,H1 e=none->sp (.ref e::vs) (upd H1 e (XO e C none t0)) (λ v H2=>v=.aY/\∃od t1,H2 e=some (XO e C od t1)/\E (.ref C) od (JD H2 e)) E0
theorem BV{E:XK}{x:Str}{np bx pos:Pos}{a:Expr}{as:List Expr}{t:TA}(hs:eR X E)(hc:X.calm=true)(hg:Gl X x)(hm:X.mg x=some (.ref C))(ec:oU X.K C fI)(F:aX X.prog X.w X.K X.mg X.base di k fI fd ps sp)(hr:bf (k+1) X.A)(hb:Binds X.K fd ps []) (ha:PA X (a::as) t) (hdb:(x==("__debug__":Str))=false:=by decide) (he:starEach (a::as) X.env=(false,eval a X.env)::starEach as X.env:=by rfl) (hpl:(backTo bx (starEach as X.env)).any (·.1)=false:=by rfl):PS X (.Raise (some (.Call (.Name x np) (a::as) [] bx)) none pos) (JZ sp C E t):=by intro pins s σ H D I h;obtain⟨nm,q0,N,bs,bm,sn,sub,ab,col,dd,k0,k1,k2,k3,k5,cl,tl,no,ni⟩:=ec.ex;have T:=u6 I.jq tl;rw[arm_exec_Raise];refine G1 (C5 (mW (C:=C) (nm:=nm) (q:=q0) (N:=N) (bs:=bs) (bm:=bm) (hdct:=true) (sn:=sn) (sub:=sub) (ab:=ab) (col:=col) (dd:=dd) (k0:=k0) (k1:=k1) (k2:=k2) (k3:=k3) (k5:=k5) (newId:="ValueError.__new__") (T.hasType (b:=true) (by decide)) (I.ok.hd hc) ?_));refine G1 (G4 (u5 (dC I hg hm (PySem.W.callWith_K (h₀:=X.base) I.ok.mod.Mo ec.kp (bZ (ha bx pins s σ H _ I h) λ us s1 ⟨vs,H1,I1,r,dY,q⟩=>⟨I1.jq,wG I1 ec F hr hb r dY q⟩) he hpl) hdb)) (λ v s3 z=>G1 (C5 (G2 ?_))) λ _ _ z=>z);obtain⟨e,H2,rfl,le,J,od,t1,hx,q⟩:=z;obtain⟨ho,_,_⟩:=J.aK e _ hx;exact⟨e,_,_,rfl,J.jq _ _ cl,ho,rfl,rfl,rfl,hs pins σ H2 s3 e C t1 od J le hx q⟩
end
end L2
namespace L2
open PySem PySem.Spec PyProof.Rows
section
variable {M:Model}{A:Around}{E:Value->Shared->Prop}{s:Shared}{B:Heap}{env:Env}{outer:List Env}{L e:Addr}
theorem PD{c:Value}{dx:Option Addr}{T:Addr}{Q:Unit->Shared->Prop}(ou:A.frames=some (env::outer))(hl:s.heap.FunFrames B (env::outer))(hf:env.frame=some L)(t:U_ s.heap e c dx T)(nT:B.get? T=none) (kB:B.StaysIn s.heap) (nB:B.get? e=none) (q:∀h',Vc B (env::outer) e c dx s.heap h'->Q () {s with heap:=h'}):wpAny M A (noteFrame (.ref e) env) (λ _ s2=>wpAny M A (setFlight (.ref e) none) Q E s2) E s:=by
 obtain⟨oe,vs,oT,ts,he,rfl,rfl,dv,h1,ne,hT,dT,h3⟩:=t;unfold noteFrame;simp only[hf];refine G1 (G0 he dv h1 ?_);rw[J0 (show(Value.ref T != Value.none)=true from by simp)];refine G1 (G0 hT dT h3 ?_);rw[J7 (show ¬((Value.none==rawInt L)=true)from by simp[rawInt])];refine G1 (B7 hT dT (Array.getElem?_eq_some_iff.mp h3).1 ?_);have ot:∀b,b≠T->(s.heap.update T (Obj.mapFields (·.setIfInBounds 3 Value.none))).get? b=s.heap.get? b:=λ b y=>j9 _ _ y.symm;have nr:∀b o,s.heap.get? b=some o->(∀vs,o.data≠.fields vs)->b≠T:=λ b o z w y=>by rw[y,hT]at z;cases z;exact w ts dT
 exact Cy ou (hl.of_keeps λ b o z w=>⟨o,(ot b (nr b o z w)).trans z,rfl⟩) hf ((ot e ne.symm).trans he) (λ b o z=>(ot b λ y=>by rw[y,nT]at z;cases z).trans (kB b o z)) nB dv (Array.getElem?_eq_some_iff.mp h1).1
  λ h' x=>q h' ⟨x.eK,x.fr,by have z:=x.tr;rw[show(s.heap.update T (Obj.mapFields (·.setIfInBounds 3 Value.none))).objs.size=s.heap.objs.size from Heap.size_update _ _ _]at z;exact z,λ b o z w=>x.sl b o ((ot b (nr b o z w)).trans z) w⟩
end
theorem Un.Ro {fs ex:List Addr}{H H1:Hp}{h h1:Heap}{b0:Addr}{o:HO}(u:Un fs ex H H1 h h1)(hf:h.objs.size<=b0)(hn:H1 b0=none):Un fs ex H (upd H1 b0 o) h h1 where
 keep:=u.keep
 slot:=u.slot
 free:=λ b ob q n x=>by rw[ar (λ z=>absurd (C8 q) (by rw[z];exact Nat.not_lt.mpr hf))];exact u.free b ob q n x
 there:=u.there
 dZ:=λ b xs q=>by have y:=u.dZ b xs q;rw[ar (λ z=>by rw[z,hn]at y;cases y)];exact y
 dD:=λ b ob v q=>by have y:=u.dD b ob v q;rw[ar (λ z=>by rw[z,hn]at y;cases y)];exact y
 d_:=λ b ps q=>by obtain⟨m,y⟩:=u.d_ b ps q;exact⟨m,by rw[ar (λ z=>by rw[z,hn]at y;cases y)];exact y⟩
theorem Un.kJ {fs ex:List Addr}{H H1:Hp}{h h1 h2:Heap}{b0:Addr}(u:Un fs ex H H1 h h1)(hf:h.objs.size<=b0)(k:∀b o,b≠b0->h1.get? b=some o->h2.get? b=some o):Un fs ex H H1 h h2 where
 keep:=λ b o q n m x=>k b o (λ z=>absurd (C8 q) (by rw[z];exact Nat.not_lt.mpr hf)) (u.keep b o q n m x)
 slot:=λ b o q n m x=>by obtain⟨z,y⟩:=u.slot b o q n m x;exact⟨z,k b _ (λ z=>absurd (C8 q) (by rw[z];exact Nat.not_lt.mpr hf)) y⟩
 free:=u.free
 there:=λ b o q x=>by obtain⟨o',y⟩:=u.there b o q x;exact⟨o',k b _ (λ z=>absurd (C8 q) (by rw[z];exact Nat.not_lt.mpr hf)) y⟩
 dZ:=u.dZ
 dD:=u.dD
 d_:=u.d_
theorem dX.kJ {P:Program}{w:World}{H:Hp}{h h2:Heap}{b0:Addr}(ok:dX P w H h)(hn:H b0=none)(k:∀b o,b≠b0->h.get? b=some o->h2.get? b=some o):dX P w H h2:=λ b u q=>by
 refine(ok b u q).eK (λ d v y z=>k d v (λ e=>?_) z) (λ _ z=>z) λ _ _ z=>z;rcases y with rfl|y
 ·rw[e,hn]at q;cases q
 ·rw[e,hn]at y;cases y
section
variable {X:Cx}{pins:List (Addr×Obj)}{σ:St}{H H':Hp}{s s':Shared}{a T:Addr}{h':Heap}{c:Value}{dx:Option Addr}{as:List Addr}
theorem HI(I:Inv X pins σ H s)(un:Un (f_ X.stack) [] H H' s.heap s'.heap)(aK:dX X.prog X.w H' s'.heap)(lX:s'.os=s.os)(bare:AllBare s'.gens)(ha:∀b∈as,s.heap.objs.size<=b/\H' b=none) (l:Vc (PySem.W.hideAll s'.heap (f_ X.stack++as)) X.stack a c dx s'.heap h'):Un (f_ X.stack) [] H H' s.heap h'/\dX X.prog X.w H' h':=by
 have J:Inv X pins σ H' s':=I.qf lX un aK bare λ b z=>absurd z (by simp);have kp:∀b o,s'.heap.get? b=some o->b∉f_ X.stack->b∉as->h'.get? b=some o:=λ b o q n m=>l.eK b o (PySem.W.hideAll_get _ q λ z=>(A9.mp z).elim n m);have sl:∀b o,s'.heap.get? b=some o->b∈f_ X.stack->∃z,h'.get? b=some {o with slots:=z}:=λ b o q n=>by obtain⟨_,u,hu,w⟩:=J.stack.mem n;rw[q]at hu;cases hu;exact l.sl b o q w
 have old:∀b o,s.heap.get? b=some o->b∉as:=λ b o q z=>absurd (C8 q) (Nat.not_lt.mpr (ha b z).1);refine⟨⟨λ b o q n m x=>?_,λ b o q n m x=>?_,un.free,λ b o q x=>?_,un.dZ,un.dD,un.d_⟩,λ b o q=>?_⟩
 ·exact kp b o (un.keep b o q n m x) m (old b o q)
 ·obtain⟨z,q'⟩:=un.slot b o q n m x;obtain⟨z2,q2⟩:=sl b _ q' m;exact⟨z2,q2⟩
 ·obtain⟨o',q'⟩:=un.there b o q x;by_cases m:b∈f_ X.stack
  ·obtain⟨z2,q2⟩:=sl b _ q' m;exact⟨_,q2⟩
  ·exact⟨_,kp b o' q' m (old b o q)⟩
 ·refine(aK b o q).eK (λ d u e z=>?_) (λ _ z=>z) λ _ _ z=>z;have hd:H' d≠none:=by
   rcases e with rfl|e
   ·rw[q];intro y;cases y
   ·rw[e];intro y;cases y
  exact kp d u z (λ m=>hd (J.gZ d m)) λ m=>hd (ha d m).2
theorem lY{M:Model}{A:Around}{E:Value->Shared->Prop}{i:Nat}{x:Str}{pos:Pos}{Q:Unit->Shared->Prop}(I:Inv X pins σ H s)(hN:X.N.Nodup)(hi:X.N[i]?=some x)(hk:X.env.scope.names.lookup x=some .local) (h:∀s',Inv X pins (σ.set i none) H s'->Q () s'):wpAny M A (do bindName X.env x .none;unbindBehindTheSuite X.env x pos) Q E s:=by
 obtain⟨m,hn,hl⟩:=id I.loc;have MN:(X.env.scope.kind==.class||(X.env.scope.kind==.module&&X.env.locals != X.env.globals))=false:=by rw[I.ok.kind];rfl
 refine wpAny_nameGoes_keeps hk hn MN λ h' v Ib hs=>?_;obtain⟨oL,_,_,NT,_⟩:=id hn;have Ai:=I.Ai;refine h _ ⟨I.ok,I.os,I.bare,⟨λ b o e n hb hx=>?_,λ b o e n hb hx=>?_,I.base.free,λ b o e hx=>?_,I.base.dZ,I.base.dD,I.base.d_⟩,⟨_,Ib,λ j y v' e1 e2 e3=>?_⟩,λ y c e=>?_,I.free,I.dr,λ p hp=>?_,λ b ob e=>?_,by simpa using I.len⟩
 ·exact(hs.2 b (C7 (u3 (C8 e) I.ok.above))).trans (I.base.keep b o e n hb hx)
 ·obtain⟨sl,e1⟩:=I.base.slot b o e n hb hx;exact⟨sl,(hs.2 b (C7 (u3 (C8 e) I.ok.above))).trans e1⟩
 ·obtain⟨o',e1⟩:=I.base.there b o e hx;exact⟨o',(hs.2 b (C7 (u3 (C8 e) I.ok.above))).trans e1⟩
 ·by_cases hj:j=i
  ·subst hj;by_cases hz:j < σ.length
   ·rw[k7 hz]at e2;cases e2
   ·rw[getElem?_eq_none (by rw[length_set];omega)]at e2;cases e2
  ·rw[n6 (H9 hj)]at e2;obtain⟨u',r',q⟩:=hl j y v' e1 e2 e3;refine⟨u',r',?_⟩;rcases q with⟨k,e⟩|⟨k,c,e,z⟩
   ·refine .inl ⟨k,?_⟩;have:y≠x:=λ e=>hj (gD hN e1 (e▸hi));simp[this,e]
   ·exact .inr ⟨k,c,e,z.sameBut hs (Ai y c e)⟩
 ·obtain⟨w',z⟩:=I.cell y c e;exact⟨w',z.sameBut hs (Ai y c e)⟩
 ·obtain⟨e,n,ne,nf,d⟩:=I.pin p hp;exact⟨(hs.2 p.1 ne).trans e,n,ne,nf,d⟩
 ·refine(I.aK b ob e).eK (λ c w' hc q=>(hs.2 c ?_).trans q) (λ _ q=>q) λ _ _ q=>q;rintro rfl;rcases hc with rfl|hc
  ·rw[I.free]at e;cases e
  ·rw[I.free]at hc;cases hc
end
end L2
namespace L2
open PySem PySem.Spec PyProof.Rows
def XT(a C:Addr)(od:Option Addr):HO:=.ext λ h=>∃oe vs,h.get? a=some oe/\oe.cls=.ref C/\oe.dict=od/\oe.data=.fields vs
theorem XT.ok {P:Program}{w:World}{H:Hp}{h:Heap}{a C:Addr}{od:Option Addr}{oe:Obj}{vs:Array Value}(h1:h.get? a=some oe)(h2:oe.cls=.ref C)(h3:oe.dict=od)(h4:oe.data=.fields vs):br P w H h a (XT a C od):=
 ⟨⟨oe,vs,h1,h2,h3,h4⟩,⟨_,h1⟩,λ _ _ ⟨oe,vs,z,r⟩ k=>⟨oe,vs,k _ z,r⟩⟩
structure lF(K:J8)(C:Addr):Prop where
 ex:∃nm q N bs bm hd sn sub ab col dd k0 k1 k2 k3 k5 newId,K.lookup C=some (excClassObj nm q C N bs bm hd sn sub ab col dd k0 k1 k2 k3 k5 newId)/\bm.contains (.type "BaseException")=true
def uw(K:J8)(C D:Addr):Bool:=match K.lookup C with
 |some ⟨_,_,.cls cd,_⟩=>cd.mro.contains (.ref D)
 |_=>false
section
variable {M:Model}{A:Around}{E:Value->Shared->Prop}{K:J8}{s:Shared}{a C D:Addr}{oe:Obj}
theorem sU{b:Bool}{Q:Bool->Shared->Prop}(X:K.In s.heap)(h1:s.heap.get? a=some oe)(h2:oe.cls=.ref C)(hC:lF K C)(hD:lF K D)(hs:uw K C D=b)(k:Q b s):wpAny M A (excMatches (.ref a) (.ref D)) Q E s:=by
 obtain⟨nm,q0,N,bs,bm,hd,sn,sub,ab,col,dd,k0,k1,k2,k3,k5,nw,cl,hb⟩:=hC.ex;obtain⟨ZZ,ZW,N',ZL,ZM,jz,ZV,W',ab',ZF,Ag,Z4,Z3,Z2,Z1,Z0,ZY,ZJ,YG⟩:=hD.ex;obtain⟨hp,g,d,tk,os⟩:=s;have c1:=X _ _ cl;have c2:=X _ _ ZJ;have hc:(Value.ref D::ZM).contains (.type "BaseException")=true:=by rw[contains_cons,YG,Bool.or_true]
 have hm:(Value.ref C::bm).contains (.ref D)=b:=by unfold uw at hs;rw[cl]at hs;exact hs
 obtain⟨oc,od,da,sl⟩:=oe;dsimp only at h2;subst h2;have c3:=c2;unfold excClassObj at c3;have f1:isSubtype (.type "type") (.type "tuple")=pure false:=by rw[isSubtype_type];kernel_rfl
 unfold excMatches
 repeat(first|with_reducible refine y4 h1 ?_|with_reducible refine y4 c3 ?_|(with_reducible refine o9 c2 ?_;rw[hc])|(with_reducible refine o9 c1 ?_;rw[hm])|wp_step)
 cases b <;> (wp_walk;exact k)
end
def Cx.HW (X:Cx)(a:Addr):Cx:={X with A:=X.A.mark (some (.ref a)),calm:=false,xe:=λ _ _=>False}
section
variable {X:Cx}{pins:List (Addr×Obj)}{σ:St}{H H':Hp}{s s':Shared}{a:Addr}
theorem Inv.HW (I:Inv X pins σ H s)(a:Addr):Inv (X.HW a) pins σ H s:=
 let ok:=I.ok
 ⟨⟨ok.mod,ok.kind,ok.glob,ok.blt,ok.above,ok.inj,ok.has,ok.Nt,(λ z=>by cases z),ok.frames,ok.Oo,ok.UU,ok.bs,ok.vX,ok.vb,ok.DN,ok.gL,ok.DC⟩,I.os,I.bare,I.base,I.loc,I.cell,I.free,I.dr,I.pin,I.aK,I.len⟩
theorem Inv.Hb (J:Inv (X.HW a) pins σ' H' s')(ok:X.Ok):Inv X pins σ' H' s':=
 ⟨ok,J.os,J.bare,J.base,J.loc,J.cell,J.free,J.dr,J.pin,J.aK,J.len⟩
def Ends.but (D:Ends)(i:Nat):Ends:={nx:=λ σ H=>D.nx (σ.set i none) H,rt:=D.rt,bk:=λ σ H=>D.bk (σ.set i none) H,ct:=λ σ H=>D.ct (σ.set i none) H}
def EH(K:J8)(CE:Addr)(i:Nat)(th:Addr->TS)(D:Ends)(σ:St):XK:=λ c od H'=>∃C,c=.ref C/\lF K C/\uw K C CE=true/\∀a,H' a=none->th a (D.but i) (σ.set i (some (.ref a))) (upd H' a (XT a C od))
theorem Nr{E:Value->Shared->Prop}{x n:Str}{i:Nat}{np vq:Pos}{b0:Stmt}{suite:List Stmt}{th:Addr->TS}{D:Ends}{CE:Addr}{e:Value}(I:Inv X pins σ H s)(hst:X.stack=X.env::X.outer/\X.env.frame=some X.env.locals)(hN:X.N.Nodup)(hi:X.N[i]?=some n)(hk:X.env.scope.names.lookup n=some .local) (hg:Gl X x) (hm:X.mg x=some (.ref CE)) (hC:lF X.K CE) (hs:∀a,nZ (X.HW a) (b0::suite) (th a)) (cx:ow X.prog X.w X.stack H s (EH X.K CE i th D σ) e s') (hdb:(x==("__debug__":Str))=false:=by decide):wpAny (model X.prog X.w) X.A (noteFrame e X.env) (λ _ s2=>wpAny (model X.prog X.w) X.A (setFlight e none) (λ _ s3=>wpAny (model X.prog X.w) X.A (handleBy e X.env [.ExceptHandler (some (.Name x np)) (some n) (b0::suite) vq]) (SP X pins D) E s3) E s2) E s':=by
 obtain⟨a,c,dx,T,H',rfl,lX,bare,un,aK,h1,h2,n1,n2,t,C,rfl,eC,sC,q⟩:=cx;have J:=I.qf lX un aK bare λ b z=>absurd z (by simp);have hT:∀b∈[a,T],s.heap.objs.size<=b/\H' b=none:=λ b hb=>by
  rcases C3.mp hb with rfl|hb
  ·exact⟨h1,n1⟩
  ·cases u4.mp hb;exact⟨h2,n2⟩
 have fr:=J.ok.frames;have fn:=J.stack;rw[hst.1]at fr fn;have jv:s.heap.objs.size<=s'.heap.objs.size:=by obtain⟨oe,vs,oT,ts,he,_⟩:=t;exact D3 h1 (D7 (C8 he))
 refine PD (B:=PySem.W.hideAll s'.heap (f_ (X.env::X.outer)++[a,T])) (env:=X.env) (outer:=X.outer) (L:=X.env.locals) fr (PySem.W.funFrames_hide fn λ e he b hb=>A9.mpr (.inl (mem_filterMap.mpr ⟨e,he,hb⟩))) hst.2 t
  (n9 _ (by simp)) (λ b o z=>w6 _ z) (n9 _ (by simp)) λ h' l=>?_
 rw[<- hst.1]at l;obtain⟨Vj,Qh⟩:=HI I un aK lX bare hT l;obtain⟨oe,vs,oT,ts,he,c1,d1,dv,v1,ne,gT,dT,v3⟩:=l.tr;have fT:H' s'.heap.objs.size=none:=aK.fresh (D8 _);refine wpAny_handleBy_cons (codeAny_handlers_test ?_) (by intro z;cases z);have J1:Inv X pins σ H' {s' with heap:=h'}:=I.qf lX Vj Qh bare λ b z=>absurd z (by simp);refine dC (X:=X.HW a) (J1.HW a) hg hm ?_ hdb;refine sU J1.jq he c1 eC hC sC ?_;refine codeAny_handlers_suite_as ?_;unfold setFlight;refine G1 (G0 he dv v1 ?_);rw[J0 (show(Value.ref s'.heap.objs.size != Value.none)=true from by simp)];refine B7 gT dT (Array.getElem?_eq_some_iff.mp v3).1 ?_;generalize Qx:h'.update s'.heap.objs.size (Obj.mapFields (·.setIfInBounds 3 ((none:Option Addr).elim Value.none λ f=>rawInt f)))=g2;have kp:∀b o,b≠s'.heap.objs.size->h'.get? b=some o->g2.get? b=some o:=λ b o nb z=>by rw[<- Qx,j9 _ _ nb.symm];exact z
 have WY:=Vj.kJ (D3 (D8 _) jv) kp;have Uu:=Qh.kJ fT kp;have WX:=WY.Ro (o:=XT a C dx) h1 n1;have Ut:=Uu.IP (o:=XT a C dx) n1 (XT.ok (kp a oe ne.symm he) c1 d1 dv);have J3:Inv X pins σ (upd H' a (XT a C dx)) {s' with heap:=g2}:=I.qf (s':={s' with heap:=g2}) lX WX Ut bare λ b z=>absurd z (by simp);refine gj (v:=.ref a) J3 hN hi (.inl hk) rfl (λ s4 J4=>?_) (.inr hk);refine G4 (hs a pins s4 _ _ (D.but i) (J4.HW a) (q a n1)) (λ f s5 z=>?_) λ _ _ z=>z.elim;cases f with
 |next=>obtain⟨σ5,H5,J5,q5⟩:=z;exact lY (J5.Hb J.ok) hN hi hk λ s6 J6=>⟨_,_,J6,q5⟩
 |brk=>obtain⟨σ5,H5,J5,q5⟩:=z;exact lY (J5.Hb J.ok) hN hi hk λ s6 J6=>⟨_,_,J6,q5⟩
 |cont=>obtain⟨σ5,H5,J5,q5⟩:=z;exact lY (J5.Hb J.ok) hN hi hk λ s6 J6=>⟨_,_,J6,q5⟩
 |ret u=>obtain⟨v,σ5,H5,J5,r5,q5⟩:=z;exact lY (J5.Hb J.ok) hN hi hk λ s6 J6=>⟨_,_,_,J6,r5,q5⟩
end
end L2
namespace L2
open PySem PySem.Spec PyProof.Rows
section
variable {X:Cx}{pins:List (Addr×Obj)}{σ:St}{H:Hp}{s:Shared}{k:Nat}{fa:Addr}{fd:FuncData}{ps:List Str}{sp:Sp}{x:Str}{p pos:Pos}{e:Expr}{es:List Expr}{t:TA}{E:XK}
theorem UW{Ex:Value->Shared->Prop}{Q:VK}(hE:∀v s,X.xe v s->False)(F:aX X.prog X.w X.K X.mg X.base (ow X.prog X.w) k fa fd ps sp)(hr:bf k X.A)(hg:Gl X x)(hm:X.mg x=some (.ref fa))(hk:PySem.W.keepIn X.K (.ref fa)=true)(hb:Binds X.K fd ps []) (ha:PA X (e::es) t) (I:Inv X pins σ H s) (h:t σ H λ vs H1=>sp vs H1 Q E) (hx:∀H1 s1 v s',Inv X pins σ H1 s1->ow X.prog X.w X.stack H1 s1 E v s'->Ex v s') (hdb:(x==("__debug__":Str))=false:=by decide) (he:starEach (e::es) X.env=(false,eval e X.env)::starEach es X.env:=by rfl) (hpl:(backTo pos (starEach es X.env)).any (·.1)=false:=by rfl):wpAny (model X.prog X.w) X.A (eval (.Call (.Name x p) (e::es) [] pos) X.env) (EP X pins σ Q) Ex s:=by
 refine u5 (dC I hg hm ?_ hdb);refine PySem.W.callWith_K (h₀:=X.base) I.ok.mod.Mo hk (G4 (ha pos pins s σ H _ I h) (λ us s1 ⟨vs,H1,I1,r,q⟩=>⟨I1.jq,?_⟩) λ v s z=>(hE v s z).elim) he hpl;have hl:(us++[]).length=ps.length:=by rw[A1,<- r.length];exact F.len _ _ _ _ q
 have bd:=hb s1 us I1.jq hl;rw[A1]at bd;refine G5 (D5 (F.run X.A X.stack s1 H1 ⟨us,[]⟩ us vs Q E hr I1.DQ bd r q) λ r s' hq=>?_);cases r with
 |error v=>exact hx H1 s1 v s' I1 hq
 |ok fl=>
  cases fl with
  |ret u=>exact I1.after hq
  |next=>exact False.elim hq
  |brk=>exact False.elim hq
  |cont=>exact False.elim hq
end
end L2
namespace L2
open PySem PySem.Spec PyProof.Rows Builtin Builtin.ObjectAttr
theorem xE(x:Value):bindSpecial (.builtin "BaseException.__getattribute__") x=pure (.builtin "BaseException.__getattribute__",[x]):=PySem.F.excAttr_ValueError.ga.bind x
section
variable {prog:Program}{w:World}{A:Around}{E:Value->Shared->Prop}{K:J8}{h:Heap}{g:Array GenState}{d:Drawn}{t:Nat}{os:OsState}{C a:Addr}{oe:Obj}{od:Option Obj}{name:Str}{v:Value}
theorem SM{expr:Bool}{Q:Value->Shared->Prop}(X:K.In h)(I:PySem.W.InstAt h a oe C od)(Yx:PySem.W.findIn K (.ref C) "__getattribute__"=some (some (.builtin "BaseException.__getattribute__")))(Qz:PySem.W.findIn K (.ref C) "__getattr__"=some none) (hf:PySem.W.findObj K C od name=some (.value v)) (hb:PySem.W.mroIn K C (.type "BaseException")=some true) (hh:handedOut v=pure v) (q:Q v ⟨h,g,d,t+1,os⟩):wpAny (model prog w) A (getAttr (.ref a) name expr) Q E ⟨h,g,d,t,os⟩:=by
 have L0:=I.type (M:=model prog w);have L1:=PySem.W.looks_findIn (M:=model prog w) X Yx;have L2:=PySem.W.looks_hook (M:=model prog w) (mc:=.ref C) X (r:=none) (by rw[J0 (show onTheHeap (Value.ref C)=true from rfl)];exact Qz);have L3:=PySem.W.looks_find (M:=model prog w) X I hf;have sub:PySem.W.Looks (model prog w) h (isInstance (.ref a) (.type "BaseException")) true:=L0.andThen (PySem.W.looks_mroIn X hb);unfold getAttr getAttrBy;refine G1 (wpAny_mkText (B8 (G1 (L0.at (G1 (L1.at ?_))))));have Uc:(Value.builtin "BaseException.__getattribute__"==Value.builtin "object.__getattribute__")=false:=by decide+kernel
 have Ud:(expr&&onTheHeap (Value.builtin "BaseException.__getattribute__"))=false:=by cases expr <;> rfl
 dsimp only;rw[J7 (by rw[Uc,Bool.and_false];decide)];unfold getAttrByItsOwn;refine G1 (L2.at ?_);unfold callGetattribute;rw[J7 (by rw[Ud];decide)];unfold boundAndCalled;refine G1 (B9 (B8 (G1 ?_)));rw[xE];refine G2 (G5 ?_);refine n5 PySem.F.excAttr_ValueError.ga.plain PySem.F.entry_bexc_ga (@PySem.W.check_slot (model prog w) _ _ ⟨h,g,d,t+1,os⟩ "BaseException.__getattribute__" "BaseException" "__getattribute__" (.ref a) [.str name t] [] _ (by decide+kernel) (by decide+kernel) sub (PySem.F.args_bexc_ga (.ref a) (.str name t)) ?_);refine G1 (G2 (G1 (G2 (G1 (L0.at (G1 (L3.at ?_)))))));refine G2 ?_;show wpAny _ _ (handedOut v) _ _ _;rw[hh];exact G2 q
end
section
variable {X:Cx}{e:Expr}{ta:TE}{pos:Pos}{f:Str}
structure RD(K:J8)(C:Addr)(f:Str):Prop where
 ga:PySem.W.findIn K (.ref C) "__getattribute__"=some (some (.builtin "BaseException.__getattribute__"))
 gt:PySem.W.findIn K (.ref C) "__getattr__"=some none
 no:PySem.W.findIn K (.ref C) f=some none
 ba:PySem.W.mroIn K C (.type "BaseException")=some true
 hd:(PySem.W.clsIn K C).any (·.hasDict)=true
def W3(K:J8)(ta:TE)(f:Str):TE:=λ σ H Q=>ta σ H λ v H1=>∃a C dx fs y,v=.ref a/\H1 a=some (XT a C (some dx))/\H1 dx=some (XD dx fs)/\RD K C f/\fs.lookup f=some y/\Q y H1
theorem O3(he:PE X e ta)(hb:attributeBase e f X.env (eval e X.env)=eval e X.env:=by rfl):PE X (.Attribute e f pos) (W3 X.K ta f):=by
 intro pins s σ H Q I h;refine IL hb (bZ (he pins s σ H _ I h) λ u s1 ⟨v,H1,I1,rx,a,C,dx,fs,y,ev,h1,h2,eg,hl,q⟩=>?_);subst ev;obtain rfl:u=Value.ref a:=rx;obtain⟨⟨oe,vs,he,hc,hd,Ae⟩,_,_⟩:=I1.aK a _ h1;obtain⟨⟨mA,hn,hr⟩,_,_⟩:=I1.aK dx _ h2;obtain⟨od,ho,Yl⟩:=pO hn;obtain⟨hp,g,d,tk,os⟩:=s1;have ry:=hr f;rw[hl]at ry;cases em:mA f with
 |none=>rw[em]at ry;exact ry.elim
 |some u=>
  rw[em]at ry;have IA:PySem.W.InstAt hp a oe C (some od):=⟨he,hc,by unfold PySem.W.notCls;rw[Ae],by rw[hd];exact ho⟩;obtain⟨cd,hcd,YA⟩:=PySem.W.any_some eg.hd;refine SM I1.jq IA eg.ga eg.gt (v:=u) ?_ eg.ba ?_ ⟨y,H1,I1.tok _,ry,q⟩
  ·unfold PySem.W.findObj;rw[hcd,Option.bind_some,eg.no];show((PySem.W.ownOf cd (some od) f).bind _)=_;unfold PySem.W.ownOf;rw[J0 YA];dsimp only;rw[Yl,em];rfl
  ·exact PySem.W.handedOut_of (zu ry)
end
end L2
namespace L2
open PySem PySem.Spec PyProof.Rows Builtin Builtin.ObjectAttr
structure wc(K:J8)(C:Addr):Prop where
 ga:PySem.W.findIn K (.ref C) "__getattribute__"=some (some (.builtin "BaseException.__getattribute__"))
 gt:PySem.W.findIn K (.ref C) "__getattr__"=some none
 ba:PySem.W.mroIn K C (.type "BaseException")=some true
 ob:PySem.W.mroIn K C (.type "object")=some true
 hd:(PySem.W.clsIn K C).any (·.hasDict)=true
 cl:PySem.W.findIn K (.ref C) "__class__"=some (some (.builtin "object.__class__"))
 ge:PySem.W.specialIn K (.builtin "object.__class__") "__get__"=some (some (.builtin "getset_descriptor.__get__"))
 tk:PySem.W.takesIn K (.builtin "object.__class__")=some true
section
variable {prog:Program}{w:World}{A:Around}{E:Value->Shared->Prop}{K:J8}{s:Shared}{C a:Addr}{oe:Obj}{od:Option Obj}
theorem JQ{Q:Option Value->Shared->Prop}(X:K.In s.heap)(I:PySem.W.InstAt s.heap a oe C od)(e:wc K C)(q:Q (some (.ref C)) {s with toks:=s.toks+1}):wpAny (model prog w) A (getAttr? (.ref a) "__class__") Q E s:=by
 obtain⟨h,g,d,t,os⟩:=s;obtain⟨cd,hcd,_⟩:=PySem.W.any_some e.hd;have hf:PySem.W.findObj K C od "__class__"=some (.bind (.builtin "getset_descriptor.__get__") (.builtin "object.__class__")):=by unfold PySem.W.findObj;rw[hcd,Option.bind_some,e.cl,Option.bind_some];simp[e.ge,e.tk]
 have L0:=I.type (M:=model prog w);have L1:=PySem.W.looks_findIn (M:=model prog w) X e.ga;have L2:=PySem.W.looks_hook (M:=model prog w) (mc:=.ref C) X (r:=none) (by rw[J0 (show onTheHeap (Value.ref C)=true from rfl)];exact e.gt);have L3:=PySem.W.looks_find (M:=model prog w) X I hf;have sub:PySem.W.Looks (model prog w) h (isInstance (.ref a) (.type "BaseException")) true:=L0.andThen (PySem.W.looks_mroIn X e.ba);unfold getAttr? getAttrBy? getAttrBy;refine G1 (wpAny_mkText (G1 (B9 (B8 (G1 (L0.at (G1 (L1.at ?_))))))));have Uc:(Value.builtin "BaseException.__getattribute__"==Value.builtin "object.__getattribute__")=false:=by decide+kernel
 dsimp only;rw[J7 (by rw[Uc,Bool.and_false];decide)];unfold getAttrByItsOwn;refine G1 (L2.at ?_);unfold callGetattribute;rw[J7 (by decide)];unfold boundAndCalled;refine G1 (B9 (B8 (G1 ?_)));rw[xE];refine G2 (G5 ?_);refine n5 PySem.F.excAttr_ValueError.ga.plain PySem.F.entry_bexc_ga (@PySem.W.check_slot (model prog w) _ _ ⟨h,g,d,t+1,os⟩ "BaseException.__getattribute__" "BaseException" "__getattribute__" (.ref a) [.str "__class__" t] [] _ (by decide+kernel) (by decide+kernel) sub (PySem.F.args_bexc_ga (.ref a) (.str "__class__" t)) ?_);refine G1 (G2 (G1 (G2 (G1 (L0.at (G1 (L3.at ?_)))))));show wpAny _ _ (holding [.builtin "object.__class__"] (call (.builtin "getset_descriptor.__get__") [.builtin "object.__class__",.ref a,.ref C]) >>= ret) _ _ _;refine G1 (B8 (G5 (PySem.W.class_get (s:=⟨h,g,d,t+1,os⟩) (ox:=oe) (od:=od) X I e.ob ?_)));refine G2 ?_;show wpAny _ _ (handedOut (Value.ref C)) _ _ _;rw[PySem.W.handedOut_of rfl];exact G2 (G2 q)
set_option tactic.hygienic true in
theorem sY(e:wc K C):PySem.W.KitX K (.ref a) (.ref C) (λ h=>∃oe od,PySem.W.InstAt h a oe C od) where
 ty:=λ _ _ _ ⟨_,_,I⟩=>I.type
 it:=λ _ _ X _=>by
  obtain⟨cd,hc,_⟩:=PySem.W.any_some e.hd;unfold PySem.W.clsIn at hc;split at hc
  ·rename_i c' d' ZK Bc ho;intro A' Q' E' s' k q;unfold isType loadHead;exact G1 (wpAny_loadPart (k _ _ (X _ _ ho)) (G2 q))
  ·cases hc
 ne:=λ h tp dd au n sl X z=>by
  obtain⟨cd,hc,_⟩:=PySem.W.any_some e.hd;refine Bool.eq_false_iff.mpr λ q=>?_;have e:C=tp:=Value.ref.inj (beq_iff_eq.mp q);subst e;unfold PySem.W.clsIn at hc;split at hc
  ·rename_i c' d' ZK Bc ho;have y:=(X _ _ ho).symm.trans z;cases y
  ·cases hc
 ca:=λ X ⟨_,_,I⟩ k=>JQ X I e k
end
section
variable {X:Cx}{pins:List (Addr×Obj)}{σ:St}{H:Hp}{s:Shared}
def NF(H:Hp):Option Addr->Prop
 |none=>True
 |some dx=>∃fs,H dx=some (XD dx fs)
theorem qa(I:Inv X pins σ H s){a C:Addr}{od:Option Addr}(h1:H a=some (XT a C od))(h2:NF H od):∃oe od,PySem.W.InstAt s.heap a oe C od:=by
 obtain⟨⟨oe,vs,he,hc,hd,Ae⟩,_,_⟩:=I.aK a _ h1;cases od with
 |none=>exact⟨oe,none,he,hc,by unfold PySem.W.notCls;rw[Ae],by rw[hd];trivial⟩
 |some dx=>obtain⟨fs,h2⟩:=h2;obtain⟨⟨mA,hn,hr⟩,_,_⟩:=I.aK dx _ h2;obtain⟨od,ho,_⟩:=pO hn;exact⟨oe,some od,he,hc,by unfold PySem.W.notCls;rw[Ae],by rw[hd];exact ho⟩
theorem CZ{b:Bool}{c:Value}{a C:Addr}{od:Option Addr}{A:Around}{E:Value->Shared->Prop}{Q:Value->Shared->Prop}(I:Inv X pins σ H s)(h1:H a=some (XT a C od))(h2:NF H od)(e:wc X.K C)(k:PySem.W.kitOne X.K (.ref C) c=some b) (q:∀tk,Q (.bool b) {s with toks:=tk}):wpAny (model X.prog X.w) A (call (.builtin "isinstance") [.ref a,c]) Q E s:=
 PySem.W.kia_one (sY e) I.jq (qa I h1 h2) k (λ z=>nomatch z) q
theorem zp{b:Bool}{a C tp:Addr}{od:Option Addr}{dd:Option Addr}{au:List Value}{n:Nat}{sl:Array (Option Value)}{A:Around}{E:Value->Shared->Prop}{Q:Value->Shared->Prop}(I:Inv X pins σ H s)(h1:H a=some (XT a C od))(h2:NF H od)(e:wc X.K C) (ht:s.heap.get? tp=some ⟨.type "tuple",dd,.seq au.toArray n,sl⟩) (k:PySem.W.kitAny X.K (.ref C) au=some b) (q:∀tk,Q (.bool b) {s with toks:=tk}):wpAny (model X.prog X.w) A (call (.builtin "isinstance") [.ref a,.ref tp]) Q E s:=
 PySem.W.kia_tup (sY e) I.jq (qa I h1 h2) ht k (λ z=>nomatch z) q
end
end L2
namespace L2
open PySem PySem.Spec PyProof.Rows
def Rr(h:Heap)(a:Addr)(c:Value)(od:Option Addr)(nt:Option (Addr×Value)):Prop:=∃oe vs,h.get? a=some oe/\oe.cls=c/\oe.dict=od/\oe.data=.fields vs/\match nt with
 |none=>vs[1]?=some .none
 |some (T,fl)=>vs[1]?=some (.ref T)/\T≠a/\∃oT ts,h.get? T=some oT/\oT.data=.fields ts/\ts[3]?=some fl
structure WK(B:Heap)(l:List Env)(h h':Heap):Prop where
 eK:B.StaysIn h'
 fr:h'.FunFrames B l
 sl:∀b o,h.get? b=some o->(∀vs,o.data≠.fields vs)->∃z,h'.get? b=some {o with slots:=z}
section
variable {M:Model}{A:Around}{E:Value->Shared->Prop}{s:Shared}{B:Heap}{env:Env}{outer:List Env}{L e:Addr}{oe:Obj}{vs:Array Value}
theorem Cz{hd:Value}{hn:Bool}{Q:Unit->Shared->Prop}(ou:A.frames=some (env::outer))(hl:s.heap.FunFrames B (env::outer))(hf:env.frame=some L) (he:s.heap.get? e=some oe) (kB:B.StaysIn s.heap) (nB:B.get? e=none) (dv:oe.data=.fields vs) (sz:1 < vs.size) (q:∀h',WK B (env::outer) s.heap h'->Rr h' e oe.cls oe.dict (some (s.heap.objs.size,rawInt L))->Q () {s with heap:=h'}):wpAny M A (do let a <- frameOf env;let p <- entryPlaceOf L hn;let b <- EntryCells.newEntry hd a .none (rawInt L) .none p;setField (.ref e) 1 b) Q E s:=by
 have eF:e∉(env::outer).filterMap (·.frame):=λ z=>by obtain⟨_,o,ho,w⟩:=hl.mem z;rw[he]at ho;cases ho;exact w vs dv
 refine G1 (wpAny_frameOf_fun ou hl hf λ g hg=>G1 (wpAny_entryPlaceOf λ pl hpl=>?_));unfold EntryCells.newEntry newFields;refine G1 (x5 ?_ (hpl.sizeOk5 _ _ _ _ _));have e1:g.get? e=some oe:=(hg.2.1 e eF).trans he;have k1:B.StaysIn g:=λ b o z=>(hg.2.1 b λ y=>by rw[(hl.mem y).1]at z;cases z).trans (kB b o z);generalize hT:({cls:=.type "traceback",dict:=none,data:=.fields ([hd,.ref L,.none,rawInt L,.none]++(if pl.isEmpty then List.replicate 6 Value.none else pl)).toArray}:Obj)=nt;have dT:nt.data=.fields ([hd,.ref L,.none,rawInt L,.none]++(if pl.isEmpty then List.replicate 6 Value.none else pl)).toArray:=by rw[<- hT]
 have e2:=j8 (h:=g) nt e1;refine B7 e2 dv sz (q _ ?_ ?_)
 ·have nr:∀b o,s.heap.get? b=some o->(∀vs,o.data≠.fields vs)->b≠e:=λ b o z w y=>by rw[y,he]at z;cases z;exact w vs dv
  have kp:∀b o,b≠e->g.get? b=some o->((g.push nt).update e (Obj.mapFields (·.setIfInBounds 1 (Value.ref g.objs.size)))).get? b=some o:=λ b o y z=>by rw[j9 _ _ y.symm];exact j8 _ z
  refine⟨λ b o z=>kp b o (λ y=>by rw[y,nB]at z;cases z) (k1 b o z),hl.of_keeps λ b o z w=>?_,λ b o z w=>?_⟩
  ·obtain⟨sl,y⟩:=hg.2.2 b o z;exact⟨_,kp b _ (nr b o z w) y,rfl⟩
  ·obtain⟨sl,y⟩:=hg.2.2 b o z;exact⟨sl,kp b _ (nr b o z w) y⟩
 ·have ne:g.objs.size≠e:=D6 (C8 e1);have d3:=u7 dv (·.setIfInBounds 1 (Value.ref g.objs.size));have e3:=k8 (Obj.mapFields (·.setIfInBounds 1 (Value.ref g.objs.size))) e2 (l9 d3);have t3:=(j9 (g.push nt) (Obj.mapFields (·.setIfInBounds 1 (Value.ref g.objs.size))) ne.symm).trans (o8 g (l9 dT));rw[<- hg.1];exact⟨_,_,e3,Obj.cls_mapFields _ _,pM _ _,d3,by simp[sz],ne,nt,_,t3,dT,by simp⟩
end
structure XS(X:Cx)(H':Hp)(h:Heap):Prop where
 un:Un X.fs [] X.H₀ H' X.s₀.heap h
 aK:dX X.prog X.w H' h
 fn:h.FunFrames X.base X.stack
 fr:∀b∈f_ X.stack,H' b=none
 am:X.A.frames=some X.stack
section
variable {X:Cx}{H':Hp}{h h':Heap}{a T L:Addr}{as:List Addr}
theorem XS.kJ {oT:Obj}{ts:Array Value}(x:XS X H' h)(le:X.s₀.heap.objs.size<=T)(hn:H' T=none)(hT:h.get? T=some oT)(dT:oT.data=.fields ts)(k:∀b o,b≠T->h.get? b=some o->h'.get? b=some o):XS X H' h':=
 ⟨x.un.kJ le k,x.aK.kJ hn k,x.fn.of_keeps λ b o z w=>⟨o,k b o (λ y=>by rw[y,hT]at z;cases z;exact w ts dT) z,rfl⟩,x.fr,x.am⟩
theorem XS.note (x:XS X H' h)(hst:X.stack=X.env::X.outer)(ha:∀b∈as,X.s₀.heap.objs.size<=b/\H' b=none)(hL:X.env.frame=some X.env.locals)(ab:X.s₀.heap.objs.size<=X.env.locals) (l:WK (PySem.W.hideAll h (f_ X.stack++as)) X.stack h h'):XS X H' h':=by
 have kp:∀b o,h.get? b=some o->b∉f_ X.stack->b∉as->h'.get? b=some o:=λ b o q n m=>l.eK b o (PySem.W.hideAll_get _ q λ z=>(A9.mp z).elim n m);have sl:∀b o,h.get? b=some o->b∈f_ X.stack->∃z,h'.get? b=some {o with slots:=z}:=λ b o q n=>by obtain⟨_,u,hu,w⟩:=x.fn.mem n;rw[q]at hu;cases hu;exact l.sl b o q w
 have old:∀b o,X.s₀.heap.get? b=some o->b∉as:=λ b o q z=>absurd (C8 q) (Nat.not_lt.mpr (ha b z).1);have Xk:∀b o,X.s₀.heap.get? b=some o->b∉X.fs->b∉f_ X.stack:=λ b o q n z=>by
  rw[hst]at z;unfold f_ at z;rw[q8,hL]at z;rcases C3.mp z with rfl|z
  ·exact absurd (C8 q) (Nat.not_lt.mpr ab)
  ·exact n z
 have sub:∀b,b∈X.fs->b∈f_ X.stack:=λ b z=>by rw[hst];exact mem_filterMap.mpr (by obtain⟨a,h1,h2⟩:=mem_filterMap.mp z;exact⟨a,.tail _ h1,h2⟩)
 have un:=x.un;refine⟨⟨λ b o q n m y=>?_,λ b o q n m y=>?_,un.free,λ b o q y=>?_,un.dZ,un.dD,un.d_⟩,λ b o q=>?_,?_,x.fr,x.am⟩
 ·exact kp b o (un.keep b o q n m y) (Xk b o q m) (old b o q)
 ·obtain⟨z,q'⟩:=un.slot b o q n m y;obtain⟨z2,q2⟩:=sl b _ q' (sub b m);exact⟨z2,q2⟩
 ·obtain⟨o',q'⟩:=un.there b o q y;by_cases m:b∈f_ X.stack
  ·obtain⟨z2,q2⟩:=sl b _ q' m;exact⟨_,q2⟩
  ·exact⟨_,kp b o' q' m (old b o q)⟩
 ·refine(x.aK b o q).eK (λ d u e z=>?_) (λ _ z=>z) λ _ _ z=>z;have hd:H' d≠none:=by
   rcases e with rfl|e
   ·rw[q];intro y;cases y
   ·rw[e];intro y;cases y
  exact kp d u z (λ m=>hd (x.fr d m)) λ m=>hd (ha d m).2
 ·exact x.fn.of_keeps λ b o z w=>by obtain⟨z2,q2⟩:=l.sl b o z w;exact⟨_,q2,rfl⟩
def XF(X:Cx)(E:XK)(e:Value)(s':Shared):Prop:=∃(a:Addr) (c:Value) (od:Option Addr) (H':Hp) (nt:Option (Addr×Value)),e=.ref a/\s'.os=X.s₀.os/\AllBare s'.gens/\XS X H' s'.heap/\X.s₀.heap.objs.size<=a/\H' a=none/\Rr s'.heap a c od nt/\
 (∀T fl,nt=some (T,fl)->X.s₀.heap.objs.size<=T/\H' T=none/\(fl=.none\/fl=rawInt X.env.locals))/\E c od H'
theorem ER{E:XK}{M:Model}{A:Around}{Ex:Value->Shared->Prop}{e:Value}{s:Shared}{Q:Unit->Shared->Prop}(hst:X.stack=X.env::X.outer)(hL:X.env.frame=some X.env.locals)(ab:X.s₀.heap.objs.size<=X.env.locals)(hA:A.frames=some X.stack)(x:XF X E e s) (q:∀(s':Shared) (a:Addr) (c:Value) (od:Option Addr) (H':Hp) (T:Addr),e=.ref a->s'.os=X.s₀.os->AllBare s'.gens->XS X H' s'.heap->X.s₀.heap.objs.size<=a->H' a=none->Rr s'.heap a c od (some (T,rawInt X.env.locals))->X.s₀.heap.objs.size<=T->H' T=none->E c od H'->Q () s'):wpAny M A (noteFrame e X.env) Q Ex s:=by
 obtain⟨a,c,od,H',nt,rfl,lX,bare,xs,le,na,⟨oe,vs,he,hc,hd,dv,tr⟩,Ye,qe⟩:=x;have aF:∀b o ws,s.heap.get? b=some o->o.data=.fields ws->b∉f_ X.stack:=λ b o ws q1 q2 z=>by obtain⟨_,u,hu,w⟩:=xs.fn.mem z;rw[q1]at hu;cases hu;exact w ws q2
 have ss:X.s₀.heap.objs.size<=s.heap.objs.size:=D3 le (D7 (C8 he));cases nt with
 |none=>have tr:vs[1]?=some .none:=tr;have fn:=xs.fn;rw[hst]at fn hA;unfold noteFrame;simp only[hL];refine G1 (G0 he dv tr ?_);rw[J7 (by decide)];refine Cz (B:=PySem.W.hideAll s.heap (f_ (X.env::X.outer)++[a])) hA (PySem.W.funFrames_hide fn λ e he b hb=>A9.mpr (.inl (mem_filterMap.mpr ⟨e,he,hb⟩))) hL he (λ b o z=>w6 _ z) (n9 _ (by simp)) dv (Array.getElem?_eq_some_iff.mp tr).1 λ h' l t'=>?_;rw[<- hst]at l;rw[hc,hd]at t';exact q {s with heap:=h'} a c od H' s.heap.objs.size rfl lX bare (xs.note hst (as:=[a]) (λ b z=>by cases u4.mp z;exact⟨le,na⟩) hL ab l) le na t' ss (xs.aK.fresh (D8 _)) qe
 |some p=>
  obtain⟨T,fl⟩:=p;obtain⟨h1,ne,oT,ts,gT,dT,v3⟩:=tr;obtain⟨PU,nT,NY⟩:=Ye T fl rfl;unfold noteFrame;simp only[hL];refine G1 (G0 he dv h1 ?_);rw[J0 (show(Value.ref T != Value.none)=true from by simp)];refine G1 (G0 gT dT v3 ?_);rcases NY with rfl|rfl
  ·rw[J7 (show ¬((Value.none==rawInt X.env.locals)=true)from by simp[rawInt])];refine G1 (B7 gT dT (Array.getElem?_eq_some_iff.mp v3).1 ?_);generalize hg:s.heap.update T (Obj.mapFields (·.setIfInBounds 3 Value.none))=g;have kp:∀b o,b≠T->s.heap.get? b=some o->g.get? b=some o:=λ b o y z=>by rw[<- hg,j9 _ _ y.symm];exact z
   have SK:=xs.kJ PU nT gT dT kp;have sz:g.objs.size=s.heap.objs.size:=by rw[<- hg];exact Heap.size_update _ _ _
   have fn:=SK.fn;rw[hst]at fn hA;refine Cz (s:={s with heap:=g}) (B:=PySem.W.hideAll g (f_ (X.env::X.outer)++[a])) hA (PySem.W.funFrames_hide fn λ e he b hb=>A9.mpr (.inl (mem_filterMap.mpr ⟨e,he,hb⟩))) hL (kp a oe ne.symm he) (λ b o z=>w6 _ z) (n9 _ (by simp)) dv (Array.getElem?_eq_some_iff.mp h1).1 λ h' l t'=>?_;rw[<- hst]at l;rw[hc,hd]at t';exact q {s with heap:=h'} a c od H' g.objs.size rfl lX bare (SK.note hst (as:=[a]) (λ b z=>by cases u4.mp z;exact⟨le,na⟩) hL ab l) le na t' (by rw[sz];exact ss) (SK.aK.fresh (D8 _)) qe
  ·rw[J0 (by simp)];exact G2 (q s a c od H' T rfl lX bare xs le na ⟨oe,vs,he,hc,hd,dv,h1,ne,oT,ts,gT,dT,v3⟩ PU nT qe)
theorem Km{M:Model}{A:Around}{Ex:Value->Shared->Prop}{s:Shared}{Q:Unit->Shared->Prop}{c fl fl':Value}{od:Option Addr}{fo:Option Addr}(Yy:fl'=fo.elim .none λ f=>rawInt f)(xs:XS X H' s.heap)(le:X.s₀.heap.objs.size<=T)(nT:H' T=none)(t:Rr s.heap a c od (some (T,fl))) (q:∀h',XS X H' h'->Rr h' a c od (some (T,fl'))->Q () {s with heap:=h'}):wpAny M A (setFlight (.ref a) fo) Q Ex s:=by
 obtain⟨oe,vs,he,hc,hd,dv,h1,ne,oT,ts,gT,dT,v3⟩:=t;unfold setFlight;refine G1 (G0 he dv h1 ?_);rw[J0 (show(Value.ref T != Value.none)=true from by simp)];have i3:=(Array.getElem?_eq_some_iff.mp v3).1;refine B7 gT dT i3 (q _ ?_ ?_)
 ·exact xs.kJ le nT gT dT λ b o y z=>by rw[j9 _ _ y.symm];exact z
 ·have d3:=u7 dT (·.setIfInBounds 3 (fo.elim .none λ f=>rawInt f));refine⟨oe,vs,by rw[j9 _ _ ne];exact he,hc,hd,dv,h1,ne,_,_,k8 _ gT (l9 d3),d3,?_⟩;rw[Yy];simp[i3]
theorem JP{E:XK}{e:Value}{s:Shared}{A:Around}{Ex:Value->Shared->Prop}(hst:X.stack=X.env::X.outer)(hL:X.env.frame=some X.env.locals)(ab:X.s₀.heap.objs.size<=X.env.locals)(hA:A.frames=some X.stack)(x:XF X E e s):wpAny (model X.prog X.w) A (leaving X.env e) (λ _ s'=>ow X.prog X.w X.outer X.H₀ X.s₀ E e s') Ex s:=by unfold leaving;refine G1 (ER hst hL ab hA x λ s' a c od H' T ea lX bare xs le na t PU nT q=>?_);subst ea;refine Km (fl':=.none) rfl xs PU nT t λ h' N8 t'=>?_;obtain⟨oe,vs,he,hc,hd,dv,h1,ne,oT,ts,gT,dT,v3⟩:=t';exact⟨a,c,od,T,H',rfl,lX,bare,N8.un,N8.aK,le,PU,na,nT,⟨oe,vs,oT,ts,he,hc,hd,dv,h1,ne,gT,dT,v3⟩,q⟩
theorem Ao{E:XK}(hex:X.ex=[]):eR (X.fX (XF X E)) E:=by
 intro pins σ H s e C t od J le hx q;obtain⟨ho,_,_⟩:=J.aK e _ hx;have un:=J.base;have ML:(X.fX (XF X E)).ex=[]:=hex;rw[ML]at un;have old:∀b o,X.s₀.heap.get? b=some o->b≠e:=λ b o q z=>absurd (C8 q) (by rw[z];exact Nat.not_lt.mpr le);refine⟨e,.ref C,od,JD H e,none,rfl,J.os,J.bare,⟨⟨un.keep,un.slot,λ b o q n x=>by rw[dh (old b o q)];exact un.free b o q n x,un.there,λ b xs q=>?_,λ b o u q=>?_,λ b p q=>?_⟩,λ b o q=>?_,J.stack,λ b z=>?_,J.ok.frames⟩,le,gM,⟨_,_,ho,rfl,rfl,rfl,rfl⟩,(λ T fl e=>by cases e),q⟩
 ·have y:=un.dZ b xs q;rw[dh (λ z=>by rw[z,hx]at y;cases y)];exact y
 ·have y:=un.dD b o u q;rw[dh (λ z=>by rw[z,hx]at y;cases y)];exact y
 ·obtain⟨mo,y⟩:=un.d_ b p q;exact⟨mo,by rw[dh (λ z=>by rw[z,hx]at y;cases y)];exact y⟩
 ·have ne:b≠e:=λ z=>by rw[z,gM]at q;cases q
  rw[dh ne]at q;refine(J.aK b o q).eK (λ d u y z=>z) (λ c z=>?_) λ c xs z=>?_
  ·rw[dh (λ w=>by rw[w,hx]at z;cases z)];exact z
  ·rw[dh (λ w=>by rw[w,hx]at z;cases z)];exact z
 ·by_cases y:b=e
  ·rw[y];exact gM
  ·rw[dh y];exact J.gZ b z
theorem ES{E:XK}(hex:X.ex=[]):Passes (ow X.prog X.w) (X.fX (XF X E)) E:=by rintro pins σ H s e s' I ⟨a,c,dx,T,H',rfl,lX,bare,un,aK,h1,h2,n1,n2,t,q⟩;have J:=I.qf lX un aK bare λ b z=>absurd z (by simp);have Vk:=J.base;have ML:(X.fX (XF X E)).ex=[]:=hex;rw[ML]at Vk;obtain⟨oe,vs,oT,ts,he,hc,hd,dv,v1,ne,hT,dT,v3⟩:=t;refine⟨a,c,dx,H',some (T,.none),rfl,J.os,J.bare,⟨Vk,J.aK,J.stack,J.gZ,J.ok.frames⟩,D3 I.sz h1,n1,⟨oe,vs,he,hc,hd,dv,v1,ne,oT,ts,hT,dT,v3⟩,λ T' fl e=>?_,q⟩;cases e;exact⟨D3 I.sz h2,n2,.inl rfl⟩
end
end L2
namespace L2
open PySem PySem.Spec PyProof.Rows
section
variable {P:Program}{w:World}{K:J8}{mg:Str->Option Value}{base:Heap}
abbrev Rg(P:Program)(w:World)(K:J8)(mg:Str->Option Value)(base:Heap)(N:List Str)(qual:Str)(scope:Scope)(f:Addr)(cd:Value)(A:Around)(outer:List Env)(s:Shared)(H:Hp)(E:XK):Cx:=
 (lB (ow P w) P w K mg base N qual scope f cd A outer s H E).fX (XF (lB (ow P w) P w K mg base N qual scope f cd A outer s H E) E)
theorem fg.Xh {x qual:Str}{st:Stmt}{f:Addr}{fd:FuncData}{N ps:List Str}{k:Nat}{sp:Sp}(F:fg K x qual st f fd)(S:cu N ps (aq st))(len:∀vs H Q E,sp vs H Q E->vs.length=ps.length) (bW:∀(bQ:Value) (A:Around) (outer:List Env) (s:Shared) (H:Hp) (vs:List V) (Q:VK) (E:XK),bf k (A.deeper (envOfC qual (aq st) s.heap.objs.size f bQ))->sp vs H Q E->
   ∃t,nZ (Rg P w K mg base N qual (aq st) f bQ A outer s H E) (aP st) t/\t {nx:=λ _ H'=>Q .aY H',rt:=Q} (start N vs) H):aX P w K mg base (ow P w) (k+1) f fd ps sp:=by
 obtain⟨oc,od,kV,doc,pm,an,bQ,ct,pK,rfl,lk,hcd⟩:=F.ex;refine DG lk hcd S len λ A outer s H vs Q E hr vp=>?_;obtain⟨t,h,q⟩:=bW bQ A outer s H vs Q E hr vp;refine⟨t,λ pins s' σ H' D I ht=>?_,q⟩;exact G4 (h pins s' σ H' D (I.fX _) ht) (λ _ _ z=>z.dP) λ e s2 z=>JP rfl rfl (D8 _) I.ok.frames z
theorem kq{N:List Str}{qual:Str}{scope:Scope}{f:Addr}{cd:Value}{A:Around}{outer:List Env}{s:Shared}{H:Hp}{E:XK}:eR (Rg P w K mg base N qual scope f cd A outer s H E) E:=Ao rfl
theorem D_{N:List Str}{qual:Str}{scope:Scope}{f:Addr}{cd:Value}{A:Around}{outer:List Env}{s:Shared}{H:Hp}{E:XK}:Passes (ow P w) (Rg P w K mg base N qual scope f cd A outer s H E) E:=ES rfl
end
end L2
namespace L3
open PySem PySem.Spec PyProof.Rows L2
abbrev rE:=Addr->List (Str×D)->Mem->Prop
def rJ(K:J8)(H:Hp)(ds:List (Str×D))(fs:List (Str×V)):Prop:=Paired (λ(p:Str×D) (q:Str×V)=>p.1=q.1/\Dat K H p.2 q.2) ds fs
def EK(K:J8)(H:Hp):Option Addr->List (Str×D)->Prop
 |none,ds=>ds=[]
 |some dx,ds=>∃fs,H dx=some (XD dx fs)/\rJ K H ds fs
theorem EK.v {K:J8}{H:Hp}{od:Option Addr}{ds:List (Str×D)}(h:EK K H od ds):NF H od:=by
 cases od with
 |none=>trivial
 |some dx=>obtain⟨fs,a,_⟩:=h;exact⟨fs,a⟩
theorem EK.sm {K:J8}{H:Hp}{od:Option Addr}{d:Str×D}{ds:List (Str×D)}(h:EK K H od (d::ds)):∃dx fs,od=some dx/\H dx=some (XD dx fs)/\rJ K H (d::ds) fs:=by
 cases od with
 |none=>cases h
 |some dx=>obtain⟨fs,a,b⟩:=h;exact⟨dx,fs,rfl,a,b⟩
def SO(K:J8)(E2:rE):XK:=λ c od H=>∃C ds M,c=.ref C/\EK K H od ds/\RelM K H M/\E2 C ds M
def dw(K:J8)(H:Hp)(E2:rE)(E:XK):Prop:=∀C od ds H' M',EK K H' od ds->RelM K H' M'->ah H H'->E2 C ds M'->E (.ref C) od H'
theorem Un.text {fs ex:List Addr}{H H':Hp}{h h':Heap}(u:Un fs ex H H' h h'):ah H H':=⟨u.dZ,u.dD⟩
section
variable {X:Cx}{E:XK}{E2:rE}
theorem pB(hs:eR X E)(k:dw X.K X.H₀ E2 E):eR X (SO X.K E2):=by intro pins σ H s e C t od J le hx ⟨C',ds,M,e1,hd,rm,q⟩;cases e1;refine hs pins σ H s e C t od J le hx (k C od ds _ M hd rm ?_ q);have u:=Un.text J.base;exact⟨λ b xs z=>by have y:=u.tup b xs z;rw[dh (λ w=>by rw[w,hx]at y;cases y)];exact y,λ b o v z=>by have y:=u.ck b o v z;rw[dh (λ w=>by rw[w,hx]at y;cases y)];exact y⟩
theorem yT(hp:Passes (ow X.prog X.w) X E)(k:dw X.K X.H₀ E2 E):Passes (ow X.prog X.w) X (SO X.K E2):=by rintro pins σ H s e s' I ⟨a,c,od,T,H',rfl,lX,bare,un,aK,h1,h2,n1,n2,t,C',ds,M,rfl,hd,rm,q⟩;exact hp pins σ H s _ s' I ⟨a,_,_,T,H',rfl,lX,bare,un,aK,h1,h2,n1,n2,t,k C' _ ds H' M hd rm ((Un.text I.base).trans (Un.text un)) q⟩
end
def DK{α:Type}(ns:List Str)(us:List α):List (Str×α):=(ns.zip us).reverse
theorem DJ{K:J8}{H:Hp}:∀(ns:List Str) {ds:List D} {us:List V},ay K H ds us->rJ K H (DK ns ds) (DK ns us):=by
 have app:∀{a b:List (Str×D)} {c d:List (Str×V)},rJ K H a c->rJ K H b d->rJ K H (a++b) (c++d):=by
  intro a b c d h1 h2
  induction h1 with
  |nil=>exact h2
  |cons p _ ih=>exact .cons p ih
 intro ns
 induction ns with
 |nil=>intro ds us _;exact .nil
 |cons n ns ih=>
  intro ds us h;cases ds with
  |nil=>cases(av.mp h);exact .nil
  |cons d ds=>obtain⟨u,r,rfl,hu,hr⟩:=aj.mp h;unfold DK;rw[zip_cons_cons,zip_cons_cons,reverse_cons,reverse_cons];exact app (ih hr) (.cons ⟨rfl,hu⟩ .nil)
def S9(C:Addr)(ns:List Str):Sp:=λ vs H Q _=>∃e t us,vs=.ref e::us/\us.length=ns.length/\H e=some (XO e C none t)/\∀t' dx,H dx=none->dx≠e->Q .aY (upd (upd H e (XO e C (some dx) t')) dx (XD dx (DK ns us)))
theorem Ip{H:Hp}{e dx:Addr}{a b:HO}(h:H e=none)(ne:dx≠e):JD (upd (upd H e a) dx b) e=upd H dx b:=by
 funext c;by_cases z:c=e
 ·rw[z,gM,ar ne.symm,h]
 ·rw[dh z];by_cases y:c=dx
  ·rw[y,aD,aD]
  ·rw[ar y,ar y,ar z]
section
variable {X:Cx}{E:XK}{E2:rE}{C fI:Addr}{k:Nat}{fd:FuncData}{ps ns:List Str}{x:Str}{np bx pos:Pos}{a:Expr}{as:List Expr}{t:dE}
def Bk(C:Addr)(ns:List Str)(E2:rE)(t:dE):fQ:=λ _ δ M=>t δ M λ ds M1=>ds.length=ns.length/\ns.length<=900/\E2 C (DK ns ds) M1
theorem BN(hs:eR X E)(kx:dw X.K X.H₀ E2 E)(hc:X.calm=true)(hg:Gl X x)(hm:X.mg x=some (.ref C))(ec:oU X.K C fI)(F:aX X.prog X.w X.K X.mg X.base di k fI fd ps (S9 C ns))(hr:bf (k+1) X.A)(hb:Binds X.K fd ps []) (ha:QA X (a::as) t) (hdb:(x==("__debug__":Str))=false:=by decide) (he:starEach (a::as) X.env=(false,eval a X.env)::starEach as X.env:=by rfl) (hpl:(backTo bx (starEach as X.env)).any (·.1)=false:=by rfl):QS X (.Raise (some (.Call (.Name x np) (a::as) [] bx)) none pos) (Bk C ns E2 t):=
 eZ (BV (pB hs kx) hc hg hm ec F hr hb ha hdb he hpl) λ D σ H ⟨δ,M,D2,hs,hm,q,kk⟩=>by
  refine⟨δ,M,_,hs,hm,q,λ vs H1 ds M1 hd bG t1 ⟨hl,dY,q1⟩=>⟨by rw[hd.length,hl];omega,λ e t0 fe=>?_⟩⟩;refine⟨e,t0,vs,rfl,by rw[hd.length,hl],aD,λ t' dx Wl ne=>⟨rfl,some dx,t',?_,?_⟩⟩
  ·rw[ar ne.symm,lK,aD]
  ·have Wk:H1 dx=none:=by rw[ar ne]at Wl;exact Wl
   rw[lK,Ip fe ne];exact⟨C,_,M1,rfl,⟨_,aD,DJ ns (ay.mono (ah.laid Wk) _ hd)⟩,bG.laid Wk,q1⟩
end
end L3
namespace L2
open PySem PySem.Spec PyProof.Rows
theorem pF:∀(cs:List Addr) {au:List Value},Vals (cs.map V.ref) au->au=cs.map Value.ref
 |[],_,rv=>by cases rv;rfl
 |c::cs,_,rv=>by obtain⟨w,ws,rfl,kZ,r4⟩:=eU rv;obtain rfl:w=Value.ref c:=kZ;rw[pF cs r4];rfl
section
variable {X:Cx}{x:Str}{pos:Pos}{C:Addr}
def SY(C:Addr):TE:=λ _ H Q=>Q (.ref C) H
theorem mZ(hg:Gl X x)(hm:X.mg x=some (.ref C))(hdb:(x==("__debug__":Str))=false:=by decide):PE X (.Name x pos) (SY C):=λ pins s σ H Q I h=>dC I hg hm ⟨.ref C,H,I,rfl,h⟩ hdb
theorem zI:de X (.builtin "isinstance") (λ xs H Q=>∃(a C:Addr) (od:Option Addr) (c:Addr) (b:Bool),xs=[.ref a,.ref c]/\H a=some (XT a C od)/\NF H od/\wc X.K C/\PySem.W.kitOne X.K (.ref C) (.ref c)=some b/\Q (.bl b) H):=by intro pins s σ H xs us Q I r ⟨a,C,xd,c,b,e,h1,h2,ei,k,q⟩;subst e;obtain⟨u,SN,rfl,ru,r2⟩:=eU r;obtain⟨u2,rfl,r3⟩:=vals1 r2;obtain rfl:u=Value.ref a:=ru;obtain rfl:u2=Value.ref c:=r3;exact CZ I h1 h2 ei k λ tk=>⟨.bl b,H,I.tok tk,rfl,q⟩
theorem vV:de X (.builtin "isinstance") (λ xs H Q=>∃(a C:Addr) (od:Option Addr) (tp:Addr) (cs:List Addr) (b:Bool),xs=[.ref a,.ref tp]/\H a=some (XT a C od)/\NF H od/\wc X.K C/\H tp=some (.tup (cs.map V.ref))/\PySem.W.kitAny X.K (.ref C) (cs.map Value.ref)=some b/\Q (.bl b) H):=by intro pins s σ H xs us Q I r ⟨a,C,xd,tp,cs,b,e,h1,h2,ei,ht,k,q⟩;subst e;obtain⟨u,SN,rfl,ru,r2⟩:=eU r;obtain⟨u2,rfl,r3⟩:=vals1 r2;obtain rfl:u=Value.ref a:=ru;obtain rfl:u2=Value.ref tp:=r3;obtain⟨_,au,rv,o,ho,hc,hd⟩:=I.aK tp _ ht;have Zh:au=cs.map Value.ref:=pF cs rv;subst Zh;obtain⟨n,hd⟩:=hd;obtain⟨oc,od,da,sl⟩:=o;dsimp only at hc hd;subst hc hd;exact zp I h1 h2 ei ho k λ tk=>⟨.bl b,H,I.tok tk,rfl,q⟩
end
end L2
namespace L3
open PySem PySem.Spec PyProof.Rows L2
abbrev tX:=List D->Mem->bu->rE->Prop
def kI(K:J8)(sp:tX):Sp:=λ vs H Q E=>∃ds M Q2 E2,ay K H ds vs/\RelM K H M/\sp ds M Q2 E2/\iB K H Q2 Q/\dw K H E2 E
structure gU(P:Program)(w:World)(K:J8)(mg:Str->Option Value)(base:Heap)(k:Nat)(x:Str)(ps:List Str)(sp:tX):Prop where
 ex:∃(f:Addr) (fd:FuncData),aX P w K mg base (ow P w) k f fd ps (kI K sp)/\mg x=some (.ref f)/\PySem.W.keepIn K (.ref f)=true/\Binds K fd ps []
section
variable {P:Program}{w:World}{K:J8}{mg:Str->Option Value}{base:Heap}
theorem Tx{x qual:Str}{st:Stmt}{f:Addr}{fd:FuncData}{N ps:List Str}{k:Nat}{sp:tX}(F:fg K x qual st f fd)(S:cu N ps (aq st))(len:∀ds M Q E,sp ds M Q E->ds.length=ps.length) (bW:∀(bQ:Value) (A:Around) (outer:List Env) (s:Shared) (H:Hp) (E:XK) (ds:List D) (M:Mem) (Q:bu) (E2:rE),bf k (A.deeper (PyProof.Rows.envOfC qual (aq st) s.heap.objs.size f bQ))->sp ds M Q E2->dw K H E2 E->
   ∃t,zU (Rg P w K mg base N qual (aq st) f bQ A outer s H E) (aP st) t/\t {nx:=λ _ M'=>fin2 Q .aY M',rt:=fin2 Q} (dQ N ds) M):aX P w K mg base (ow P w) (k+1) f fd ps (kI K sp):=by
 refine F.Xh S (λ vs H Q E h=>?_) (λ bQ A outer s H vs Q E hr h=>?_)
 ·obtain⟨ds,M,Q2,E2,hd,_,hs,_⟩:=h;rw[hd.length];exact len ds M Q2 E2 hs
 ·obtain⟨ds,M,Q2,E2,hd,hm,hs,kk,kx⟩:=h;obtain⟨t,ht,q⟩:=bW bQ A outer s H E ds M Q2 E2 hr hs kx;refine⟨_,ht,dQ N ds,M,_,jR hd,hm,q,⟨?_,?_,?_,?_⟩⟩
  ·exact λ σ' H' δ' M' _ cE t' ⟨og,s,q⟩=>kk _ H' .aY og (cq.mpr rfl) (cE.sub s) t' q
  ·exact λ v H' d M' jz cE t' ⟨og,s,q⟩=>kk v H' d og jz (cE.sub s) t' q
  ·exact λ σ' H' δ' M' _ cE t' q=>q
  ·exact λ σ' H' δ' M' _ cE t' q=>q
end
section
variable {X:Cx}{E:XK}{E2:rE}{k:Nat}{ps:List Str}{sp:tX}{x:Str}{p pos:Pos}{e:Expr}{es:List Expr}{t:dE}
theorem dw.mono {K:J8}{H H':Hp}(h:dw K H E2 E)(t:ah H H'):dw K H' E2 E:=λ C od ds H2 M2 a c d q=>h C od ds H2 M2 a c (t.trans d) q
theorem AG{K:J8}{H:Hp}:dw K H E2 (SO K E2):=λ C od ds H' M' a c _ q=>⟨C,ds,M',rfl,a,c,q⟩
def RU(sp:tX)(E2:rE)(t:dE):bJ:=λ δ M Q=>t δ M λ ds M1=>sp ds M1 Q E2
theorem Ll(hp:Passes (ow X.prog X.w) X E)(kx:dw X.K X.H₀ E2 E)(d:gU X.prog X.w X.K X.mg X.base k x ps sp)(hr:bf k X.A)(hg:Gl X x)(ha:QA X (e::es) t)(hdb:(x==("__debug__":Str))=false:=by decide) (he:starEach (e::es) X.env=(false,eval e X.env)::starEach es X.env:=by rfl) (hpl:(backTo pos (starEach es X.env)).any (·.1)=false:=by rfl):QE X (.Call (.Name x p) (e::es) [] pos) (RU sp E2 t):=by obtain⟨f,fd,F,hm,kp,b⟩:=d.ex;refine bK (w_ F hr hg hm kp b (dvs:=[]) .nil (yT hp kx) ha hdb he hpl) λ σ H Q ⟨δ,M,Q2,hs,hm,q,kk⟩=>?_;refine⟨δ,M,_,hs,hm,q,λ vs H1 ds M1 hd bG t1 q1=>?_⟩;show kI X.K sp (vs++[]) H1 Q _;rw[A1];exact⟨ds,M1,Q2,E2,hd,bG,q1,kk.mono t1,AG⟩
end
end L3
namespace L3
open PySem PySem.Spec PyProof.Rows L2
theorem bF.unset {K:J8}{H:Hp}{δ:bY}{σ:L2.St}(h:bF K H δ σ){i:Nat}{o:Option V}:bF K H (δ.set i none) (σ.set i o):=by
 refine⟨by rw[length_set,length_set];exact h.len,λ j e hj=>?_⟩;by_cases MK:i=j
 ·subst MK;have hi:i < δ.length:=by have:=(i4.mp hj).1;simpa using this
  rw[k7 hi]at hj;cases hj
 ·rw[n6 MK]at hj;obtain⟨u,q,w⟩:=h.get j e hj;exact⟨u,by rw[n6 MK];exact q,w⟩
def cQ.but (D:cQ)(i:Nat):cQ:={nx:=λ δ M=>D.nx (δ.set i none) M,rt:=D.rt,bk:=λ δ M=>D.bk (δ.set i none) M,ct:=λ δ M=>D.ct (δ.set i none) M}
theorem rJ.mono {K:J8}{H H':Hp}(t:ah H H'){ds:List (Str×D)}{fs:List (Str×V)}(h:rJ K H ds fs):rJ K H' ds fs:=by
 induction h with
 |nil=>exact .nil
 |cons p _ ih=>exact .cons ⟨p.1,Dat.mono t _ p.2⟩ ih
theorem EK.laid {K:J8}{H:Hp}{od:Option Addr}{ds:List (Str×D)}{a:Addr}{o:HO}(h:EK K H od ds)(na:H a=none):EK K (upd H a o) od ds:=by
 cases od with
 |none=>exact h
 |some dx=>obtain⟨fs,hx,fr⟩:=h;exact⟨fs,by rw[ar (λ z=>by rw[z,na]at hx;cases hx)];exact hx,fr.mono (ah.laid na)⟩
def yb(X:Cx)(i:Nat)(aL:List Stmt)(h2:Addr->List (Str×D)->fQ):Prop:=∃th:Addr->TS,(∀a,nZ (X.HW a) aL (th a))/\
 ∀(a C:Addr) (od:Option Addr) (ds:List (Str×D)) (D:Ends) (D2:cQ) (σ:L2.St) (H:Hp) (δ:bY) (M:Mem),σ[i]?=some (some (.ref a))->H a=some (XT a C od)->EK X.K H od ds->bF X.K H δ σ->RelM X.K H M->h2 C ds D2 δ M->ql X.K H D2 D->th a D σ H
end L3
namespace L4
open PySem PySem.Spec L2 L3
section
variable {X:Cx}{e:Expr}{te:bJ}{tt:dN}
theorem iW(h:WE X.sQ e te):WE X e te:=⟨PE.sQ h.h⟩
theorem um(h:WT X.sQ e tt):WT X e tt:=⟨PT.sQ h.h⟩
end
structure JN(P:Program)(w:World)(K:J8)(mg:Str->Option Value)(base:Heap)(k:Nat)(x:Str)(C:Addr)(ns:List Str):Prop where
 nm:mg x=some (.ref C)
 ex:∃(fI:Addr) (fd:FuncData) (ps:List Str),oU K C fI/\aX P w K mg base di k fI fd ps (S9 C ns)/\Binds K fd ps []
section
variable {X:Cx}{E:XK}{E2:rE}{C:Addr}{k:Nat}{ps ns:List Str}{x:Str}{p np bx pos:Pos}{a e:Expr}{as es:List Expr}{t:dE}{sp:tX}
theorem Ay(hs:eR X E)(kx:dw X.K X.H₀ E2 E)(hc:X.calm=true)(hg:Gl X x)(er:JN X.prog X.w X.K X.mg X.base k x C ns)(hr:bf (k+1) X.A)(ha:WA X (a::as) t)(hdb:(x==("__debug__":Str))=false:=by decide) (he:starEach (a::as) X.env=(false,eval a X.env)::starEach as X.env:=by rfl) (hpl:(backTo bx (starEach as X.env)).any (·.1)=false:=by rfl):WS X (.Raise (some (.Call (.Name x np) (a::as) [] bx)) none pos) (Bk C ns E2 t):=by obtain⟨fI,fd,ps,ec,F,b⟩:=er.ex;exact⟨BN hs kx hc hg er.nm ec F hr b ha.h hdb he hpl⟩
theorem AF(hp:Passes (ow X.prog X.w) X E)(kx:dw X.K X.H₀ E2 E)(d:gU X.prog X.w X.K X.mg X.base k x ps sp)(ha:WA X (e::es) t)(hr:bf k X.A:=by exact hr.mono (by first|decide|omega))(hg:Gl X x:=by rfl)(hdb:(x==("__debug__":Str))=false:=by decide)(he:starEach (e::es) X.env=(false,eval e X.env)::starEach es X.env:=by rfl)(hpl:(backTo pos (starEach es X.env)).any (·.1)=false:=by rfl):WE X (.Call (.Name x p) (e::es) [] pos) (RU sp E2 t):=⟨Ll hp kx d hr hg ha.h hdb he hpl⟩
end
theorem Tw{P:Program}{w:World}{K:J8}{mg:Str->Option Value}{base:Heap}{x qual:Str}{st:Stmt}{f:Addr}{fd:FuncData}{ps:List Str}{k:Nat}{sp:tX}(F:fg K x qual st f fd)(N:List Str) (bW:∀(bQ:Value) (A:Around) (outer:List Env) (s:Shared) (H:Hp) (E:XK) (ds:List D) (M:Mem) (Q:bu) (E2:rE),N.Nodup->bf k (A.deeper (PyProof.Rows.envOfC qual (aq st) s.heap.objs.size f bQ))->sp ds M Q E2->dw K H E2 E->
   ∃t,zP (Rg P w K mg base N qual (aq st) f bQ A outer s H E) (aP st) t/\t {nx:=λ _ M'=>fin2 Q .aY M',rt:=fin2 Q} (dQ N ds) M) (len:∀ds M Q E,sp ds M Q E->ds.length=ps.length:=by intro ds M Q E;walk_at "len") (S:cu N ps (aq st):=by exact⟨rfl,rfl,rfl,by decide+kernel,rfl,by decide+kernel,by decide+kernel⟩):aX P w K mg base (ow P w) (k+1) f fd ps (kI K sp):=
 L3.Tx F S len λ bQ A outer s H E ds M Q E2 hr h kx=>by obtain⟨t,ht,q⟩:=bW bQ A outer s H E ds M Q E2 S.nd hr h kx;exact⟨t,ht.h,q⟩
theorem OE{sp:tX}{E2:rE}{t:dE}{δ:bY}{M:Mem}{Q:bu}(h:t δ M λ ds M1=>sp ds M1 Q E2):RU sp E2 t δ M Q:=h
end L4
namespace L2
open PySem PySem.Spec PySem.W PySem.Calls PyProof.Rows L5
theorem Dn:∀(vs:List Value) (ns:List Int),vs.length=ns.length->(∀(j:Nat) (v:Value) (n:Int),vs[j]?=some v->ns[j]?=some n->∃t:Tok,v=Value.int n t)->IntsAre vs ns
 |[],[],_,_=>.nil
 |[],_::_,h,_=>by cases h
 |_::_,[],h,_=>by cases h
 |v::vs,n::ns,h,k=>by obtain⟨t,rfl⟩:=k 0 v n rfl rfl;exact .cons n t (Dn vs ns (by simpa using h) λ j v n a b=>k (j+1) v n (by simpa using a) (by simpa using b))
theorem Dm{vs:List Value}{ns:List Int}(h:IntsAre vs ns):Vals (ns.map V.int) vs:=by
 induction h with
 |nil=>exact .nil
 |cons n t _ ih=>exact .cons ⟨t,rfl⟩ ih
theorem nI:∀{ns:List Int} {vs:List Value},Vals (ns.map V.int) vs->IntsAre vs ns
 |[],_,h=>by cases h;exact .nil
 |n::ns,_,h=>by obtain⟨u,us,rfl,ru,r⟩:=eU h;obtain⟨t,rfl⟩:=ru;exact .cons n t (nI r)
end L2
namespace L4
open PySem L2 L3
def Mz:Option (Option Value)->Bool
 |some none=>true|_=>false
theorem HV:∀{o:Option (Option Value)},Mz o=true->o=some none
 |some none,_=>rfl
 |some (some _),h=>by cases h
 |none,h=>by cases h
structure oY(K:J8)(mg:Str->Option Value)(x q:Str)(st:Stmt)(C fI:Addr)(ps ns:List Str):Prop where
 m:mg x=some (.ref C)
 F:∃fd,fg K "__init__" q st fI fd
 ec:oU K C fI
 ei:wc K C
 cat:lF K C
 no:(ns.all λ f=>Mz (PySem.W.findIn K (.ref C) f))=true
section
variable {K:J8}{mg:Str->Option Value}{x q:Str}{st:Stmt}{C fI:Addr}{ps ns:List Str}
theorem oY.VG (c:oY K mg x q st C fI ps ns){f:Str}(h:f∈ns):PySem.W.findIn K (.ref C) f=some none:=HV (z9.mp c.no f h)
theorem oY.eg (c:oY K mg x q st C fI ps ns){f:Str}(h:f∈ns):RD K C f:=⟨c.ei.ga,c.ei.gt,c.VG h,c.ei.ba,c.ei.hd⟩
end
theorem gU.of {P:Program}{w:World}{K:J8}{mg:Str->Option Value}{base:Heap}{k:Nat}{x qual:Str}{ps:List Str}{sp:tX}{st:Stmt}{f:Addr}{fd:FuncData}(F:fg K x qual st f fd)(G:aX P w K mg base (ow P w) k f fd ps (kI K sp))(hm:mg x=some (.ref f))(b:Binds K fd ps []):gU P w K mg base k x ps sp:=⟨f,fd,G,hm,F.kp,b⟩
theorem VM{A:Type}{P:List A->Prop}{n:Nat}(h:∀a t,t.length=n->P (a::t)):∀us:List A,us.length=n+1->P us
 |[],e=>nomatch e
 |a::t,e=>h a t (Nat.succ.inj e)
theorem TY{A:Type}{P:List A->Prop}(h:∀a,P [a]):∀us:List A,us.length=1->P us:=VM λ a t e=>by rw[eq_nil_of_length_eq_zero e];exact h a
theorem ln2{A:Type}{P:List A->Prop}(h:∀a b,P [a,b]):∀us:List A,us.length=2->P us:=VM λ a=>TY (P:=λ t=>P (a::t)) (h a)
theorem WR{us:List V}{n:Str}(h:us.length=[n].length):∃u,us=[u]:=TY (P:=λ us=>∃u,us=[u]) (λ a=>⟨a,rfl⟩) us h
end L4
namespace L2
open PySem PySem.Spec PyProof.Rows
end L2
namespace L3
open PySem PySem.Spec PyProof.Rows L2
section
variable {X:Cx}
theorem Hg:eJ X (compareOp .IsNot) (λ x y H Q=>∃a b,x=.bl a/\y=.bl b/\Q (.bl (!decide (a=b))) H):=by intro pins s σ H x y v u Q I rx ry ⟨a,b,e1,e2,q⟩;subst e1 e2;cases rx;cases ry;exact G2 (aN I q (by cases a <;> cases b <;> rfl))
def Q9(neg:Bool):fh:=λ x y M Q=>∃a b,x=.bl a/\y=.bl b/\Q (.bl (xor neg (decide (a=b)))) M
theorem Cw:ff X (compareOp .IsNot) (Q9 true):=⟨_,Hg,λ x y d e H M Q2 Q hd he hm q k=>by
 obtain⟨a,b,rfl,rfl,q⟩:=q;exact⟨a,b,aH.mp hd,aH.mp he,k _ H _ M (aH.mpr rfl) hm (ah.refl H) (by simpa using q)⟩⟩
end
theorem FY{a b:Bool}{M:Mem}{Q:bu}(q:Q (.bl (!decide (a=b))) M):Q9 true (.bl a) (.bl b) M Q:=⟨a,b,rfl,rfl,by simpa using q⟩
end L3
namespace L4
open PySem L2 L3
section
variable {X:Cx}{k:Nat}{ps:List Str}{sp:tX}{x:Str}{p pos:Pos}{e:Expr}{es:List Expr}{t:dE}
def X0:rE:=λ _ _ _=>False
theorem lJ(d:gU X.prog X.w X.K X.mg X.base k x ps sp)(ha:WA X (e::es) t)(hr:bf k X.A:=by exact hr.mono (by first|decide|omega))(hg:Gl X x:=by rfl)(hdb:(x==("__debug__":Str))=false:=by decide)(he:starEach (e::es) X.env=(false,eval e X.env)::starEach es X.env:=by rfl)(hpl:(backTo pos (starEach es X.env)).any (·.1)=false:=by rfl):WE X (.Call (.Name x p) (e::es) [] pos) (RU sp X0 t):=
 AF (E:=λ _ _ _=>False) (λ pins σ H s e s2 I ⟨_,_,_,_,_,_,_,_,_,_,_,_,_,_,_,z⟩=>z.elim) (λ _ _ _ _ _ _ _ _ z=>z) d ha hr hg hdb he hpl
end
end L4
namespace L2
open PySem PySem.Spec PyProof.Rows
end L2
namespace L3
open PySem PySem.Spec PyProof.Rows L2 L5
theorem Kn{K:J8}{H:Hp}{M:Mem}{d:D}{xs:List D}{v:V}(hm:RelM K H M)(e:cz M d=some xs)(hd:Dat K H d v):∃(b:Bool) (l:Addr) (xv:List V),v=.ref l/\Sq b K H l xv/\ay K H xs xv:=by
 obtain⟨p,xv,rfl,h1,h2⟩:=gr e hd hm;cases h1 with
 |inl h1=>exact⟨false,p,xv,rfl,h1,h2⟩
 |inr h1=>exact⟨true,p,xv,rfl,h1,h2⟩
end L3
namespace L2
open PySem PySem.Spec PyProof.Rows
abbrev gV:=Addr->Option (Obj×V)
def iK(H:Hp)(C:gV):Hp:=λ b=>match C b with
 |some p=>some (fO p.1 b p.2)
 |none=>H b
def fZ(H:Hp)(C:gV):Hp:=λ b=>match C b with
 |some _=>none
 |none=>H b
theorem ij{H:Hp}{C:gV}{b:Addr}{p:Obj×V}(e:C b=some p):iK H C b=some (fO p.1 b p.2):=by unfold iK;rw[e]
theorem bp{H:Hp}{C:gV}{b:Addr}(e:C b=none):iK H C b=H b:=by unfold iK;rw[e]
theorem fm{H:Hp}{C:gV}{b:Addr}{p:Obj×V}(e:C b=some p):fZ H C b=none:=by unfold fZ;rw[e]
theorem aR{H:Hp}{C:gV}{b:Addr}(e:C b=none):fZ H C b=H b:=by unfold fZ;rw[e]
theorem aB(C:gV)(b:Addr):C b=none\/∃p,C b=some p:=by
 cases e:C b with
 |none=>exact .inl rfl
 |some p=>exact .inr ⟨p,rfl⟩
def oo(C:gV)(h:Heap):Prop:=∀b p,C b=some p->h.get? b=some p.1/\Ed b p.2 h
theorem xW{h h':Heap}{b:Addr}{v:V}(x:Ed b v h)(k:∀o,h.get? b=some o->h'.get? b=some o):Ed b v h':=by obtain⟨u,r,o,h1,h2⟩:=x;exact⟨u,r,o,k _ h1,h2⟩
theorem oo.obj {C:gV}{h:Heap}(c:oo C h){b:Addr}{p:Obj×V}(e:C b=some p){P:Program}{w:World}{H:Hp}:br P w H h b (fO p.1 b p.2):=
 ⟨(c b p e).1,(c b p e).1,(c b p e).2,⟨_,(c b p e).1⟩,λ h1 h2 x k=>xW x k⟩
section
variable {P:Program}{w:World}{K:J8}{mg:Str->Option Value}{base:Heap}{A:Around}{outer:List Env}{s s':Shared}{H:Hp}{C:gV}
theorem dX.AH {H:Hp}{h:Heap}(x:dX P w H h)(hC:∀b p,C b=some p->∃o u,H b=some (.ck o u)):dX P w (fZ H C) h:=λ b u e=>by
 rcases aB C b with z|⟨p,z⟩
 ·rw[aR z]at e;refine(x b u e).eK (λ c v _ q=>q) (λ c q=>?_) λ c xs q=>?_
  ·rcases aB C c with y|⟨p,y⟩
   ·rw[aR y];exact q
   ·obtain⟨o,u,r⟩:=hC c p y;rw[r]at q;cases q
  ·rcases aB C c with y|⟨p,y⟩
   ·rw[aR y];exact q
   ·obtain⟨o,u,r⟩:=hC c p y;rw[r]at q;cases q
 ·rw[fm z]at e;cases e
theorem dX.ck {H:Hp}{h:Heap}(x:dX P w H h)(hC:∀b p,C b=some p->H b=none)(c:oo C h):dX P w (iK H C) h:=λ b u e=>by
 rcases aB C b with z|⟨p,z⟩
 ·rw[bp z]at e;refine(x b u e).eK (λ c v _ q=>q) (λ c q=>?_) λ c xs q=>?_
  ·rcases aB C c with y|⟨p,y⟩
   ·rw[bp y];exact q
   ·rw[hC c p y]at q;cases q
  ·rcases aB C c with y|⟨p,y⟩
   ·rw[bp y];exact q
   ·rw[hC c p y]at q;cases q
 ·rw[ij z]at e;cases e;exact c.obj z
theorem iR.ck (e:iR P w K mg base A outer s H)(hC:∀b p,C b=some p->H b=none/\base.get? b=none/\b∉f_ outer)(c:oo C s.heap):iR P w K mg base A outer s (iK H C):=by
 refine⟨e.frames,e.mod,λ b o q=>?_,e.vX,e.gL,λ b hb=>?_,e.aK.ck (λ b p z=>(hC b p z).1) c,e.bare⟩
 ·rcases aB C b with z|⟨p,z⟩
  ·rw[bp z];exact e.bs b o q
  ·rw[(hC b p z).2.1]at q;cases q
 ·rcases aB C b with z|⟨p,z⟩
  ·rw[bp z];exact e.DC b hb
  ·exact absurd hb (hC b p z).2.2
theorem CE.AH {Q:VK}{u:Value}(h:CE outer P w (iK H C) s Q u s')(hC:∀b p,C b=some p->H b=none/\b∉f_ outer)(c:oo C s.heap):CE outer P w H s (λ v H2=>∃H',H2=fZ H' C/\(∀b p,C b=some p->H' b=some (fO p.1 b p.2))/\Q v H') u s':=by
 obtain⟨v,H',os,bare,un,aK,r,q⟩:=h;have hf:∀b p,C b=some p->H' b=some (fO p.1 b p.2):=λ b p z=>un.dD b _ _ (ij z);have ne:∀b o,H b=some o->C b=none:=λ b o e=>by
  rcases aB C b with z|⟨p,z⟩
  ·exact z
  ·rw[(hC b p z).1]at e;cases e
 refine⟨v,fZ H' C,os,bare,⟨λ b o e n hb hx=>?_,λ b o e n hb hx=>?_,λ b o e n hx=>?_,un.there,λ b xs e=>?_,λ b o x e=>?_,λ b ps e=>?_⟩,aK.AH λ b p z=>⟨_,_,hf b p z⟩,r,H',rfl,hf,q⟩
 ·rcases aB C b with z|⟨p,z⟩
  ·exact un.keep b o e (by rw[bp z];exact n) hb hx
  ·rw[(c b p z).1]at e;cases e;exact(aK b _ (hf b p z)).1
 ·rcases aB C b with z|⟨p,z⟩
  ·exact un.slot b o e (by rw[bp z];exact n) hb hx
  ·exact absurd hb (hC b p z).2
 ·rcases aB C b with z|⟨p,z⟩
  ·rw[aR z];exact un.free b o e (by rw[bp z];exact n) hx
  ·exact fm z
 ·rw[aR (ne b _ e)];exact un.dZ b xs (by rw[bp (ne b _ e)];exact e)
 ·rw[aR (ne b _ e)];exact un.dD b o x (by rw[bp (ne b _ e)];exact e)
 ·rw[aR (ne b _ e)];exact un.d_ b ps (by rw[bp (ne b _ e)];exact e)
theorem iR.AH (e:iR P w K mg base A outer s H)(hC:∀b p,C b=some p->H b=some (fO p.1 b p.2)):iR P w K mg base A outer s (fZ H C):=by
 refine⟨e.frames,e.mod,λ b o q=>⟨(e.bs b o q).1,?_⟩,e.vX,e.gL,λ b hb=>?_,e.aK.AH λ b p z=>⟨_,_,hC b p z⟩,e.bare⟩
 ·rcases aB C b with z|⟨p,z⟩
  ·rw[aR z];exact(e.bs b o q).2
  ·exact fm z
 ·rcases aB C b with z|⟨p,z⟩
  ·rw[aR z];exact e.DC b hb
  ·exact fm z
theorem CE.ck {Q:VK}{u:Value}(h:CE outer P w (fZ H C) s (λ v H'=>(∀b p,C b=some p->H' b=none)->Q v (iK H' C)) u s')(Ia:dX P w H s.heap)(hC:∀b p,C b=some p->H b=some (fO p.1 b p.2))(ou:∀b∈f_ outer,H b=none):CE outer P w H s Q u s':=by
 obtain⟨v,H',os,bare,un,aK,r,q⟩:=h;have nf:∀b p,C b=some p->b∉f_ outer:=λ b p z hb=>by have:=hC b p z;rw[ou b hb]at this;cases this
 have kc:∀b p,C b=some p->s'.heap.get? b=some p.1:=λ b p z=>un.keep b _ (Ia b _ (hC b p z)).1 (fm z) (nf b p z) (by simp);have fr:∀b p,C b=some p->H' b=none:=λ b p z=>un.free b _ (Ia b _ (hC b p z)).1 (fm z) (by simp);have ne:∀b,H b=none->C b=none:=λ b e=>by
  rcases aB C b with z|⟨p,z⟩
  ·exact z
  ·rw[hC b p z]at e;cases e
 have co:oo C s'.heap:=λ b p z=>⟨kc b p z,xW (Ia b _ (hC b p z)).2.2.1 λ o e=>by rw[(Ia b _ (hC b p z)).1]at e;cases e;exact kc b p z⟩;refine⟨v,iK H' C,os,bare,⟨λ b o e n hb hx=>un.keep b o e (by rw[aR (ne b n)];exact n) hb hx,λ b o e n hb hx=>un.slot b o e (by rw[aR (ne b n)];exact n) hb hx,λ b o e n hx=>by rw[bp (ne b n)];exact un.free b o e (by rw[aR (ne b n)];exact n) hx,un.there,λ b xs e=>?_,λ b o x e=>?_,λ b ps e=>?_⟩,aK.ck fr co,r,q fr⟩
 ·rcases aB C b with z|⟨p,z⟩
  ·rw[bp z];exact un.dZ b xs (by rw[aR z];exact e)
  ·rw[hC b p z]at e;cases e
 ·rcases aB C b with z|⟨p,z⟩
  ·rw[bp z];exact un.dD b o x (by rw[aR z];exact e)
  ·rw[hC b p z]at e;rw[ij z];exact e
 ·rcases aB C b with z|⟨p,z⟩
  ·rw[bp z];exact un.d_ b ps (by rw[aR z];exact e)
  ·rw[hC b p z]at e;cases e
end
end L2
namespace L2
open PySem PySem.Spec PyProof.Rows
def qc(P:Program)(w:World)(K:J8)(mg:Str->Option Value)(base:Heap)(N:List Str)(qual:Str)(scope:Scope)(f c:Addr)(cl:List (Str×Addr))(A:Around)(outer:List Env)(s:Shared)(H:Hp):Cx where
 prog:=P
 w:=w
 K:=K
 mg:=mg
 base:=base
 A:=A.deeper (PySem.W.envX qual scope s.heap.objs.size f (.ref c) cl)
 N:=N
 s₀:=s
 H₀:=H
 env:=PySem.W.envX qual scope s.heap.objs.size f (.ref c) cl
 outer:=outer
 stack:=PySem.W.envX qual scope s.heap.objs.size f (.ref c) cl::outer
 ex:=[]
 calm:=true
 fn:=λ _=>false
 pn:=[]
 xe:=λ _ _=>False
abbrev Rt:=List V->List V->Hp->VK->Prop
structure Et(h:Heap)(H:Hp)(cl:List (Str×Addr))(fv:List Str)(eS:List V):Prop where
 len:eS.length=fv.length
 val:∀(i:Nat) (x:Str) (v:V),fv[i]?=some x->eS[i]?=some v->∃d,cl.lookup x=some d/\Ed d v h
 inj:∀x y d,cl.lookup x=some d->cl.lookup y=some d->x=y
 free:∀x d,cl.lookup x=some d->x∈fv/\H d=none
structure qk(P:Program)(w:World)(K:J8)(mg:Str->Option Value)(base:Heap)(k:Nat)(L:iA)(ps fv:List Str)(sp:Rt):Prop where
 len:∀vs eS H Q,sp vs eS H Q->vs.length=ps.length
 run:∀(A:Around) (outer:List Env) (s:Shared) (H:Hp) (f c:Addr) (cl:List (Str×Addr)) (us:List Value) (vs eS:List V) (Q:VK),bf k A->iR P w K mg base A outer s H->ka f L c cl s.heap->rh c L.qual s.heap->Et s.heap H cl fv eS->Vals vs us->sp vs eS H Q->
  codeAny (model P w) A (.call (.ref f) ⟨us,[]⟩) (CR (λ _ _ _ _ _ _=>False) outer P w H s Q λ _ _ _=>False) s
section
variable {P:Program}{w:World}{K:J8}{mg:Str->Option Value}{base:Heap}{k:Nat}{L:iA}{ps fv:List Str}{sp:Rt}
abbrev Vz(vs eS:List V)(lo:List Str):St:=(vs++eS).map some++lo.map λ _=>none
structure gS(ps fv lo:List Str)(sc:Scope):Prop where
 kind:sc.kind=.function
 co:sc.isCoroutine=false
 gen:sc.isGenerator=false
 nd:(ps++fv++lo).Nodup
 par:∀x∈ps,sc.names.lookup x=some .local\/sc.names.lookup x=some .cell
 MY:∀x∈fv,sc.names.lookup x=some .free
 all:∀x,sc.names.lookup x=some .free->x∈fv
 sep:∀x∈fv,(x,NameKind.cell)∉sc.names
set_option tactic.hygienic true in
theorem fM{x:Str}{d:Addr}:∀(ns:List (Str×NameKind)) (n:Nat) (acc:List (Str×Addr)),(cellsFrom n ns acc).lookup x=some d->(x,NameKind.cell)∈ns\/acc.lookup x=some d
 |[],_,_,h=>.inr h
 |(y,k)::ns,n,acc,h=>by
  unfold cellsFrom at h;split at h
  ·rename_i hk;rcases fM ns _ _ h with q|q
   ·exact .inl (.tail _ q)
   ·rw[y7]at q;cases z:x==y with
    |true=>rw[eq_of_beq z,eq_of_beq hk];exact .inl (.head _)
    |false=>rw[z]at q;exact .inr q
  ·exact(fM ns _ _ h).imp (.tail _) id
theorem cY:∀(ns:List (Str×NameKind)) (n:Nat) (acc:List (Str×Addr)),cellsFrom n ns acc=cellsFrom n ns []++acc
 |[],_,_=>rfl
 |(x,k)::ns,n,acc=>by
  unfold cellsFrom;split
  ·rw[cY ns (n+1) ((x,n)::acc),cY ns (n+1) [(x,n)],append_assoc];rfl
  ·exact cY ns n acc
theorem DF{M:Model}{A:Around}{E:Value->Shared->Prop}{f g:Str×Value->PUnit->Sem (ForInStep PUnit)}{Q:PUnit->Shared->Prop}:∀(l:List (Str×Value)) (s:Shared),(∀x∈l,∀b,f x b=g x b)->wpAny M A (forIn l PUnit.unit g) Q E s->wpAny M A (forIn l PUnit.unit f) Q E s:=by
 intro l s h k;have:∀(l:List (Str×Value)),(∀x∈l,∀b,f x b=g x b)->forIn l PUnit.unit f=forIn l PUnit.unit g:=by
  intro l
  induction l with
  |nil=>intro _;rw[forIn_nil,forIn_nil]
  |cons x l ih=>
   intro h;rw[forIn_cons,forIn_cons,h x (.head _)];refine G8 _ (funext λ r=>?_);cases r with
   |done b=>rfl
   |yield b=>exact ih λ y hy=>h y (.tail _ hy)
 rw[this l h];exact k
theorem UY{M:Model}{A:Around}{E:Value->Shared->Prop}{s:Shared}{scope:Scope}{cl:List (Str×Addr)}{binds:List (Str×Value)}{qual:Str}{f:Addr}{cd:Value}{Q:Env->Shared->Prop}(hk:scope.kind=.function) (xA:∀x∈binds,scope.names.lookup x.1=some .local\/(scope.names.lookup x.1=some .cell/\((cellsFrom (s.heap.objs.size+1) scope.names []).lookup x.1).isSome=true)) (hQ:∀s',InCallC s s.heap.objs.size (bindL (envOfC qual scope s.heap.objs.size f cd).kindOf binds λ _=>none) (cellsFrom (s.heap.objs.size+1) scope.names []) (bindC (envOfC qual scope s.heap.objs.size f cd).kindOf binds λ _=>none) s'->
   Q (PySem.W.envX qual scope s.heap.objs.size f cd (cellsFrom (s.heap.objs.size+1) scope.names []++cl)) s'):wpAny M A (newFunctionEnv scope mainGlobals cl binds (qual++".<locals>.") (some f) cd none builtinsNs) Q E s:=by
 simp only[newFunctionEnv,Option.isSome_none,r9,G7];refine G1 (wpAny_alloc (G1 (wpAny_layCells _ (λ n k c=>by cases z:k==NameKind.cell <;> simp[z]) _ _ _ _ ?_)));have ok:=cellsFrom_ok scope.names (s.heap.push {cls:=.type "frame",data:=.dict #[]}) (s.heap.objs.size+1) [] ⟨λ _ _ hm=>(nomatch hm),List.Pairwise.nil⟩ (by rw[B6];exact D8 _);rw[cY,B6];rw[B6]at ok;have ap:=ok.apart;have em:=ok.empty;generalize hn:cellsFrom (s.heap.objs.size+1) scope.names []=nw at*;refine G1 ?_;refine DF (g:=λ p _=>(do storeName (PySem.W.envX qual scope s.heap.objs.size f cd nw) p.1 p.2;pure (.yield ⟨⟩))) binds _ (λ p hp b=>?_) ?_
 ·refine G8 (λ z=>z >>= _) ?_;have e:(nw++cl).lookup p.1=nw.lookup p.1\/scope.names.lookup p.1=some .local:=by
   rcases xA p hp with z|⟨_,z⟩
   ·exact .inr z
   ·obtain⟨c,hc⟩:=Option.isSome_iff_exists.mp z;exact .inl (by rw[lookup_append,hc];rfl)
  show storeName (PySem.W.envX qual scope s.heap.objs.size f cd (nw++cl)) p.1 p.2=_;unfold storeName;rcases e with e|e
  ·have:cellOf (PySem.W.envX qual scope s.heap.objs.size f cd (nw++cl)) p.1=cellOf (PySem.W.envX qual scope s.heap.objs.size f cd nw) p.1:=by unfold cellOf;rw[show(PySem.W.envX qual scope s.heap.objs.size f cd (nw++cl)).cells.lookup p.1=(PySem.W.envX qual scope s.heap.objs.size f cd nw).cells.lookup p.1 from e]
   rw[this];rfl
  ·rw[show(PySem.W.envX qual scope s.heap.objs.size f cd (nw++cl)).kindOf p.1=some .local from e,show(PySem.W.envX qual scope s.heap.objs.size f cd nw).kindOf p.1=some .local from e];rfl
 ·refine wpAny_bindParams (s₀:=s) (env:=PySem.W.envX qual scope s.heap.objs.size f cd nw) _ (λ _ _ _=>rfl) hk binds (λ _=>none) (λ _=>none) _ _
   ⟨⟨⟨_,_,rfl⟩,(Heap.Ns.new s.heap (.type "frame")).keeps (pushCells_keeps _ _),λ b o e=>pushCells_keeps _ _ b o (j8 _ e),D8 _⟩,λ n c hc=>(em n c (o5 hc)).1,ap,λ n c hm=>(em n c hm).2⟩ xA λ s' x=>G2 (hQ s' x)
theorem DV{lo:List Str}{A:Around}{outer:List Env}{s s1:Shared}{H:Hp}{f c:Addr}{cl:List (Str×Addr)}{vs eS:List V}{us:List Value}(S:gS ps fv lo L.scope)(hl:vs.length=ps.length)(r:Vals vs us)(hd:(A.deeper (PySem.W.envX L.qual L.scope s.heap.objs.size f (.ref c) (cellsFrom (s.heap.objs.size+1) L.scope.names []++cl))).handled=none)(e0:iR P w K mg base A outer s H)(hC:Et s.heap H cl fv eS) (x:InCallC s s.heap.objs.size (bindL (envOfC L.qual L.scope s.heap.objs.size f (.ref c)).kindOf (ps.zip us) λ _=>none) (cellsFrom (s.heap.objs.size+1) L.scope.names []) (bindC (envOfC L.qual L.scope s.heap.objs.size f (.ref c)).kindOf (ps.zip us) λ _=>none) s1):Inv (qc P w K mg base (ps++fv++lo) L.qual L.scope f c (cellsFrom (s.heap.objs.size+1) L.scope.names []++cl) A outer s H) [] (Vz vs eS lo) H s1:=by
 obtain⟨h1,tk,rfl,hk⟩:=x.done;have xc:=x.cell;have xa:=x.apart;have xb:=x.above;have xn:=x.toInCall.ns;have Xj:∀y∈fv,(cellsFrom (s.heap.objs.size+1) L.scope.names []).lookup y=none:=λ y hy=>by
  cases z:(cellsFrom (s.heap.objs.size+1) L.scope.names []).lookup y with
  |none=>rfl
  |some d=>
   rcases fM _ _ _ z with q|q
   ·exact absurd q (S.sep y hy)
   ·cases q
 have VF:∀y,L.scope.names.lookup y=some .cell->∃d,(cellsFrom (s.heap.objs.size+1) L.scope.names []).lookup y=some d:=λ y h=>nU h;clear x;generalize cellsFrom (s.heap.objs.size+1) L.scope.names []=nw at*;have lk:∀y d,(nw++cl).lookup y=some d->nw.lookup y=some d\/(nw.lookup y=none/\cl.lookup y=some d):=λ y d e=>by
  rw[lookup_append]at e;cases z:nw.lookup y with
  |none=>rw[z]at e;exact .inr ⟨rfl,e⟩
  |some d'=>rw[z]at e;exact .inl e
 have Ww:∀y d,cl.lookup y=some d->∃u,s.heap.IsCell d (some u):=λ y d q=>by obtain⟨i,hi⟩:=mem_iff_getElem?.mp (hC.free y d q).1;obtain⟨d',q',u,_,ic⟩:=hC.val i y _ hi (i7 (by rw[hC.len];exact(i4.mp hi).1));cases q.symm.trans q';exact⟨u,ic⟩
 have CB:∀b:Addr,b∉(qc P w K mg base (ps++fv++lo) L.qual L.scope f c (nw++cl) A outer s H).ex:=λ b z=>absurd (show b∈([]:List Addr)from z) (by simp);have old:∀y d,cl.lookup y=some d->d < s.heap.objs.size:=λ y d q=>let⟨_,ic⟩:=Ww y d q;ic.lt
 refine⟨⟨e0.mod,S.kind,rfl,rfl,D8 _,λ y z d q1 q2=>?_,λ y hy=>?_,λ y d z=>(by cases z),λ _=>hd,Around.frames_deeper e0.frames,.inr ⟨rfl,rfl⟩,λ b z=>absurd z (CB b),e0.bs,e0.vX,λ b _ _=>CB b,λ b z=>absurd z (CB b),e0.gL,e0.DC⟩,
  rfl,e0.bare,Un.kept hk,⟨_,xn,λ i y v q1 q2 q3=>?_⟩,λ y d q=>?_,e0.aK.fresh (D8 _),λ y d q=>?_,λ p hp=>absurd (show p∈([]:List (Addr×Obj))from hp) (by simp),e0.aK.kept hk,?_⟩
 ·rcases lk y d q1 with a|⟨_,a⟩ <;> rcases lk z d q2 with b|⟨_,b⟩
  ·exact name_of_addr xa (o5 a) (o5 b)
  ·exact absurd (old z d b) (Nat.lt_asymm (xb y d (o5 a)))
  ·exact absurd (old y d a) (Nat.lt_asymm (xb z d (o5 b)))
  ·exact hC.inj y z d a b
 ·have hy:L.scope.names.lookup y=some .cell\/L.scope.names.lookup y=some .free:=hy;show ∃d,(nw++cl).lookup y=some d;rw[lookup_append];cases z:nw.lookup y with
  |some d=>exact⟨d,rfl⟩
  |none=>
   rcases hy with hy|hy
   ·obtain⟨d,q⟩:=VF y hy;rw[q]at z;cases z
   ·obtain⟨i,hi⟩:=mem_iff_getElem?.mp (S.all y hy);obtain⟨d,q,_⟩:=hC.val i y _ hi (i7 (by rw[hC.len];exact(i4.mp hi).1));exact⟨d,q⟩
 ·have ig:i < (vs++eS).length:=by
   rcases Nat.lt_or_ge i (vs++eS).length with z|z
   ·exact z
   ·rw[c5 (by rw[A8];exact z),x3]at q2;cases e:lo[i - ((vs++eS).map some).length]? with
    |none=>rw[e]at q2;cases q2
    |some a=>rw[e]at q2;cases q2
  have q2:(vs++eS)[i]?=some v:=by
   rw[h8 (by rw[A8];exact ig),x3]at q2;cases z:(vs++eS)[i]? with
   |none=>rw[z]at q2;cases q2
   |some a=>rw[z]at q2;cases q2;rfl
  have q1:(ps++fv++lo)[i]?=some y:=q1;rw[h8 (by rw[r6,<- hl,<- hC.len,<- r6];exact ig)]at q1;by_cases hi:i < ps.length
  ·rw[h8 hi]at q1;rw[h8 (by rw[hl];exact hi)]at q2;obtain⟨u,hu,rv⟩:=r.get q2;have PJ:ps.Nodup:=(nodup_append.mp (nodup_append.mp S.nd).1).1;refine⟨u,rv,?_⟩;rcases S.par y (m8 q1)with k|k
   ·exact .inl ⟨k,kz PJ q1 hu k⟩
   ·obtain⟨d,e⟩:=VF y k;refine .inr ⟨.inl k,d,by show(nw++cl).lookup y=_;rw[lookup_append,e];rfl,?_⟩;have q:=xc y d e;rw[kG PJ q1 hu (by show L.scope.names.lookup y≠_;rw[k];decide)]at q;exact q
  ·rw[c5 (by omega)]at q1;rw[c5 (by omega),hl]at q2;obtain⟨d,q,u,rv,ic⟩:=hC.val _ y v q1 q2;have kf:=S.MY y (m8 q1);refine⟨u,rv,.inr ⟨.inr kf,d,?_,let⟨o,a,b⟩:=ic;⟨o,hk _ _ a,b⟩⟩⟩;show(nw++cl).lookup y=_;rw[lookup_append,show nw.lookup y=none from ?_]
   ·exact q
   ·exact Xj y (m8 q1)
 ·rcases lk y d q with a|⟨_,a⟩
  ·exact⟨_,xc y d a⟩
  ·obtain⟨u,o,a,b⟩:=Ww y d a;exact⟨some u,o,hk _ _ a,b⟩
 ·rcases lk y d q with a|⟨_,a⟩
  ·exact e0.aK.fresh (D7 (xb y d (o5 a)))
  ·exact(hC.free y d a).2
 ·show _=(ps++fv++lo).length;rw[r6,A8,A8,r6,r6,r6,hl,hC.len]
theorem Ir(lo:List Str)(S:gS ps fv lo L.scope)(len:∀vs eS H Q,sp vs eS H Q->vs.length=ps.length) (nJ:∀(cl:List (Str×Addr)) (c:Addr) (doc fJ:Value) (us:List Value),us.length=ps.length->bindArgs (HM L cl c doc fJ) ⟨us,[]⟩=pure (ps.zip us)) (hb:L.body=.stmts L.aL) (bW:∀(A:Around) (outer:List Env) (s:Shared) (H:Hp) (f c:Addr) (cl:List (Str×Addr)) (vs eS:List V) (Q:VK),bf k (A.deeper (PySem.W.envX L.qual L.scope s.heap.objs.size f (.ref c) cl))->sp vs eS H Q->
   ∃t,nZ (qc P w K mg base (ps++fv++lo) L.qual L.scope f c cl A outer s H) L.aL t/\t {nx:=λ _ H'=>Q .aY H',rt:=Q} (Vz vs eS lo) H):qk P w K mg base (k+1) L ps fv sp:=by
 refine⟨len,λ A outer s H f c cl us vs eS Q hr e0 hf hc hC r vp=>?_⟩;have hl:=len _ _ _ _ vp;have lim:s.heap.NoLimit:=e0.mod.nolimit.keeps λ b o e=>(e0.bs b o e).1;obtain⟨doc,fJ,ef⟩:=hf;refine codeAny_call_function hr.depth ef rfl S.co S.gen hb hc ?_;rw[nJ cl c doc fJ us (by rw[<- r.length];exact hl)];refine G2 (UY S.kind (λ y hy=>?_) λ s1 x=>⟨lim.keeps x.toInCall.keep,codeAny_func ?_⟩)
 ·rcases S.par _ (of_mem_zip (show(y.1,y.2)∈ps.zip us from hy)).1 with q|q
  ·exact .inl q
  ·exact .inr ⟨q,PySem.W.cellsFrom_some _ _ _ (.inl q)⟩
 obtain⟨t,ht,hq⟩:=bW A outer s H f c (cellsFrom (s.heap.objs.size+1) L.scope.names []++cl) vs eS Q (hr.deeper _) vp;have I:=DV (L:=L) (f:=f) (c:=c) S hl r hr.hd e0 hC x;refine G4 (ht [] _ _ H _ I hq) (λ fl s' hs=>?_) λ e s' hs=>False.elim hs;have fin:∀{σ':St} {H':Hp} {v:V} {u:Value},Inv (qc P w K mg base (ps++fv++lo) L.qual L.scope f c (cellsFrom (s.heap.objs.size+1) L.scope.names []++cl) A outer s H) [] σ' H' s'->RelV v u->Q v H'->CE outer P w H s Q u s':=
  λ{σ' H' v u} J rv q=>⟨v,H',J.os,J.bare,J.base,J.aK,rv,q⟩
 cases fl with
 |ret u=>obtain⟨v,σ',H',J,rv,q⟩:=hs;exact fin J rv q
 |next=>obtain⟨σ',H',J,q⟩:=hs;exact fin (v:=V.aY) (u:=Value.none) J rfl q
 |brk=>obtain⟨_,_,_,q⟩:=hs;exact False.elim q
 |cont=>obtain⟨_,_,_,q⟩:=hs;exact False.elim q
end
end L2
namespace L2
open PySem PySem.Spec PyProof.Rows
structure RH(cells:List (Str×Addr))(cn:List (Str×Nat))(σ:St)(C:gV):Prop where
 has:∀x j,(x,j)∈cn->∃d o v,cells.lookup x=some d/\σ[j]?=some (some v)/\C d=some (o,v)
 only:∀d p,C d=some p->∃x j,(x,j)∈cn/\cells.lookup x=some d
section
variable {X:Cx}{pins:List (Addr×Obj)}{σ:St}{H:Hp}{s:Shared}
theorem Inv.Rk (I:Inv X pins σ H s):∀(cn:List (Str×Nat)),(∀x j,(x,j)∈cn->X.env.kindOf x=some .cell/\X.N[j]?=some x/\∃v,σ[j]?=some (some v))->X.N.Nodup->∃C,RH X.env.cells cn σ C/\oo C s.heap
 |[],_,_=>⟨λ _=>none,⟨(λ _ _ h=>nomatch h),(λ _ _ h=>nomatch h)⟩,(λ _ _ h=>nomatch h)⟩
 |(x,j)::cn,h,nd=>by
  obtain⟨C,h1,h2⟩:=I.Rk cn (λ y i hy=>h y i (.tail _ hy)) nd;obtain⟨hk,hN,v,hv⟩:=h x j (.head _);obtain⟨m,hn,hl⟩:=I.loc;obtain⟨u,r,lk⟩:=hl j x v hN hv (.inr (.inl hk));rcases lk with⟨q,_⟩|⟨_,d,hd,hc⟩
  ·rw[hk]at q;cases q
  obtain⟨o,ho,hz⟩:=IE r hc;refine⟨λ b=>if b=d then some (o,v)else C b,⟨λ y i hy=>?_,λ b p hb=>?_⟩,λ b p hb=>?_⟩
  ·rcases C3.mp hy with e|VQ
   ·cases e;exact⟨d,o,v,hd,hv,J0 rfl⟩
   ·obtain⟨d',o',v',e1,e2,e3⟩:=h1.has y i VQ;by_cases z:d'=d
    ·subst z;have Zd:y=x:=I.ok.inj _ _ _ e1 hd;subst Zd;obtain⟨_,YM,_⟩:=h y i (.tail _ VQ);have:i=j:=gD nd YM hN;subst this;exact⟨d',o,v,hd,hv,J0 rfl⟩
    ·exact⟨d',o',v',e1,e2,(J7 z).trans e3⟩
  ·by_cases z:b=d
   ·subst z;exact⟨x,j,.head _,hd⟩
   ·have hb:C b=some p:=(J7 z).symm.trans hb;obtain⟨y,i,m1,m2⟩:=h1.only b p hb;exact⟨y,i,.tail _ m1,m2⟩
  ·by_cases z:b=d
   ·subst z;have hb:some (o,v)=some p:=(J0 rfl).symm.trans hb;cases hb;exact⟨ho,u,r,hc⟩
   ·exact h2 b p ((J7 z).symm.trans hb)
end
section
variable {X:Cx}{k:Nat}{f:Addr}{fd:FuncData}{ps:List Str}{sp:Sp}{dvs:List V}{ds:List Value}{x:Str}{p pos:Pos}{e:Expr}{es:List Expr}{t:TA}{cn:List (Str×Nat)}
def Kb(sp:Sp)(dvs:List V)(cells:List (Str×Addr))(cn:List (Str×Nat))(t:TA):TE:=λ σ H Q=>t σ H λ vs H1=>(∀x j,(x,j)∈cn->∃v,σ[j]?=some (some v))/\
 ∀C,RH cells cn σ C->(∀x j y i b,(x,j)∈cn->(y,i)∈cn->cells.lookup x=some b->cells.lookup y=some b->j=i)->(∀b p,C b=some p->H1 b=none)->sp (vs++dvs) (iK H1 C) (λ v H'=>Q v (fZ H' C)) E0
theorem Ck(F:aX X.prog X.w X.K X.mg X.base di k f fd ps sp)(hr:bf k X.A)(hg:Gl X x)(hm:X.mg x=some (.ref f))(hk:PySem.W.keepIn X.K (.ref f)=true)(hb:Binds X.K fd ps ds)(hd:Vals dvs ds) (pV:∀x j,(x,j)∈cn->X.env.kindOf x=some .cell/\X.N[j]?=some x/\X.fn x=true) (hN:X.N.Nodup) (ha:PA X (e::es) t) (hdb:(x==("__debug__":Str))=false:=by decide) (he:starEach (e::es) X.env=(false,eval e X.env)::starEach es X.env:=by rfl) (hpl:(backTo pos (starEach es X.env)).any (·.1)=false:=by rfl):PE X (.Call (.Name x p) (e::es) [] pos) (Kb sp dvs X.env.cells cn t):=by
 intro pins s σ H Q I h;refine u5 (dC I hg hm ?_ hdb);refine PySem.W.callWith_K (h₀:=X.base) I.ok.mod.Mo hk (bZ (ha pos pins s σ H _ I h) λ us s1 ⟨vs,H1,I1,r,hv,q⟩=>⟨I1.jq,?_⟩) he hpl;obtain⟨C,hC,Wv⟩:=I1.Rk cn (λ x j hx=>⟨(pV x j hx).1,(pV x j hx).2.1,hv x j hx⟩) hN;have fr:∀b p,C b=some p->H1 b=none/\X.base.get? b=none/\b∉f_ X.stack:=λ b p hb=>by
  obtain⟨y,j,m1,m2⟩:=hC.only b p hb;have ge:=I1.ok.Nt y b (pV y j m1).2.2 m2;refine⟨I1.dr y b m2,Heap.get?_none_of_le (D3 I1.ok.vX ge),λ z=>?_⟩;rcases C3.mp (I1.mI b z)with z|z
  ·exact I1.Ai y b m2 z
  ·obtain⟨_,o,ho,_⟩:=I1.ok.gL.mem z;exact absurd (C8 ho) (Nat.not_lt.mpr ge)
 have q:=q C hC (λ y j z i b m1 m2 e1 e2=>by have:=I1.ok.inj _ _ _ e1 e2;subst this;exact gD hN (pV _ _ m1).2.1 (pV _ _ m2).2.1) λ b p hb=>(fr b p hb).1;have r2:Vals (vs++dvs) (us++ds):=r.append hd;have hl:(us++ds).length=ps.length:=by rw[<- r2.length];exact F.len _ _ _ _ q
 refine G5 (D5 (F.run X.A X.stack s1 (iK H1 C) ⟨us,[]⟩ (us++ds) (vs++dvs) _ E0 hr (I1.DQ.ck fr Wv) (hb s1 us I1.jq hl) r2 q) λ r s' hq=>?_);cases r with
 |error e=>exact False.elim hq
 |ok fl=>
  cases fl with
  |ret u=>have hq:=CE.AH hq (λ b p hb=>⟨(fr b p hb).1,(fr b p hb).2.2⟩) Wv;obtain⟨v,H2,I2,rv,H',e,hf,q⟩:=I1.after hq;exact⟨v,H2,I2,rv,by rw[e];exact q⟩
  |next=>exact False.elim hq
  |brk=>exact False.elim hq
  |cont=>exact False.elim hq
end
section
variable {X:Cx}{k:Nat}{x:Str}{p pos:Pos}{e:Expr}{es:List Expr}{t:TA}{i:Nat}
structure Rz(H:Hp)(f:Addr)(L:iA)(fv:List Str)(eS:List V)(C:gV):Prop where
 ex:∃c cl,(∃o,H f=some (.ck o (.ext (ka f L c cl))))/\(∃o,H c=some (.ck o (.ext (rh c L.qual))))/\(∀x y d,cl.lookup x=some d->cl.lookup y=some d->x=y)/\(∀x d,cl.lookup x=some d->x∈fv/\∃p,C d=some p)/\
  ∀(i:Nat) (x:Str) (v:V),fv[i]?=some x->eS[i]?=some v->∃d o,cl.lookup x=some d/\C d=some (o,v)
 len:eS.length=fv.length
 ck:∀b p,C b=some p->H b=some (fO p.1 b p.2)
def W6(P:Program)(w:World)(K:J8)(mg:Str->Option Value)(base:Heap)(k:Nat)(i:Nat)(t:TA):TE:=λ σ H Q=>∃f,σ[i]?=some (some (.ref f))/\(∃o L c cl,H f=some (.ck o (.ext (ka f L c cl))))/\t σ H λ vs H1=>∃(L:iA) (ps fv:List Str) (sp:Rt) (eS:List V) (C:gV),
 qk P w K mg base k L ps fv sp/\Rz H1 f L fv eS C/\sp vs eS (fZ H1 C) λ v H'=>(∀b p,C b=some p->H' b=none)->Q v (iK H' C)
theorem Jz{H:Hp}{h:Heap}{P:Program}{w:World}{f c:Addr}{o:Obj}{L:iA}{cl:List (Str×Addr)}(aK:dX P w H h)(e:H f=some (.ck o (.ext (ka f L c cl)))):ka f L c cl h:=(aK f _ e).2.1
theorem xH{h:Heap}{f c:Addr}{L:iA}{cl:List (Str×Addr)}(x:ka f L c cl h):PySem.W.FnAt f h:=let⟨_,_,e⟩:=x;⟨_,_,_,_,e⟩
theorem Cj(hr:bf k X.A)(hi:X.N[i]?=some x)(hv:IU X.env.scope x)(ha:PA X (e::es) t)(hd:(x==("__debug__":Str))=false:=by decide)(hcd:(x==("__classdict__":Str))=false:=by decide) (he:starEach (e::es) X.env=(false,eval e X.env)::starEach es X.env:=by rfl) (hpl:(backTo pos (starEach es X.env)).any (·.1)=false:=by rfl):PE X (.Call (.Name x p) (e::es) [] pos) (W6 X.prog X.w X.K X.mg X.base k i t):=by
 intro pins s σ H Q I h;obtain⟨f,ef,⟨o0,L0,c0,Wy,e0⟩,h⟩:=h;refine u5 (bZ (uU hi hv hd hcd pins s σ H (λ v H'=>v=.ref f/\H'=H) I ⟨.ref f,ef,rfl,rfl⟩) λ u s0 ⟨v,H0,I0,rv,ev,eH⟩=>?_);subst ev;subst eH;cases(show u=Value.ref f from rv);have Yz:=Jz I0.aK e0;refine PySem.W.callWith_F (xH Yz) (bZ (ha pos pins s0 σ H0 _ I0 h) λ us s1 ⟨vs,H1,I1,r,L,ps,fv,sp,eS,C,ok,at',q⟩=>?_) he hpl;obtain⟨c,cl,⟨o1,h1⟩,⟨o2,h2⟩,inj,MY,val⟩:=at'.ex;have V_:=Jz I1.aK h1;have YB:rh c L.qual s1.heap:=(I1.aK c _ h2).2.1;refine⟨xH V_,G5 (D5 (ok.run X.A X.stack s1 (fZ H1 C) f c cl us vs eS _ hr (I1.DQ.AH at'.ck) V_ YB ⟨at'.len,λ i x v a b=>?_,inj,λ x d z=>?_⟩ r q) λ r s' hq=>?_)⟩
 ·obtain⟨d,o,e1,e2⟩:=val i x v a b;exact⟨d,e1,(I1.aK d _ (at'.ck d _ e2)).2.2.1⟩
 ·obtain⟨a,b,z2⟩:=MY x d z;exact⟨a,fm z2⟩
 ·cases r with
  |error e=>exact False.elim hq
  |ok fl=>
   cases fl with
   |ret u=>exact I1.after (CE.ck hq I1.aK at'.ck I1.gZ)
   |next=>exact False.elim hq
   |brk=>exact False.elim hq
   |cont=>exact False.elim hq
end
end L2
namespace L3
open PySem PySem.Spec PyProof.Rows L2 L5
abbrev CM:=Addr->Option D
def iy(M:Mem)(C:CM):Mem:=λ b=>match C b with
 |some d=>some (.hX (.xX d))
 |none=>M b
def gN(M:Mem)(C:CM):Mem:=λ b=>match C b with
 |some _=>none
 |none=>M b
theorem mn{M:Mem}{C:CM}{b:Addr}{d:D}(e:C b=some d):iy M C b=some (.hX (.xX d)):=by unfold iy;rw[e]
theorem jG{M:Mem}{C:CM}{b:Addr}(e:C b=none):iy M C b=M b:=by unfold iy;rw[e]
theorem Iq{M:Mem}{C:CM}{b:Addr}{d:D}(e:C b=some d):gN M C b=none:=by unfold gN;rw[e]
theorem ma{M:Mem}{C:CM}{b:Addr}(e:C b=none):gN M C b=M b:=by unfold gN;rw[e]
theorem cM(C:CM)(b:Addr):C b=none\/∃d,C b=some d:=by
 cases e:C b with
 |none=>exact .inl rfl
 |some p=>exact .inr ⟨p,rfl⟩
structure Ew(K:J8)(H:Hp)(C:gV)(M:CM):Prop where
 l:∀b p,C b=some p->∃d,M b=some d/\Dat K H d p.2
 r:∀b d,M b=some d->∃p,C b=some p
theorem Ew.none {K:J8}{H:Hp}{C:gV}{M:CM}(h:Ew K H C M)(b:Addr):C b=Option.none↔M b=Option.none:=by
 constructor
 ·intro e;rcases cM M b with z|⟨d,z⟩
  ·exact z
  ·obtain⟨p,q⟩:=h.r b d z;rw[q]at e;cases e
 ·intro e;rcases aB C b with z|⟨p,z⟩
  ·exact z
  ·obtain⟨d,q,_⟩:=h.l b p z;rw[q]at e;cases e
section
variable {K:J8}{H:Hp}{C:gV}{N:CM}{M:Mem}
theorem qr(hC:∀b p,C b=some p->∃o v,H b=some (fO o b v)):zQ H (fZ H C):=by
 have ne:∀b u,H b=some u->(∀o v,u≠fO o b v)->C b=none:=λ b u e n=>by
  rcases aB C b with z|⟨p,z⟩
  ·exact z
  ·obtain⟨o,v,q⟩:=hC b p z;rw[q]at e;exact absurd (A6 e).symm (n o v)
 exact⟨λ b xs e=>by rw[aR (ne b _ e λ o v z=>by cases z)];exact e,λ b o xs e=>by rw[aR (ne b _ e λ o v z=>by cases z)];exact e,λ b o xs e=>by rw[aR (ne b _ e λ o v z=>by cases z)];exact e⟩
theorem lZ(hC:∀b p,C b=some p->H b=none):ah H (iK H C):=by
 have ne:∀b u,H b=some u->C b=none:=λ b u e=>by
  rcases aB C b with z|⟨p,z⟩
  ·exact z
  ·rw[hC b p z]at e;cases e
 exact⟨λ b xs e=>by rw[bp (ne b _ e)];exact e,λ b o xs e=>by rw[bp (ne b _ e)];exact e⟩
theorem oS.AH {a:Addr}{o:MO}(h:oS K H a o)(hC:∀b p,C b=some p->∃o v,H b=some (fO o b v))(ha:C a=none):oS K (fZ H C) a o:=by
 have ts:=qr hC;have kp:∀b u,H b=some u->(∀o v,u≠fO o b v)->fZ H C b=some u:=λ b u e n=>by
  rcases aB C b with z|⟨p,z⟩
  ·rw[aR z];exact e
  ·obtain⟨o,v,q⟩:=hC b p z;rw[q]at e;exact absurd (A6 e).symm (n o v)
 have ea:fZ H C a=H a:=aR ha;cases o with
 |lst ds=>obtain⟨xs,h,q⟩:=h;exact⟨xs,ea.trans h,ay.mon ts ds q⟩
 |bI b kvs=>
  cases b with
  |false=>obtain⟨xs,h,q⟩:=h;exact⟨xs,ea.trans h,Paired.qO q λ p q z=>⟨z.1,Dat.mon ts _ z.2⟩⟩
  |true=>obtain⟨xs,h,q⟩:=h;exact⟨xs,ea.trans h,Paired.qO q λ p q z=>⟨z.1,z.2.1,Dat.mon ts _ z.2.2.1,Dat.mon ts _ z.2.2.2⟩⟩
 |hX x=>
  cases x with
  |lam L cl=>obtain⟨c,⟨o,h⟩,o',h'⟩:=h;exact⟨c,⟨o,ea.trans h⟩,o',kp _ _ h' λ o v z=>by cases z⟩
  |xX d=>obtain⟨o,v,h,q⟩:=h;exact⟨o,v,ea.trans h,Dat.mon ts d q⟩
  |lM q=>obtain⟨cs,h1,h2⟩:=h;exact⟨cs,ea.trans h1,λ p hp=>let⟨o,z⟩:=h2 p hp;⟨o,kp _ _ z λ o v y=>by cases y⟩⟩
  |Su kvs=>obtain⟨xs,h,q⟩:=h;exact⟨xs,ea.trans h,Paired.qO q λ p q z=>⟨z.1,Dat.mon ts _ z.2.1,Dat.mon ts _ z.2.2⟩⟩
theorem RelM.ck (h:RelM K H M)(hC:∀b p,C b=some p->H b=none)(c:Ew K H C N):RelM K (iK H C) (iy M N):=λ a o e=>by
 have t:=lZ hC;rcases cM N a with z|⟨d,z⟩
 ·rw[jG z]at e;exact(h a o e).mono t (bp ((c.none a).mpr z))
 ·rw[mn z]at e;cases e;obtain⟨p,q⟩:=c.r a d z;obtain⟨d',q',r⟩:=c.l a p q;rw[z]at q';cases q';exact⟨_,_,ij q,Dat.mono t _ r⟩
theorem RelM.AH (h:RelM K H M)(hC:∀b p,C b=some p->∃o v,H b=some (fO o b v))(c:∀b,C b=none↔N b=none):RelM K (fZ H C) (gN M N):=λ a o e=>by
 rcases cM N a with z|⟨d,z⟩
 ·rw[ma z]at e;exact(h a o e).AH hC ((c a).mpr z)
 ·rw[Iq z]at e;cases e
end
section
variable {X:Cx}{L:iA}{c P:Addr}{pos:Pos}
def FE(P:Addr)(L:iA)(cells:List (Str×Addr)):bJ:=λ _ M Q=>M P=some (.hX (.lM L.qual))/\∀f,M f=none->(∀x d,cells.lookup x=some d->d≠f)->Q (.ref f) (af M f (.hX (.lam L (bc cells L.scope.names []))))
theorem Mm{K:J8}{cells:List (Str×Addr)}{σ:L2.St}{H:Hp}{Q:VK}(h:up K (FE P L cells) σ H Q):Ka P L cells σ H Q:=by
 obtain⟨δ,M,Q2,hs,hm,⟨hP,q⟩,k⟩:=h;have tb:JL H P L.qual:=hm P _ hP;obtain⟨cs,eP,Dx⟩:=id tb;refine⟨tb,λ f c H' nf hf old W0 hc hl=>?_⟩;have t:ah H H':=⟨λ b xs e=>old b _ (λ z=>by rw[z,eP]at e;cases e) e,λ b o u e=>old b _ (λ z=>by rw[z,eP]at e;cases e) e⟩;refine k _ H' _ _ (aG.mpr rfl) (λ a o e=>?_) t (q f (hm.free nf) hf);by_cases z:a=f
 ·subst z;rw[ae]at e;cases e;exact⟨c,hl,hc⟩
 ·rw[ak z]at e;by_cases y:a=P
  ·subst y;rw[hP]at e;cases e;exact W0
  ·obtain⟨u,hu⟩:=(hm a o e).there;exact(hm a o e).mono t (by rw[hu];exact old a u y hu)
theorem Gr{i:Nat}(hi:X.N[i]?=some L.name)(eD:X.env.code=.ref c)(B:EL X.mg X.base c P)(QK:L.params.defaults=[])(MJ:L.params.kw_defaults=[])(ha:annTrees L.params none X.env=[])(Ad:L.pm=(X.mg "__name__").getD .none)(hq:qualnameIn X.env L.name L.name=L.qual) (ou:∀n,(n,NameKind.free)∈L.scope.names->X.env.kindOf n=some .cell\/X.env.kindOf n=some .free) (hb:L.body=.stmts L.aL) (hN:X.N.Nodup) (hx:Loc X.env.scope L.name) (hf:X.fn L.name=true\/X.env.scope.names.lookup L.name=some .local):QS X (.FunctionDef L.name L.params L.aL [] none [] L.scope none L.name pos) (oB (FE P L X.env.cells) (hName i)):=
 eZ (GR hi eD B QK MJ ha Ad hq ou hb hN hx hf) λ E σ H h=>Mm (nX h_ E σ H h)
end
structure IV(cells:List (Str×Addr))(cn:List (Str×Nat))(δ:bY)(C:CM):Prop where
 has:∀x j,(x,j)∈cn->∃b d,cells.lookup x=some b/\δ[j]?=some (some d)/\C b=some d
 only:∀b d,C b=some d->∃x j,(x,j)∈cn/\cells.lookup x=some b
 inj:∀x j y i b,(x,j)∈cn->(y,i)∈cn->cells.lookup x=some b->cells.lookup y=some b->x=y
section
variable {X:Cx}{x:Str}{p pos:Pos}{e:Expr}{es:List Expr}{t:dE}{k j:Nat}{ps:List Str}{sp:gc}{cn:List (Str×Nat)}
def Ta(sp:gc)(cells:List (Str×Addr))(cn:List (Str×Nat))(t:dE):bJ:=λ δ M Q=>t δ M λ ds M1=>(∀x j,(x,j)∈cn->∃d,δ[j]?=some (some d))/\∀C,IV cells cn δ C->(∀b d,C b=some d->M1 b=none)->sp ds (iy M1 C) λ d M'=>Q d (gN M' C)
set_option tactic.hygienic true in
theorem GI(d:cR X.prog X.w X.K X.mg X.base k x ps sp)(hr:bf k X.A)(hg:Gl X x)(pV:∀x j,(x,j)∈cn->X.env.kindOf x=some .cell/\X.N[j]?=some x/\X.fn x=true)(hN:X.N.Nodup)(ha:QA X (e::es) t) (hdb:(x==("__debug__":Str))=false:=by decide) (he:starEach (e::es) X.env=(false,eval e X.env)::starEach es X.env:=by rfl) (hpl:(backTo pos (starEach es X.env)).any (·.1)=false:=by rfl):QE X (.Call (.Name x p) (e::es) [] pos) (Ta sp X.env.cells cn t):=by
 obtain⟨f,fd,G,hm,kp,b⟩:=d.ex;refine bK (Ck (cn:=cn) G hr hg hm kp b .nil pV hN ha hdb he hpl) ?_;rintro σ H Q ⟨δ,M,Q2,hs,hm,q,k⟩;refine⟨δ,M,_,hs,hm,q,λ vs H1 ds M1 hd bG t1 ⟨hv,q1⟩=>⟨λ x j hx=>?_,λ C hC un hn=>?_⟩⟩
 ·obtain⟨d,e⟩:=hv x j hx;obtain⟨v,e',_⟩:=hs.get j d e;exact⟨v,e'⟩
 ·have ex:∀b p,C b=some p->∃d,(∃x j,(x,j)∈cn/\X.env.cells.lookup x=some b/\δ[j]?=some (some d))/\Dat X.K H1 d p.2:=λ b p hb=>by obtain⟨y,i,m1,m2⟩:=hC.only b p hb;obtain⟨b',o,v,l1,l2,l3⟩:=hC.has y i m1;rw[m2]at l1;cases l1;rw[hb]at l3;cases l3;obtain⟨d,e⟩:=hv y i m1;obtain⟨v',e',r⟩:=hs.get i d e;rw[l2]at e';cases e';exact⟨d,⟨y,i,m1,m2,e⟩,Dat.mono t1 d r⟩
  let N:CM:=λ b=>match h:C b with
   |some p=>some (ex b p h).choose
   |none=>none
  have N1:∀b p (h:C b=some p),N b=some (ex b p h).choose:=λ b p h=>by
   show(match h:C b with|some p=>some (ex b p h).choose|none=>none)=_;split
   ·rename_i p' h';have:=h.symm.trans h';cases this;rfl
   ·rename_i h';rw[h]at h';cases h'
  have N2:∀b,C b=none->N b=none:=λ b h=>by
   show(match h:C b with|some p=>some (ex b p h).choose|none=>none)=_;split
   ·rename_i p' h';rw[h]at h';cases h'
   ·rfl
  have cr:Ew X.K H1 C N:=⟨λ b p h=>⟨_,N1 b p h,(ex b p h).choose_spec.2⟩,λ b d h=>by
   rcases aB C b with z|⟨p,z⟩
   ·rw[N2 b z]at h;cases h
   ·exact⟨p,z⟩⟩
  have cm:IV X.env.cells cn δ N:=by
   refine⟨λ y i hy=>?_,λ b d hb=>?_,λ x1 j1 y1 i1 b h1 h2 h3 h4=>by
    have e1:=(pV x1 j1 h1).2.1;rw[un x1 j1 y1 i1 b h1 h2 h3 h4,(pV y1 i1 h2).2.1]at e1;exact(A6 e1).symm⟩
   ·obtain⟨b,o,v,l1,l2,l3⟩:=hC.has y i hy;obtain⟨⟨y',i',m1,m2,m3⟩,_⟩:=(ex b (o,v) l3).choose_spec;refine⟨b,(ex b (o,v) l3).choose,l1,?_,N1 b _ l3⟩;have:i'=i:=un y' i' y i b m1 hy m2 l1;rw[<- this];exact m3
   ·obtain⟨p,z⟩:=cr.r b d hb;obtain⟨y,i,m1,m2⟩:=hC.only b p z;exact⟨y,i,m1,m2⟩
  have Ux:∀b d,N b=some d->M1 b=none:=λ b d hb=>let⟨p,z⟩:=cr.r b d hb;bG.free (hn b p z)
  have cN:∀b,C b=none↔N b=none:=cr.none;refine⟨ds,iy M1 N,_,?_,bG.ck hn cr,q1 N cm Ux,λ v H' d M' jz cE t' q'=>?_⟩
  ·rw[A1];exact ay.mono (lZ hn) ds hd
  ·have hf:∀b p,C b=some p->∃o v,H' b=some (fO o b v):=λ b p z=>⟨_,_,t'.ck _ _ _ (ij z)⟩;have ts:=qr hf;refine k v (fZ H' C) d (gN M' N) (Dat.mon ts d jz) (cE.AH hf cN) (t1.trans ?_) q';have tt:=(lZ hn).trans t';have ne:∀b u,H1 b=some u->C b=none:=λ b u e=>by
    rcases aB C b with z|⟨p,z⟩
    ·exact z
    ·rw[hn b p z]at e;cases e
   exact⟨λ b xs e=>by rw[aR (ne b _ e)];exact tt.tup b xs e,λ b o u e=>by rw[aR (ne b _ e)];exact tt.ck b o u e⟩
end
end L3
namespace L3
open PySem PySem.Spec PyProof.Rows L2 L5
abbrev tW:=List D->List D->Mem->bu->Prop
def N9(K:J8)(sp:tW):Rt:=λ vs eS H Q=>∃ds cs M Q2,ay K H ds vs/\ay K H cs eS/\RelM K H M/\sp ds cs M Q2/\iB K H Q2 Q
abbrev zY(P:Program)(w:World)(K:J8)(mg:Str->Option Value)(base:Heap)(k:Nat)(L:iA)(ps fv:List Str)(sp:tW):Prop:=qk P w K mg base k L ps fv (N9 K sp)
structure zX(M:Mem)(f:Addr)(L:iA)(fv:List Str)(cs:List D)(C:CM):Prop where
 ex:∃cl,M f=some (.hX (.lam L cl))/\(∀x y b,cl.lookup x=some b->cl.lookup y=some b->x=y)/\(∀x b,cl.lookup x=some b->x∈fv/\∃d,C b=some d)/\∀(i:Nat) (x:Str) (d:D),fv[i]?=some x->cs[i]?=some d->∃b,cl.lookup x=some b/\C b=some d
 len:cs.length=fv.length
 xX:∀b d,C b=some d->M b=some (.hX (.xX d))
theorem xN{K:J8}{H:Hp}:∀{ds:List D} {vs:List V},ds.length=vs.length->(∀(i:Nat) (d:D) (v:V),ds[i]?=some d->vs[i]?=some v->Dat K H d v)->ay K H ds vs
 |[],[],_,_=>av.mpr rfl
 |d::ds,v::vs,hl,h=>aj.mpr ⟨v,vs,rfl,h 0 d v rfl rfl,xN (by simpa using hl) λ i d' v' a b=>h (i+1) d' v' (by simpa using a) (by simpa using b)⟩
section
variable {X:Cx}{k:Nat}{x:Str}{p pos:Pos}{e:Expr}{es:List Expr}{t:dE}{i:Nat}
def S'(P:Program)(w:World)(K:J8)(mg:Str->Option Value)(base:Heap)(k:Nat)(i:Nat)(t:dE):bJ:=λ δ M Q=>∃f,δ[i]?=some (some (.ref f))/\(∃L cl,M f=some (.hX (.lam L cl)))/\t δ M λ ds M1=>∃(L:iA) (ps fv:List Str) (sp:tW) (cs:List D) (C:CM),
 zY P w K mg base k L ps fv sp/\zX M1 f L fv cs C/\sp ds cs (gN M1 C) λ d M'=>Q d (iy M' C)
set_option tactic.hygienic true in
theorem GH(hr:bf k X.A)(hi:X.N[i]?=some x)(hv:IU X.env.scope x)(ha:QA X (e::es) t)(hd:(x==("__debug__":Str))=false:=by decide)(hcd:(x==("__classdict__":Str))=false:=by decide) (he:starEach (e::es) X.env=(false,eval e X.env)::starEach es X.env:=by rfl) (hpl:(backTo pos (starEach es X.env)).any (·.1)=false:=by rfl):QE X (.Call (.Name x p) (e::es) [] pos) (S' X.prog X.w X.K X.mg X.base k i t):=by
 refine bK (Cj hr hi hv ha hd hcd he hpl) ?_;rintro σ H Q ⟨δ,M,Q2,hs,hm,⟨f,ef,⟨L0,Wy,el⟩,q⟩,kk⟩;obtain⟨v,ev,rv⟩:=hs.get i _ ef;cases(aG.mp rv);obtain⟨c0,⟨o0,h0⟩,_⟩:=hm f _ el;refine⟨f,ev,⟨o0,L0,c0,Wy,h0⟩,δ,M,_,hs,hm,q,λ vs H1 ds M1 hd bG t1 ⟨L,ps,fv,sp,cs,C,ok,at',q1⟩=>?_⟩;obtain⟨cl,hl,inj,MY,val⟩:=at'.ex;obtain⟨c,hf,hc⟩:=bG f _ hl;have ex:∀b d,C b=some d->∃p:Obj×V,H1 b=some (fO p.1 b p.2)/\Dat X.K H1 d p.2:=λ b d z=>let⟨o,v,a,r⟩:=bG b _ (at'.xX b d z);⟨(o,v),a,r⟩
 let N:gV:=λ b=>match h:C b with
  |some d=>some (ex b d h).choose
  |none=>none
 have N1:∀b d (h:C b=some d),N b=some (ex b d h).choose:=λ b d h=>by
  show(match h:C b with|some d=>some (ex b d h).choose|none=>none)=_;split
  ·rename_i p' h';have:=h.symm.trans h';cases this;rfl
  ·rename_i h';rw[h]at h';cases h'
 have N2:∀b,C b=none->N b=none:=λ b h=>by
  show(match h:C b with|some d=>some (ex b d h).choose|none=>none)=_;split
  ·rename_i p' h';rw[h]at h';cases h'
  ·rfl
 have Nb:∀b p,N b=some p->∃d,C b=some d/\H1 b=some (fO p.1 b p.2)/\Dat X.K H1 d p.2:=λ b p h=>by
  rcases cM C b with z|⟨d,z⟩
  ·rw[N2 b z]at h;cases h
  ·rw[N1 b d z]at h;cases h;exact⟨d,z,(ex b d z).choose_spec⟩
 have hN:∀b,N b=none↔C b=none:=λ b=>by
  constructor
  ·intro h;rcases cM C b with z|⟨d,z⟩
   ·exact z
   ·rw[N1 b d z]at h;cases h
  ·exact N2 b
 have QN:∀b p,N b=some p->∃o v,H1 b=some (fO o b v):=λ b p h=>let⟨_,_,a,_⟩:=Nb b p h;⟨_,_,a⟩
 have ts:=qr QN;let eS:List V:=fv.map λ y=>((cl.lookup y).bind N).elim V.aY (·.2)
 have cv:∀(j:Nat) (y:Str) (d:D),fv[j]?=some y->cs[j]?=some d->∃b p,cl.lookup y=some b/\C b=some d/\N b=some p/\eS[j]?=some p.2:=λ j y d h1 h2=>by obtain⟨b,a1,a2⟩:=val j y d h1 h2;refine⟨b,_,a1,a2,N1 b d a2,?_⟩;show(fv.map _)[j]?=_;rw[x3,h1];show some (((cl.lookup y).bind N).elim V.aY (·.2))=_;rw[a1];show some ((N b).elim V.aY (·.2))=_;rw[N1 b d a2];rfl
 have lc:eS.length=fv.length:=A8 ..;refine⟨L,ps,fv,_,eS,N,ok,⟨⟨c,cl,hf,hc,inj,λ y b h=>?_,λ j y v h1 h2=>?_⟩,lc,λ b p h=>(Nb b p h).choose_spec.2.1⟩,ds,cs,gN M1 C,_,ay.mon ts ds hd,?_,bG.AH QN hN,q1,λ v H' d M' jz cE t' q' ou=>?_⟩
 ·obtain⟨a,d,b'⟩:=MY y b h;exact⟨a,_,N1 b d b'⟩
 ·have lt:j < cs.length:=by rw[at'.len];exact(i4.mp h1).1
  obtain⟨b,p,a1,a2,a3,a4⟩:=cv j y _ h1 (i7 lt);rw[h2]at a4;cases a4;exact⟨b,p.1,a1,a3⟩
 ·refine xN (by rw[lc,at'.len]) λ j d v h1 h2=>?_;have lt:j < fv.length:=by rw[<- at'.len];exact(i4.mp h1).1
  obtain⟨b,p,a1,a2,a3,a4⟩:=cv j _ d (i7 lt) h1;rw[h2]at a4;cases a4;obtain⟨d',z1,_,z2⟩:=Nb b p a3;rw[a2]at z1;cases z1;exact Dat.mon ts d z2
 ·have cr:Ew X.K H' N C:=⟨λ b p h=>let⟨d,z,_,r⟩:=Nb b p h;⟨d,z,Dat.mono t' d (Dat.mon ts d r)⟩,λ b d z=>⟨_,N1 b d z⟩⟩;have t2:=lZ ou;refine kk v (iK H' N) d (iy M' C) (Dat.mono t2 d jz) (cE.ck ou cr) (t1.trans ⟨λ b xs e=>?_,λ b o u e=>?_⟩) q'
  ·rcases aB N b with z|⟨p,z⟩
   ·rw[bp z];exact t'.tup b xs (by rw[aR z];exact e)
   ·obtain⟨_,_,a,_⟩:=Nb b p z;rw[a]at e;cases e
  ·rcases aB N b with z|⟨p,z⟩
   ·rw[bp z];exact t'.ck b o u (by rw[aR z];exact e)
   ·obtain⟨_,_,a,_⟩:=Nb b p z;rw[a]at e;rw[ij z];exact e
end
abbrev Kf(ds cs:List D)(lo:List Str):bY:=(ds++cs).map some++lo.map λ _=>none
theorem DW{P:Program}{w:World}{K:J8}{mg:Str->Option Value}{base:Heap}{k:Nat}{L:iA}{ps fv:List Str}{sp:tW}(lo:List Str)(S:gS ps fv lo L.scope)(len:∀ds cs M Q,sp ds cs M Q->ds.length=ps.length) (nJ:∀(cl:List (Str×Addr)) (c:Addr) (doc fJ:Value) (us:List Value),us.length=ps.length->bindArgs (HM L cl c doc fJ) ⟨us,[]⟩=pure (ps.zip us)) (hb:L.body=.stmts L.aL) (bW:∀(A:Around) (outer:List Env) (s:Shared) (H:Hp) (f c:Addr) (cl:List (Str×Addr)) (ds cs:List D) (M:Mem) (Q:bu),bf k (A.deeper (PySem.W.envX L.qual L.scope s.heap.objs.size f (.ref c) cl))->sp ds cs M Q->
   ∃t,zU (qc P w K mg base (ps++fv++lo) L.qual L.scope f c cl A outer s H) L.aL t/\t {nx:=λ _ M'=>fin2 Q .aY M',rt:=fin2 Q} (Kf ds cs lo) M):zY P w K mg base (k+1) L ps fv sp:=by
 refine Ir lo S (λ vs eS H Q h=>?_) nJ hb λ A outer s H f c cl vs eS Q hr h=>?_
 ·obtain⟨ds,cs,M,Q2,hd,_,_,hs,_⟩:=h;rw[hd.length];exact len ds cs M Q2 hs
 ·obtain⟨ds,cs,M,Q2,hd,hc,hm,hs,kk⟩:=h;obtain⟨t,ht,q⟩:=bW A outer s H f c cl ds cs M Q2 hr hs;have ll:=(hd.append hc).length;refine⟨_,ht,Kf ds cs lo,M,_,⟨?_,λ i d e=>?_⟩,hm,q,⟨?_,?_,?_,?_⟩⟩
  ·rw[r6,r6,A8,A8,A8,ll,A8]
  ·have ig:i < ((ds++cs).map some).length:=by
    rcases Nat.lt_or_ge i ((ds++cs).map some).length with z|z
    ·exact z
    ·rw[c5 z,x3]at e;cases e2:lo[i - ((ds++cs).map some).length]? with
     |none=>rw[e2]at e;cases e
     |some a=>rw[e2]at e;cases e
   rw[h8 ig,x3]at e;rw[A8,<- ll]at ig;cases z:(ds++cs)[i]? with
   |none=>rw[z]at e;cases e
   |some d'=>rw[z]at e;cases e;obtain⟨v,a,r⟩:=(hd.append hc).get z;exact⟨v,by rw[h8 (by rw[A8];exact ig),x3,a];rfl,r⟩
  ·exact λ σ' H' δ' M' _ cE t' ⟨og,s,q⟩=>kk _ H' .aY og (cq.mpr rfl) (cE.sub s) t' q
  ·exact λ v H' d M' jz cE t' ⟨og,s,q⟩=>kk v H' d og jz (cE.sub s) t' q
  ·exact λ σ' H' δ' M' _ cE t' q=>q
  ·exact λ σ' H' δ' M' _ cE t' q=>q
end L3
namespace L2
open PySem PySem.Spec PyProof.Rows
structure jI(K:J8)(x qual:Str)(st:Stmt)(dV:Value)(c f:Addr)(fd:FuncData):Prop where
 ex:∃(oc:Value) (od:Option Addr) (kV doc pm:Value) (an:Option Addr) (ct:Value) (pK:Array (Option Value)),
  fd=PySem.W.fnOf x qual (bz st) (aP st) (aq st) dV kV doc pm an (.ref c) ct/\K.lookup f=some ⟨oc,od,.func fd,pK⟩/\PySem.W.codeIn K (.ref c) qual=true
 kp:PySem.W.keepIn K (.ref f)=true
section
variable {P:Program}{w:World}{K:J8}{mg:Str->Option Value}{base:Heap}
theorem jI.ok {x qual:Str}{st:Stmt}{dV:Value}{c f:Addr}{fd:FuncData}{N ps:List Str}{k:Nat}{sp:Sp}(F:jI K x qual st dV c f fd)(S:cu N ps (aq st))(len:∀vs H Q E,sp vs H Q E->vs.length=ps.length) (bW:∀(A:Around) (outer:List Env) (s:Shared) (H:Hp) (vs:List V) (Q:VK) (E:XK),bf k (A.deeper (envOfC qual (aq st) s.heap.objs.size f (.ref c)))->sp vs H Q E->
   ∃t,nZ (lB di P w K mg base N qual (aq st) f (.ref c) A outer s H E).sQ (aP st) t/\t {nx:=λ _ H'=>Q .aY H',rt:=Q} (start N vs) H):aX P w K mg base di (k+1) f fd ps sp:=by
 obtain⟨oc,od,kV,doc,pm,an,ct,pK,rfl,lk,hcd⟩:=F.ex;refine DG lk hcd S len λ A outer s H vs Q E hr vp=>?_;obtain⟨t,h,q⟩:=bW A outer s H vs Q E hr vp;exact⟨t,h.sQ,q⟩
theorem Ii{x qual:Str}{st:Stmt}{c f:Addr}{oc:Value}{od an:Option Addr}{pK:Array (Option Value)}{dV kV doc pm ct:Value}(l:K.lookup f=some ⟨oc,od,.func (PySem.W.fnOf x qual (bz st) (aP st) (aq st) dV kV doc pm an (.ref c) ct),pK⟩) (e:PySem.W.codeIn K (.ref c) qual=true) (k:PySem.W.keepIn K (.ref f)=true):jI K x qual st dV c f (PySem.W.fnOf x qual (bz st) (aP st) (aq st) dV kV doc pm an (.ref c) ct):=⟨⟨oc,od,kV,doc,pm,an,ct,pK,rfl,l,e⟩,k⟩
theorem jI.binds {x qual:Str}{st:Stmt}{dV:Value}{c f:Addr}{fd:FuncData}{ps:List Str}{ds:List Value}(F:jI K x qual st dV c f fd) (h:∀(kV doc pm:Value) (an:Option Addr) (ct:Value) (s:Shared),K.In s.heap->∀(us:List Value),(us++ds).length=ps.length->BindsTo s (PySem.W.fnOf x qual (bz st) (aP st) (aq st) dV kV doc pm an (.ref c) ct) ⟨us,[]⟩ (ps.zip (us++ds))):Binds K fd ps ds:=by obtain⟨oc,od,kV,doc,pm,an,ct,pK,rfl,lk,hcd⟩:=F.ex;exact λ s us hk hl=>h kV doc pm an ct s hk us hl
theorem iD.VE {k:Nat}{x qual:Str}{ps:List Str}{sp:Sp}{st:Stmt}{dV:Value}{c f:Addr}{fd:FuncData}(F:jI K x qual st dV c f fd)(G:aX P w K mg base di k f fd ps sp)(hm:mg x=some (.ref f))(b:Binds K fd ps []):iD P w K mg base k x ps sp:=⟨f,fd,G,hm,F.kp,b⟩
end
def vD(s:Stmt)(j:Nat)(q:Str)(mg:Str->Option Value):iA:=match(aP s)[j]? with
 |some (.FunctionDef n a b _ _ _ c _ _ _)=>⟨n,q,a,.stmts b,c,(mg "__name__").getD .none⟩
 |_=>⟨q,q,bz s,.stmts [],aq s,.none⟩
end L2
namespace L4
open PySem PySem.Spec L2 L3
section
variable {P:Program}{w:World}{K:J8}{mg:Str->Option Value}{base:Heap}
theorem VD{x qual:Str}{st:Stmt}{dV:Value}{c f:Addr}{fd:FuncData}{ps:List Str}{k:Nat}{sp:gc}(F:jI K x qual st dV c f fd)(N:List Str) (bW:∀(A:Around) (outer:List Env) (s:Shared) (H:Hp) (E:XK) (ds:List D) (M:Mem) (Q:bu),N.Nodup->bf k (A.deeper (PyProof.Rows.envOfC qual (aq st) s.heap.objs.size f (.ref c)))->sp ds M Q->
   ∃t,zP (lB di P w K mg base N qual (aq st) f (.ref c) A outer s H E).sQ (aP st) t/\t {nx:=λ _ M'=>fin2 Q .aY M',rt:=fin2 Q} (dQ N ds) M) (len:∀ds M Q,sp ds M Q->ds.length=ps.length:=by intro ds M Q;walk_at "len") (S:cu N ps (aq st):=by exact⟨rfl,rfl,rfl,by decide+kernel,rfl,by decide+kernel,by decide+kernel⟩):aX P w K mg base di (k+1) f fd ps (cw K sp):=by
 refine F.ok S (λ vs H Q E h=>?_) (λ A outer s H vs Q E hr h=>?_)
 ·obtain⟨ds,M,Q2,hd,_,hs,_⟩:=h;rw[hd.length];exact len ds M Q2 hs
 ·obtain⟨ds,M,Q2,hd,hm,hs,kk⟩:=h;obtain⟨t,ht,q⟩:=bW A outer s H E ds M Q2 S.nd hr hs;refine⟨_,ht.h,dQ N ds,M,_,jR hd,hm,q,⟨?_,?_,?_,?_⟩⟩
  ·exact λ σ' H' δ' M' _ cE t' ⟨og,s,q⟩=>kk _ H' .aY og (cq.mpr rfl) (cE.sub s) t' q
  ·exact λ v H' d M' jz cE t' ⟨og,s,q⟩=>kk v H' d og jz (cE.sub s) t' q
  ·exact λ σ' H' δ' M' _ cE t' q=>q
  ·exact λ σ' H' δ' M' _ cE t' q=>q
theorem Q3{k:Nat}{L:iA}{ps fv:List Str}{sp:tW}(lo:List Str)(S:gS ps fv lo L.scope)(len:∀ds cs M Q,sp ds cs M Q->ds.length=ps.length) (nJ:∀(cl:List (Str×Addr)) (c:Addr) (doc fJ:Value) (us:List Value),us.length=ps.length->bindArgs (HM L cl c doc fJ) ⟨us,[]⟩=pure (ps.zip us)) (bW:∀(A:Around) (outer:List Env) (s:Shared) (H:Hp) (f c:Addr) (cl:List (Str×Addr)) (ds cs:List D) (M:Mem) (Q:bu),bf k (A.deeper (PySem.W.envX L.qual L.scope s.heap.objs.size f (.ref c) cl))->sp ds cs M Q->
   ∃t,zP (qc P w K mg base (ps++fv++lo) L.qual L.scope f c cl A outer s H) L.aL t/\t {nx:=λ _ M'=>fin2 Q .aY M',rt:=fin2 Q} (Kf ds cs lo) M) (hb:L.body=.stmts L.aL:=by rfl):zY P w K mg base (k+1) L ps fv sp:=
 DW lo S len nJ hb λ A outer s H f c cl ds cs M Q hr h=>let⟨t,a,b⟩:=bW A outer s H f c cl ds cs M Q hr h;⟨t,a.h,b⟩
end
section
variable {X:Cx}{L:iA}{c P:Addr}{pos p:Pos}{x:Str}{e:Expr}{es:List Expr}{t:dE}{k i:Nat}{ps:List Str}{sp:gc}{cn:List (Str×Nat)}
theorem EZ(i:Nat)(eD:X.env.code=.ref c)(B:EL X.mg X.base c P)(QK:L.params.defaults=[])(MJ:L.params.kw_defaults=[])(ha:annTrees L.params none X.env=[])(Ad:L.pm=(X.mg "__name__").getD .none)(hq:qualnameIn X.env L.name L.name=L.qual) (ou:∀n,(n,NameKind.free)∈L.scope.names->X.env.kindOf n=some .cell\/X.env.kindOf n=some .free) (hb:L.body=.stmts L.aL) (hi:X.N[i]?=some L.name) (hN:X.N.Nodup) (hx:Loc X.env.scope L.name) (hf:X.fn L.name=true\/X.env.scope.names.lookup L.name=some .local):WS X (.FunctionDef L.name L.params L.aL [] none [] L.scope none L.name pos) (oB (FE P L X.env.cells) (hName i)):=⟨Gr hi eD B QK MJ ha Ad hq ou hb hN hx hf⟩
theorem Fe(d:cR X.prog X.w X.K X.mg X.base k x ps sp)(hr:bf k X.A)(hg:Gl X x)(pV:∀x j,(x,j)∈cn->X.env.kindOf x=some .cell/\X.N[j]?=some x/\X.fn x=true)(hN:X.N.Nodup)(ha:WA X (e::es) t) (hdb:(x==("__debug__":Str))=false:=by decide) (he:starEach (e::es) X.env=(false,eval e X.env)::starEach es X.env:=by rfl) (hpl:(backTo pos (starEach es X.env)).any (·.1)=false:=by rfl):WE X (.Call (.Name x p) (e::es) [] pos) (Ta sp X.env.cells cn t):=⟨GI d hr hg pV hN ha.h hdb he hpl⟩
theorem Fd(hr:bf k X.A)(hi:X.N[i]?=some x)(hv:IU X.env.scope x)(ha:WA X (e::es) t)(hd:(x==("__debug__":Str))=false:=by decide)(hcd:(x==("__classdict__":Str))=false:=by decide) (he:starEach (e::es) X.env=(false,eval e X.env)::starEach es X.env:=by rfl) (hpl:(backTo pos (starEach es X.env)).any (·.1)=false:=by rfl):WE X (.Call (.Name x p) (e::es) [] pos) (S' X.prog X.w X.K X.mg X.base k i t):=⟨GH hr hi hv ha.h hd hcd he hpl⟩
end
theorem KR{P:Addr}{L:iA}{cells:List (Str×Addr)}{δ:bY}{M:Mem}{Q:bu}(h:M P=some (.hX (.lM L.qual)))(q:∀f,M f=none->(∀x d,cells.lookup x=some d->d≠f)->Q (.ref f) (af M f (.hX (.lam L (bc cells L.scope.names []))))):FE P L cells δ M Q:=⟨h,q⟩
theorem OD{sp:gc}{cells:List (Str×Addr)}{cn:List (Str×Nat)}{t:dE}{δ:bY}{M:Mem}{Q:bu}(h:t δ M λ ds M1=>(∀x j,(x,j)∈cn->∃d,δ[j]?=some (some d))/\∀C,IV cells cn δ C->(∀b d,C b=some d->M1 b=none)->sp ds (iy M1 C) λ d M'=>Q d (gN M' C)):Ta sp cells cn t δ M Q:=h
theorem OC{P:Program}{w:World}{K:J8}{mg:Str->Option Value}{base:Heap}{k i:Nat}{t:dE}{δ:bY}{M:Mem}{Q:bu}{f:Addr}(e:δ[i]?=some (some (.ref f)))(hl:∃L cl,M f=some (.hX (.lam L cl))) (h:t δ M λ ds M1=>∃(L:iA) (ps fv:List Str) (sp:tW) (cs:List D) (C:CM),zY P w K mg base k L ps fv sp/\zX M1 f L fv cs C/\sp ds cs (gN M1 C) λ d M'=>Q d (iy M' C)):S' P w K mg base k i t δ M Q:=⟨f,e,hl,h⟩
end L4
namespace L2
open PySem PySem.Spec PyProof.Rows
def ye(H:Hp)(ts:List Addr):Prop:=(∀b,H b=none\/(∃o xs,H b=some (.ck o (.lst xs)))\/H b=some (.lM #[]))/\∀t∈ts,H t=some (.lM #[])
theorem zh{P:Program}{w:World}{K:J8}{mg mb:Str->Option Value}{CX:Eu}{k:Nat}{fa a:Addr}{fd:FuncData}{x:Str}{sp:Sp}{s₁:Shared}{vs:List Value}{ns:List Int}{tabs:List (Addr×Addr)} (KX:K.In s₁.heap) (Qk:s₁.heap.Ns mainGlobals mg) (hb:s₁.heap.Ns builtinsNs mb) (YD:∀x:Str,x≠"__name__"->mb x=bootBuiltins x) (Uz:s₁.heap.NoLimit) (hg:s₁.gens=#[]) (YC:∃bm ob,mg "__builtins__"=some (.ref bm)/\bm≠builtinsNs/\s₁.heap.get? bm=some ob/\ob.cls=.type "module"/\ob.dict=some builtinsNs/\ob.data=.plain) (hT:∀q∈tabs,s₁.heap.get? q.2=some (PySem.W.tabObj #[])/\K.lookup q.2=none/\PySem.W.CodeHd s₁.heap q.1 q.2) (ha:s₁.heap.get? a=some {cls:=.type "list",data:=.seq vs.toArray}) (hi:IntsAre vs ns) (hl:ns.length<=sizeLine) (hr:bf k callerA) (F:∀base:Heap,K.In base->(∀q∈tabs,EL mg base q.1 q.2)->aX P w K mg base CX k fa fd [x] sp) (nJ:∀(s:Shared) (u:Value),BindsTo s fd ⟨[u],[]⟩ [(x,u)]) (vp:∀H:Hp,ye H (tabs.map (·.2))->fb K H a (ns.map V.int)->sp [.ref a] H (λ v _=>v=.bl true) λ _ _ _=>False) (UP:∀H e s',CX [] H s₁ (λ _ _ _=>False) e s'->False):codeAny (model P w) callerA (.call (.ref fa) ⟨[.ref a],[]⟩) (λ r s'=>r=.ok (.ret (.bool true))/\OldK s₁.heap s'.heap/\s'.os=s₁.os/\AllBare s'.gens) s₁:=by
 have rv:=pb hi;have TZ:=hi.length;have tg:∀t∈tabs.map (·.2),s₁.heap.get? t=some (PySem.W.tabObj #[])/\K.lookup t=none:=λ t ht=>by obtain⟨q,hq,rfl⟩:=C9.mp ht;exact⟨(hT q hq).1,(hT q hq).2.1⟩
 have at':a∉tabs.map (·.2):=λ h=>by have:=(tg a h).1;rw[ha]at this;cases this
 have core:∀H:Hp,ye H (tabs.map (·.2))->fb K H a (ns.map V.int)->dX P w H s₁.heap->(∀b,H b≠none->b=a\/b∈tabs.map (·.2))->(H a≠none->K.lookup a=none)->
   codeAny (model P w) callerA (.call (.ref fa) ⟨[.ref a],[]⟩) (λ r s'=>r=.ok (.ret (.bool true))/\OldK s₁.heap s'.heap/\s'.os=s₁.os/\AllBare s'.gens) s₁:=by
  intro H hO hS aK hA hK;have ml:∀{b:Addr} {o:Obj},s₁.heap.get? b=some o->H b=none->(oH s₁.heap H).get? b=some o:=λ e n=>Dt e n;have CB:∀{b:Addr} {o:Obj},s₁.heap.get? b=some o->o≠PySem.W.tabObj #[]->(∀us n,o.data≠.seq us n)->H b=none:=λ{b o} e d1 d2=>by
   cases q:H b with
   |none=>rfl
   |some u=>
    rcases hA b (by rw[q];simp)with e'|e'
    ·subst e';rw[ha]at e;cases e;exact absurd rfl (d2 _ _)
    ·rw[(tg b e').1]at e;cases e;exact absurd rfl d1
  have Xm:∀{b:Addr} {o:Obj} {es:Array DictEntry} {ep:Nat},s₁.heap.get? b=some o->o.data=.dict es ep->H b=none:=λ{b o es ep} e d=>CB e (λ z=>by rw[z]at d;cases d) λ us n z=>by rw[d]at z;cases z
  have TL:∀{b:Addr} {m:Str->Option Value},s₁.heap.Ns b m->(oH s₁.heap H).Ns b m:=λ{b m} ⟨o,es,ep,e,d,r⟩=>⟨o,es,ep,ml e (Xm e d),d,r⟩;have Wd:K.In (oH s₁.heap H):=λ b o e=>ml (KX b o e) (by
   cases q:H b with
   |none=>rfl
   |some u=>
    rcases hA b (by rw[q];simp)with e'|e'
    ·subst e';rw[hK (by rw[q];simp)]at e;cases e
    ·rw[(tg b e').2]at e;cases e)
  have hM:Mod K mg (oH s₁.heap H):=⟨Wd,TL Qk,⟨mb,TL hb,YD⟩,let⟨mc,h1,h2⟩:=Uz;⟨mc,TL h1,h2⟩⟩;have UK:∀q∈tabs,EL mg (oH s₁.heap H) q.1 q.2:=λ q hq=>by
   refine⟨?_,?_⟩
   ·obtain⟨bm,ob,b1,b2,b3,b4,b5,b6⟩:=YC;exact⟨bm,ob,b1,b2,ml b3 (CB b3 (λ z=>by rw[z]at b4;cases b4) λ us n z=>by rw[b6]at z;cases z),b4,b5,b6⟩
   ·obtain⟨o,vs,file,tf,flags,tg,R7,text,tt,e,e1,e2,r⟩:=(hT q hq).2.2;exact⟨o,vs,file,tf,flags,tg,R7,text,tt,ml e (CB e (λ z=>by rw[z]at e1;cases e1) λ us n z=>by rw[e2]at z;cases z),e1,e2,r⟩
  have e0:iR P w K mg (oH s₁.heap H) callerA [] s₁ H:=⟨rfl,hM,λ b o e=>Hy e,Nat.le_of_eq (zt _ _),trivial,λ b hb=>absurd (show b∈([]:List Addr)from hb) (by simp),aK,.of_eq hg⟩;refine D5 ((F _ Wd UK).run callerA [] s₁ H ⟨[.ref a],[]⟩ [.ref a] [.ref a] _ _ hr e0 (nJ s₁ (.ref a)) (.cons rfl .nil) (vp H hO hS)) λ r s' h=>?_;cases r with
  |error e=>exact(UP H e s' h).elim
  |ok fl=>
   cases fl with
   |next=>exact False.elim h
   |brk=>exact False.elim h
   |cont=>exact False.elim h
   |ret u=>
    obtain⟨v,H',os,bare,un,Qi,r',q⟩:=h;have q':v=.bl true:=q;subst q';obtain rfl:u=Value.bool true:=r';refine⟨rfl,⟨λ b o e=>?_,λ b o e=>un.there b o e (by simp)⟩,os,bare⟩;cases q:H b with
    |none=>exact .inl (un.keep b o e q (by intro z;exact absurd (show b∈([]:List Addr)from z) (by simp)) (by simp))
    |some u=>
     rcases hO.1 b with z|⟨ob,xs,z⟩|z
     ·rw[q]at z;cases z
     ·have z2:=un.dD b ob _ z;obtain⟨e1,_⟩:=aK b _ z;obtain⟨e2,_⟩:=Qi b _ z2;rw[e]at e1;cases e1;exact .inl e2
     ·obtain⟨more,z2⟩:=un.d_ b _ z;have e1:s₁.heap.get? b=some (PySem.W.tabObj #[]):=aK b _ z;have e2:s'.heap.get? b=some (PySem.W.tabObj (#[]++more)):=Qi b _ z2;rcases hA b (by rw[q];simp)with e'|e'
      ·subst e';rw[ha]at e1;cases e1
      ·obtain⟨t,ht,rfl⟩:=C9.mp e';rw[e]at e1;cases e1;exact .inr (.inl ⟨((hT t ht).2.2.tab (hT t ht).1).isCodeTable,rfl,#[],more,rfl,e2⟩)
 cases hk:K.lookup a with
 |some o=>
  have e:=KX a o hk;rw[ha]at e;cases e;refine core (λ b=>if b∈tabs.map (·.2)then some (.lM #[])else none) ⟨λ b=>?_,λ t ht=>J0 ht⟩ (.inr ⟨_,vs.toArray,_,hk,rfl,rfl,rfl,by rw[y3,TZ];exact hl,by simpa using rv⟩) (λ b u z=>?_) (λ b z=>?_) λ z=>absurd (J7 at') z
  ·by_cases hb:b∈tabs.map (·.2)
   ·exact .inr (.inr (J0 hb))
   ·exact .inl (J7 hb)
  ·by_cases hb:b∈tabs.map (·.2)
   ·have z':=(J0 hb).symm.trans z;cases z';exact(tg b hb).1
   ·have z':=(J7 hb).symm.trans z;cases z'
  ·by_cases hb:b∈tabs.map (·.2)
   ·exact .inr hb
   ·exact absurd (J7 hb) z
 |none=>
  refine core (λ b=>if b=a then some (.ck {cls:=.type "list",data:=.seq vs.toArray} (.lst (ns.map V.int)))else if b∈tabs.map (·.2)then some (.lM #[])else none) ⟨λ b=>?_,λ t ht=>?_⟩ (.inl (.inr ⟨{cls:=.type "list",data:=.seq vs.toArray},J0 rfl⟩)) (λ b u z=>?_) (λ b z=>?_) λ _=>hk
  ·by_cases hb:b=a
   ·exact .inr (.inl ⟨_,_,J0 hb⟩)
   ·by_cases ht:b∈tabs.map (·.2)
    ·exact .inr (.inr ((J7 hb).trans (J0 ht)))
    ·exact .inl ((J7 hb).trans (J7 ht))
  ·exact(J7 (λ z=>at' (by rw[<- z];exact ht))).trans (J0 ht)
  ·by_cases hb:b=a
   ·have z':=(J0 hb).symm.trans z;cases z';subst hb;exact⟨ha,by rw[A8];exact hl,vs,_,rv,ha⟩
   ·have z:=(J7 hb).symm.trans z;by_cases ht:b∈tabs.map (·.2)
    ·have z':=(J0 ht).symm.trans z;cases z';exact(tg b ht).1
    ·have z':=(J7 ht).symm.trans z;cases z'
  ·by_cases hb:b=a
   ·exact .inl hb
   ·by_cases ht:b∈tabs.map (·.2)
    ·exact .inr ht
    ·exact absurd ((J7 hb).trans (J7 ht)) z
theorem AB{l:PySem.W.OpenLaw}{n k:Nat}{q:Program}{loose:List Str}{XP:(Str->Option Value)->Heap->Prop}{YP:World->Heap->Prop}{d:DefRec}{K:Params->J8}{CX:World->Eu}{sp:World->Sp}{x:Str}{tabs:List (Addr×Addr)}
  (hn:l.most=some n) (Ux:n<=sizeLine) (QJ:d.params.defaults=[]) (hr:bf k callerA)
  (hY:∀(w:World) (h:Heap),YP w h->(K w.params).In h/\∀q∈tabs,h.get? q.2=some (PySem.W.tabObj #[])/\(K w.params).lookup q.2=none/\PySem.W.CodeHd h q.1 q.2)
  (F:∀(w:World) (mg:Str->Option Value) (fa:Addr) (h:Heap),(K w.params).In h->h.Ns mainGlobals mg->mg d.name=some (.ref fa)->
   ∃fd:FuncData,(∀(s:Shared) (u:Value),BindsTo s fd ⟨[u],[]⟩ [(x,u)])/\
    ∀base:Heap,(K w.params).In base->(∀q∈tabs,EL mg base q.1 q.2)->aX l.prog w (K w.params) mg base (CX w) k fa fd [x] (sp w))
  (vp:∀(w:World) (H:Hp) (a:Addr) (ns:List Int),ns.length<=n->ye H (tabs.map (·.2))->fb (K w.params) H a (ns.map V.int)->sp w [.ref a] H (λ v _=>v=.bl true) λ _ _ _=>False)
  (UP:∀(w:World) (H:Hp) (s:Shared) (e:Value) (s':Shared),CX w [] H s (λ _ _ _=>False) e s'->False):
  PySem.W.WalkO q loose XP YP l.row.toRowW d [] (λ f vs=>PySem.call f vs):=by
 refine WM.tV hn QJ λ w s₀ s₁ mg mb fa o pm cd doc a vs ns G Y ho hd hcd Qo Dp hints hlen hg=>?_;obtain⟨KX,hT⟩:=hY w _ Y;obtain⟨fd,hb,hF⟩:=F w mg fa _ KX G.T.g Qo;exact zh KX G.T.g G.T.b G.T.builtins G.T.nolimit hg G.T.bmain hT Dp hints (D3 hlen Ux) hr hF hb (λ H hO hS=>vp w H a ns hlen hO hS) λ H e s'=>UP w H s₁ e s'
end L2
namespace L2
open PySem PySem.Spec PyProof.Rows
section
variable {X:Cx}
def IC(X:Cx)(cn:List (Str×Nat)):Bool:=cn.all λ p=>X.env.kindOf p.1==some .cell&&X.N[p.2]?==some p.1&&X.fn p.1
theorem Rh{cn:List (Str×Nat)}(h:IC X cn=true):∀x j,(x,j)∈cn->X.env.kindOf x=some .cell/\X.N[j]?=some x/\X.fn x=true:=λ x j hx=>by have:=z9.mp h _ hx;rw[z6,z6]at this;exact⟨by simpa using this.1.1,by simpa using this.1.2,this.2⟩
def Ij(X:Cx)(ns:List (Str×NameKind)):Bool:=ns.all λ y=>y.2 != .free||X.env.kindOf y.1==some .cell||X.env.kindOf y.1==some .free
theorem QV{ns:List (Str×NameKind)}(h:Ij X ns=true):∀n,(n,NameKind.free)∈ns->X.env.kindOf n=some .cell\/X.env.kindOf n=some .free:=λ n hn=>by
 have:=z9.mp h _ hn;rw[Bool.or_eq_true,Bool.or_eq_true]at this;rcases this with(h|h)|h
 ·cases h
 ·exact .inl (by simpa using h)
 ·exact .inr (by simpa using h)
theorem qk.mono {P:Program}{w:World}{K:J8}{mg:Str->Option Value}{base:Heap}{j k:Nat}{L:iA}{ps fv:List Str}{sp:Rt}(h:qk P w K mg base j L ps fv sp)(hk:j<=k):qk P w K mg base k L ps fv sp:=
 ⟨h.len,λ A outer s H f c cl us vs eS Q hr=>h.run A outer s H f c cl us vs eS Q (hr.mono hk)⟩
end
end L2
namespace L2
open PySem PySem.Spec PySem.W PyProof.Rows L5
section
variable {X:Cx}
theorem LJ{e:Expr}{t u:TE}(h:PE X e t)(g:PE X e u):PE X e (λ σ H Q=>t σ H Q\/u σ H Q):=λ pins s σ H Q I q=>q.elim (h pins s σ H Q I) (g pins s σ H Q I)
theorem yS{k v:Expr}{tk tv:TE}{pos:Pos}(hk:PE X k tk)(hv:PE X v tv):PE X (.Dict [some k] [v] pos) (λ σ H Q=>∀p,H p=none->tk σ (upd H p (.dK [])) λ x H1=>tv σ H1 λ y H2=>∃ky,x=kV ky/\H2 p=some (.dK [])/\Q (.ref p) (upd H2 p (.dK (putK [] ky y)))):=by
 intro pins s σ H Q I h;refine wpAny_Dict_any rfl rfl (by simp) (by simp) ?_;have I0:Inv X pins σ (upd H s.heap.objs.size (.dK [])) {s with heap:=s.heap.push {cls:=.type "dict",data:=.dict #[]}}:=I.laid (a:=s.heap.objs.size) (o:=.dK []) (t':=s.toks) (λ _ _ q=>j8 _ q) (D8 _) (DT s.heap I.big);refine pairTrees_cons_walk (bZ (hk pins _ σ _ _ I0 (h _ (I.aK.fresh (D8 _)))) λ kv s1 ⟨x,H1,I1,r1,q1⟩=>bZ (hv pins s1 σ H1 _ I1 q1) λ vv s2 ⟨y,H2,I2,r2,q2⟩=>pairTrees_nil_walk ?_);obtain⟨ky,rfl,hp,q⟩:=q2;generalize s.heap.objs.size=p at*;obtain⟨z,nm,xs,rel,dd⟩:=JE I2.aK hp;cases rel;have Dr:(putK [] ky y).length<=sizeLine:=by have:=gF [] ky y;exact D3 this (by decide)
 unfold storeAll;rw[forIn_cons];refine G1 (G1 (wpAny_dictSet_pairs (hsz:=F0 _) (pS r1) dd λ h' Ag hs=>G2 ?_));dsimp only;rw[forIn_nil];have he:∃q,h'.get? p=some q:=let⟨q,_,_,hq,_⟩:=Ag;⟨q,hq⟩
 exact G2 ⟨.ref p,_,jE I2 (by rw[hp];exact True.intro) hs he (DS Dr nm (KV.put .nil ky r2) Ag),rfl,q⟩
end
end L2
namespace L3
open PySem PySem.Spec L2 L5 PyProof.Rows
section
variable {X:Cx}
def uH(tk tv:bJ):bJ:=λ δ M Q=>∃t:Bool,∀p,M p=none->tk δ (af M p (.bI t [])) λ x M1=>tv δ M1 λ y M2=>M2 p=some (.bI t [])/\fW t x/\Q (.ref p) (af M2 p (.bI t [(x,y)]))
theorem GF{k v:Expr}{tk tv:bJ}{pos:Pos}(hu:X.A.units+64 < cLine)(hk:QE X k tk)(hv:QE X v tv):QE X (.Dict [some k] [v] pos) (uH tk tv):=by
 refine bK (LJ (wV (pos:=pos) hu hk hv) (yS (pos:=pos) hk hv)) ?_;rintro σ H Q ⟨δ,M,Q2,hs,hm,⟨t,q⟩,k⟩;cases t with
 |true=>exact .inl ⟨δ,M,Q2,hs,hm,q,k⟩
 |false=>refine .inr λ p hp=>?_;have t0:ah H (upd H p (.dK [])):=ah.laid hp;refine⟨δ,af M p (.bI false []),_,hs.mono t0,hm.put (u:=.bI false []) t0 ⟨[],aD,.nil⟩,q p (hm.free hp),λ x H1 d M1 hd bG t1 q1=>?_⟩;refine⟨δ,M1,_,(hs.mono t0).mono t1,bG,q1,λ y H2 e M2 he jw t2 q2=>?_⟩;obtain⟨iJ,⟨ky,rfl⟩,q2⟩:=q2;obtain⟨xs,hx,rel⟩:=jw p _ iJ;cases rel;have t:=ah.mut (o:=.dK (putK [] ky y)) hx (λ _ z=>by cases z) (λ _ _ z=>by cases z);exact⟨ky,md hd,hx,k _ _ _ _ (aG.mpr rfl) (jw.put (u:=.bI false [(lh ky,e)]) t ⟨_,aD,((Es.put (kvs:=[]) .nil ky he):Es X.K H2 [(lh ky,e)] (putK [] ky y)).mono t⟩) ((t0.trans t1).trans (t2.trans t)) q2⟩
end
end L3
namespace L4
open PySem PySem.Spec L2 L3 L5
theorem wm{X:Cx}{k v:Expr}{tk tv:bJ}{pos:Pos}(hu:X.A.units+64 < cLine)(hk:WE X k tk)(hv:WE X v tv):WE X (.Dict [some k] [v] pos) (uH tk tv):=⟨GF hu hk.h hv.h⟩
theorem sE{tk tv:bJ}{δ:bY}{M:Mem}{Q:bu}(t:Bool)(h:∀p,M p=none->tk δ (af M p (.bI t [])) λ x M1=>tv δ M1 λ y M2=>M2 p=some (.bI t [])/\fW t x/\Q (.ref p) (af M2 p (.bI t [(x,y)]))):uH tk tv δ M Q:=⟨t,h⟩
end L4
namespace L2
open PySem PySem.Spec PyProof.Rows
theorem rq{s:Shared}{fd:FuncData}{args:Args}{binds:List (Str×Value)}{K:J8}{T:Addr}{o:Obj}{items:Array Value}{n:Nat}{k:Option (Array Value)->Sem (List (Str×Value))}(hk:K.In s.heap)(hd:fd.defaults=.ref T)(l:K.lookup T=some o)(hs:o.data=.seq items n) (h1:bindArgs fd args=seqItems? fd.defaults >>= k) (h2:k (some items)=pure binds):BindsTo s fd args binds:=.of_defaults hd (hk _ _ l) hs h1 h2
end L2
namespace L3
open PySem L2
theorem DU{M M':Mem}{C:CM}(h:∀b o,iy M C b=some o->M' b=some o)(n:∀b d,C b=some d->M b=none):∀b o,M b=some o->gN M' C b=some o:=λ b o e=>by
 rcases cM C b with z|⟨d,z⟩
 ·rw[ma z];exact h b o (by rw[jG z];exact e)
 ·rw[n b d z]at e;cases e
end L3
namespace L2
open PySem
theorem jI.Eh {K:J8}{x qual:Str}{st:Stmt}{dV:Value}{c f:Addr}{fd:FuncData}{ps:List Str}(F:jI K x qual st dV c f fd) (h:∀(kV doc pm:Value) (an:Option Addr) (ct:Value) (s:Shared),K.In s.heap->∀(us:List Value),us.length=ps.length->BindsTo s (PySem.W.fnOf x qual (bz st) (aP st) (aq st) dV kV doc pm an (.ref c) ct) ⟨us,[]⟩ (ps.zip us)):Binds K fd ps []:=
 F.binds λ kV doc pm an ct s hk us hl=>by rw[A1]at hl ⊢;exact h kV doc pm an ct s hk us hl
end L2
namespace KK
abbrev Cs:=List Nat
def inc:Cs->Nat->Cs
 |[],_=>[]
 |a::as,0=>(a+1)::as
 |a::as,l+1=>a::inc as l
theorem ju:∀(p:Cs) (l:Nat),(inc p l).length=p.length
 |[],_=>rfl
 |a::as,0=>rfl
 |a::as,l+1=>by show(inc as l).length+1=_;rw[ju as l];rfl
theorem eB:∀{p:Cs} {l:Nat},l < p.length->(inc p l).sum=p.sum+1
 |a::as,0,_=>by show a+1+as.sum=a+as.sum+1;omega
 |a::as,l+1,h=>by have:=eB (p:=as) (l:=l) (by simpa using h);show a+(inc as l).sum=a+as.sum+1;omega
def vf:Cs->Cs->Prop
 |a::as,b::bs=>b < a\/(a=b/\vf as bs)
 |_,_=>False
theorem qP:∀p:Cs,¬vf p p
 |[],h=>h
 |a::as,h=>h.elim (λ h=>C1 _ h) λ h=>qP as h.2
theorem pP:∀{p q r:Cs},vf p q->vf q r->vf p r
 |a::as,b::bs,c::cs,h,g=>by
  rcases h with h|⟨rfl,h⟩
  ·rcases g with g|⟨rfl,g⟩
   ·exact .inl (by omega)
   ·exact .inl h
  ·rcases g with g|⟨rfl,g⟩
   ·exact .inl g
   ·exact .inr ⟨rfl,pP h g⟩
 |[],_,_,h,_=>h.elim
 |_::_,[],_,h,_=>h.elim
 |_::_,_::_,[],_,g=>g.elim
theorem xl:∀{p q:Cs},p.length=q.length->p=q\/vf p q\/vf q p
 |[],[],_=>.inl rfl
 |a::as,b::bs,h=>by
  rcases Nat.lt_trichotomy a b with z|z|z
  ·exact .inr (.inr (.inl z))
  ·subst z;rcases xl (p:=as) (q:=bs) (by simpa using h)with e|e|e
   ·exact .inl (by rw[e])
   ·exact .inr (.inl (.inr ⟨rfl,e⟩))
   ·exact .inr (.inr (.inr ⟨rfl,e⟩))
  ·exact .inr (.inl (.inl z))
theorem xo:∀{p q:Cs} {l:Nat},vf p q->vf (inc p l) (inc q l)
 |a::as,b::bs,0,h=>by
  rcases h with h|⟨rfl,h⟩
  ·exact .inl (by omega)
  ·exact .inr ⟨rfl,h⟩
 |a::as,b::bs,l+1,h=>by
  rcases h with h|⟨rfl,h⟩
  ·exact .inl h
  ·exact .inr ⟨rfl,xo h⟩
 |[],_,_,h=>h.elim
 |_::_,[],_,h=>h.elim
theorem sX:∀{p:Cs} {i j:Nat},i < j->i < p.length->vf (inc p i) (inc p j)
 |a::as,0,j+1,_,_=>.inl (by omega)
 |a::as,i+1,j+1,h,g=>.inr ⟨rfl,sX (by omega) (by simpa using g)⟩
def zb(p:Cs)(l:Nat):Prop:=∀j,l < j->p.getD j 0=0
theorem N6{a:Nat}{as:Cs}{l:Nat}(h:zb (a::as) (l+1)):zb as l:=λ j g=>by
 have:=h (j+1) (by omega)
 rwa [getD_cons_succ]at this
theorem N7:∀{as:Cs},(∀j,as.getD j 0=0)->as.sum=0
 |[],_=>rfl
 |a::as,h=>by
  have h0:=h 0;rw[getD_cons_zero]at h0;have:=N7 (as:=as) λ j=>by have:=h (j+1);rwa [getD_cons_succ]at this
  show a+as.sum=0;omega
theorem Ju:∀{p q:Cs},p.sum=0->¬vf p q
 |a::as,b::bs,h,g=>by
  have h:a+as.sum=0:=h;rcases g with g|⟨rfl,g⟩
  ·omega
  ·exact Ju (by omega) g
 |[],_,_,h=>h.elim
 |_::_,[],_,h=>h.elim
theorem xm:∀{a p:Cs} {h l:Nat},vf a p->a.sum=p.sum->zb p l->vf (inc a h) (inc p l)
 |a::as,b::bs,h,0,g,e,z=>by
  have e:a+as.sum=b+bs.sum:=e;have:bs.sum=0:=N7 λ j=>by have:=z (j+1) (by omega);rwa [getD_cons_succ]at this
  rcases g with g|⟨rfl,g⟩
  ·omega
  ·exact absurd g (Ju (by omega))
 |a::as,b::bs,h,l+1,g,e,z=>by
  have e:a+as.sum=b+bs.sum:=e;cases h with
  |zero=>exact .inl (by rcases g with g|g <;> omega)
  |succ h=>
   rcases g with g|⟨rfl,g⟩
   ·exact .inl g
   ·exact .inr ⟨rfl,xm g (by omega) (N6 z)⟩
 |[],_,_,_,h,_,_=>h.elim
 |_::_,[],_,_,h,_,_=>h.elim
def Ah(p q:Cs):Prop:=p.sum < q.sum\/(p.sum=q.sum/\vf p q)
theorem Ah.T9 {p:Cs}(h:Ah p p):False:=h.elim (λ h=>C1 _ h) λ h=>qP _ h.2
theorem Ah.trans {p q r:Cs}(h:Ah p q)(g:Ah q r):Ah p r:=by
 rcases h with h|⟨e,h⟩
 ·rcases g with g|⟨f,g⟩
  ·exact .inl (by omega)
  ·exact .inl (by omega)
 ·rcases g with g|⟨f,g⟩
  ·exact .inl (by omega)
  ·exact .inr ⟨by omega,pP h g⟩
theorem Ah.not {p q:Cs}(h:Ah p q)(g:Ah q p):False:=(h.trans g).T9
theorem Ah.Vm {p q:Cs}(h:p.length=q.length):p=q\/Ah p q\/Ah q p:=by
 rcases Nat.lt_trichotomy p.sum q.sum with z|z|z
 ·exact .inr (.inl (.inl z))
 ·rcases xl h with e|e|e
  ·exact .inl e
  ·exact .inr (.inl (.inr ⟨z,e⟩))
  ·exact .inr (.inr (.inr ⟨z.symm,e⟩))
 ·exact .inr (.inr (.inl z))
theorem Ah.inc {p q:Cs}{l:Nat}(h:Ah p q)(hp:l < p.length)(hq:l < q.length):Ah (inc p l) (inc q l):=by
 have a:=eB hp;have b:=eB hq;rcases h with h|⟨e,h⟩
 ·exact .inl (by omega)
 ·exact .inr ⟨by omega,xo h⟩
theorem Ah.par {a p:Cs}{h l:Nat}(g:Ah a p)(z:zb p l)(hh:h < a.length)(hl:l < p.length):Ah (KK.inc a h) (KK.inc p l):=by
 have x:=eB hh;have y:=eB hl;rcases g with g|⟨e,g⟩
 ·exact .inl (by omega)
 ·exact .inr ⟨by omega,xm g e z⟩
theorem Ah.T_ {p:Cs}{i j:Nat}(h:i < j)(hj:j < p.length):Ah (KK.inc p i) (KK.inc p j):=
 .inr ⟨by rw[eB hj,eB (by omega)],sX h (by omega)⟩
theorem lastOf:∀{q:Cs},0 < q.sum->∃p l,l < q.length/\p.length=q.length/\q=inc p l/\zb p l
 |[],h=>absurd h (by decide)
 |c::cs,h=>by
  have h:0 < c+cs.sum:=h;by_cases z:cs.sum=0
  ·refine⟨(c - 1)::cs,0,by simp,by simp,?_,λ j hj=>?_⟩
   ·show c::cs=(c - 1+1)::cs;rw[show c - 1+1=c by omega]
   ·obtain⟨j,rfl⟩:∃k,j=k+1:=⟨j - 1,by omega⟩;rw[getD_cons_succ,c6];cases e:cs[j]? with
    |none=>rfl
    |some v=>
     have hv:=m8 e;have:∀{xs:Cs},xs.sum=0->∀v∈xs,v=0:=λ{xs}=>by
      induction xs with
      |nil=>intro _ v hv;cases hv
      |cons x xs ih=>
       intro h v hv;have h:x+xs.sum=0:=h;rcases C3.mp hv with rfl|hv
       ·omega
       ·exact ih (by omega) v hv
     exact this z v hv
  ·obtain⟨p,l,hl,hp,e,zz⟩:=lastOf (q:=cs) (by omega);refine⟨c::p,l+1,by simp;omega,by simp[hp],by rw[e];rfl,λ j hj=>?_⟩;obtain⟨j,rfl⟩:∃k,j=k+1:=⟨j - 1,by omega⟩;rw[getD_cons_succ];exact zz j (by omega)
def QZ(T:Nat):List Nat:=(List.range (T+1)).map (T - ·)
def kM:Nat->Nat->List Cs
 |0,T=>if T=0 then[[]]else[]
 |k+1,T=>(QZ T).flatMap λ n=>(kM k (T - n)).map (n::·)
theorem xj{T n:Nat}:n∈QZ T↔n<=T:=by
 unfold QZ;rw[C9];constructor
 ·rintro⟨a,_,rfl⟩;omega
 ·intro h;exact⟨T - n,mem_range.mpr (by omega),by omega⟩
set_option tactic.hygienic true in
theorem dG:∀{k T:Nat} {p:Cs},p∈kM k T↔p.length=k/\p.sum=T
 |0,T,p=>by
  unfold kM;split
  ·rename_i h;subst h;rw[u4];exact⟨λ h=>by subst h;exact⟨rfl,rfl⟩,λ h=>j5.mp h.1⟩
  ·rename_i h;refine⟨λ h=>(by cases h),λ g=>?_⟩;have:=j5.mp g.1;subst this;exact absurd g.2.symm h
 |k+1,T,p=>by
  unfold kM;rw[mem_flatMap];constructor
  ·rintro⟨n,hn,h⟩;rw[C9]at h;obtain⟨r,hr,rfl⟩:=h;rw[dG]at hr;rw[xj]at hn;refine⟨by simp[hr.1],?_⟩;show n+r.sum=T;omega
  ·rintro⟨hl,hs⟩;cases p with
   |nil=>cases hl
   |cons n r=>have hs:n+r.sum=T:=hs;refine⟨n,xj.mpr (by omega),C9.mpr ⟨r,dG.mpr ⟨by simpa using hl,by omega⟩,rfl⟩⟩
theorem Lo(T:Nat):(QZ T).Pairwise (· > ·):=by unfold QZ;rw[pairwise_map];have h:(List.range (T+1)).Pairwise (· < ·):=pairwise_lt_range;refine List.Pairwise.imp_of_mem (λ{a b} ha hb MS=>?_) h;rw[mem_range]at hb;show T - b < T - a;omega
theorem sI:∀(k T:Nat),(kM k T).Pairwise vf
 |0,T=>by unfold kM;split <;> simp
 |k+1,T=>by
  unfold kM;rw[pairwise_flatMap];refine⟨λ n _=>?_,?_⟩
  ·rw[pairwise_map];exact(sI k (T - n)).imp λ h=>.inr ⟨rfl,h⟩
  ·refine(Lo T).imp λ{a b} h x hx y hy=>?_;rw[C9]at hx hy;obtain⟨r,_,rfl⟩:=hx;obtain⟨s,_,rfl⟩:=hy;exact .inl h
def IQ(h T:Nat):List Cs:=(List.range T).flatMap (kM h)
theorem jo{h T:Nat}{p:Cs}:p∈IQ h T↔p.length=h/\p.sum < T:=by
 unfold IQ;rw[mem_flatMap];constructor
 ·rintro⟨n,hn,hp⟩;rw[dG]at hp;rw[mem_range]at hn;exact⟨hp.1,by omega⟩
 ·rintro⟨a,b⟩;exact⟨p.sum,mem_range.mpr b,dG.mpr ⟨a,rfl⟩⟩
theorem GL(h T:Nat):(IQ h T).Pairwise Ah:=by
 unfold IQ;rw[pairwise_flatMap];refine⟨λ n _=>?_,?_⟩
 ·refine List.Pairwise.imp_of_mem (λ{a b} ha hb MS=>?_) (sI h n);rw[dG]at ha hb;exact .inr ⟨by omega,MS⟩
 ·refine(pairwise_lt_range (n:=T)).imp λ{a b} h x hx y hy=>?_;rw[dG]at hx hy;exact .inl (by omega)
theorem sJ{α:Type}{R:α->α->Prop}{Q:α->Prop}:∀{l:List α},l.Pairwise R->(∃x∈l,Q x)->∃x∈l,Q x/\∀y∈l,Q y->y=x\/R x y
 |[],_,h=>by obtain⟨x,hx,_⟩:=h;cases hx
 |a::l,hp,h=>by
  rw[pairwise_cons]at hp;by_cases ha:Q a
  ·refine⟨a,by simp,ha,λ y hy _=>?_⟩;rcases C3.mp hy with z|z
   ·exact .inl z
   ·exact .inr (hp.1 y z)
  ·obtain⟨x,hx,hq,hm⟩:=sJ hp.2 (by
    obtain⟨x,hx,hq⟩:=h;rcases C3.mp hx with rfl|z
    ·exact absurd hq ha
    ·exact⟨x,z,hq⟩)
   refine⟨x,m7 _ hx,hq,λ y hy HY=>?_⟩;rcases C3.mp hy with rfl|z
   ·exact absurd HY ha
   ·exact hm y z HY
end KK
namespace KK
def oq{α:Type}(f:α->α):Nat->α->α
 |0,x=>x
 |n+1,x=>oq f n (f x)
theorem s_{α:Type}(f:α->α):∀(n:Nat) (x:α),oq f (n+1) x=f (oq f n x)
 |0,x=>rfl
 |n+1,x=>by show oq f (n+1) (f x)=_;rw[s_ f n];rfl
def iq{α:Type}(F:Nat->α->α):Nat->α->Cs->α
 |_,s,[]=>s
 |i,s,c::cs=>iq F (i+1) (oq (F i) c s) cs
structure mr{α:Type}(S:α->Prop)(h:Nat)(F:Nat->α->α):Prop where
 cl:∀s i,i < h->S s->S (F i s)
 cm:∀s i j,i < h->j < h->S s->F i (F j s)=F j (F i s)
section
variable {α:Type}{S:α->Prop}{h:Nat}{F:Nat->α->α}
theorem mr.oq (C:mr S h F){i:Nat}(hi:i < h):∀(n:Nat) (s:α),S s->S (oq (F i) n s)
 |0,s,hs=>hs
 |n+1,s,hs=>C.oq hi n _ (C.cl s i hi hs)
theorem mr.vk (C:mr S h F){i j:Nat}(hi:i < h)(hj:j < h):∀(n:Nat) (s:α),S s->KK.oq (F i) n (F j s)=F j (KK.oq (F i) n s)
 |0,s,hs=>rfl
 |n+1,s,hs=>by show KK.oq (F i) n (F i (F j s))=F j (KK.oq (F i) n (F i s));rw[C.cm s i j hi hj hs,C.vk hi hj n _ (C.cl s i hi hs)]
theorem mr.iq (C:mr S h F):∀(cs:Cs) (i:Nat) (s:α),i+cs.length<=h->S s->S (iq F i s cs)
 |[],i,s,_,hs=>hs
 |c::cs,i,s,hl,hs=>by rw[y9]at hl;exact C.iq cs (i+1) _ (by omega) (C.oq (by omega) _ _ hs)
theorem mr.Wi (C:mr S h F){j:Nat}(hj:j < h):∀(cs:Cs) (i:Nat) (s:α),i+cs.length<=h->S s->KK.iq F i (F j s) cs=F j (KK.iq F i s cs)
 |[],i,s,_,hs=>rfl
 |c::cs,i,s,hl,hs=>by rw[y9]at hl;show KK.iq F (i+1) (KK.oq (F i) c (F j s)) cs=F j (KK.iq F (i+1) (KK.oq (F i) c s) cs);rw[C.vk (by omega) hj c s hs,C.Wi hj cs (i+1) _ (by omega) (C.oq (by omega) _ _ hs)]
theorem mr.inc (C:mr S h F):∀(cs:Cs) (i l:Nat) (s:α),i+cs.length<=h->l < cs.length->S s->KK.iq F i s (KK.inc cs l)=F (i+l) (KK.iq F i s cs)
 |c::cs,i,0,s,hl,_,hs=>by rw[y9]at hl;show KK.iq F (i+1) (KK.oq (F i) (c+1) s) cs=F i (KK.iq F (i+1) (KK.oq (F i) c s) cs);rw[s_,C.Wi (by omega) cs (i+1) _ (by omega) (C.oq (by omega) _ _ hs)]
 |c::cs,i,l+1,s,hl,hc,hs=>by rw[y9]at hl hc;show KK.iq F (i+1) (KK.oq (F i) c s) (KK.inc cs l)=F (i+(l+1)) (KK.iq F (i+1) (KK.oq (F i) c s) cs);rw[C.inc cs (i+1) l _ (by omega) (by omega) (C.oq (by omega) _ _ hs),show i+1+l=i+(l+1) by omega]
def oh(F:Nat->α->α)(s0:α)(h:Nat)(p:Cs):Prop:=p.length=h/\∀q:Cs,q.length=h->Ah q p->iq F 0 s0 q≠iq F 0 s0 p
theorem oh.uniq {s0:α}{p q:Cs}(a:oh F s0 h p)(b:oh F s0 h q)(e:iq F 0 s0 p=iq F 0 s0 q):p=q:=by
 rcases Ah.Vm (p:=p) (q:=q) (by rw[a.1,b.1])with z|z|z
 ·exact z
 ·exact absurd e (b.2 p a.1 z)
 ·exact absurd e.symm (a.2 q b.1 z)
theorem oh.ex (F:Nat->α->α)(s0:α)(h:Nat){p:Cs}(hp:p.length=h):∃q,oh F s0 h q/\iq F 0 s0 q=iq F 0 s0 p/\(p=q\/Ah q p):=by
 obtain⟨q,hq,e,hm⟩:=sJ (Q:=λ q=>iq F 0 s0 q=iq F 0 s0 p) (GL h (p.sum+1)) ⟨p,jo.mpr ⟨hp,by omega⟩,rfl⟩;have ME:=jo.mp hq;refine⟨q,⟨ME.1,λ r hr ha er=>?_⟩,e,hm p (jo.mpr ⟨hp,by omega⟩) rfl⟩;have hs:r.sum<=q.sum:=by rcases ha with z|z <;> omega
 rcases hm r (jo.mpr ⟨hr,by omega⟩) (er.trans e)with z|z
 ·subst z;exact ha.T9
 ·exact ha.not z
theorem oh.dn (C:mr S h F){s0:α}(h0:S s0){p:Cs}{l:Nat}(hl:l < p.length)(a:oh F s0 h (KK.inc p l)):oh F s0 h p:=by
 have hp:p.length=h:=by rw[<- ju p l];exact a.1
 refine⟨hp,λ q hq ha e=>?_⟩;refine a.2 (KK.inc q l) (by rw[ju];exact hq) (ha.inc (by omega) hl) ?_;rw[C.inc q 0 l s0 (by omega) (by omega) h0,C.inc p 0 l s0 (by omega) hl h0,e]
def jN(h:Nat):Cs:=List.replicate h 0
theorem qm:∀{p:Cs},p.sum=0->p=jN p.length
 |[],_=>rfl
 |a::as,e=>by have e:a+as.sum=0:=e;have:=qm (p:=as) (by omega);show a::as=List.replicate (as.length+1) 0;rw[o6,show a=0 by omega];exact G8 _ this
theorem lG(h:Nat):(jN h).sum=0:=by unfold jN;simp
theorem qW(F:Nat->α->α)(s:α):∀(h i:Nat),iq F i s (jN h)=s
 |0,i=>rfl
 |h+1,i=>by show iq F (i+1) s (jN h)=s;exact qW F s h (i+1)
theorem oh.jN (F:Nat->α->α)(s0:α)(h:Nat):oh F s0 h (jN h):=by
 refine⟨by simp[KK.jN],λ q hq ha=>?_⟩;rcases ha with z|z
 ·rw[lG]at z;omega
 ·rw[lG]at z;have:=qm z.1;rw[hq]at this;rw[this]at z;exact absurd z.2 (qP _)
theorem oh.par (C:mr S h F){s0:α}(h0:S s0){q:Cs}(a:oh F s0 h q)(hz:q≠KK.jN h):∃p l,l < h/\p.length=h/\q=KK.inc p l/\zb p l/\oh F s0 h p/\p.sum < q.sum:=by
 have hs:0 < q.sum:=Nat.pos_of_ne_zero λ z=>hz (by have:=qm z;rwa [a.1]at this);obtain⟨p,l,hl,hp,e,z⟩:=lastOf hs;have Dr:l < p.length:=by omega
 subst e;refine⟨p,l,by rw[<- a.1];exact hl,by rw[hp];exact a.1,rfl,z,a.dn C h0 Dr,by rw[eB Dr];omega⟩
structure NJ(F:Nat->α->α)(s0:α)(h:Nat)(told:List (Cs×α)):Prop where
 ent:∀e∈told,oh F s0 h e.1/\iq F 0 s0 e.1=e.2
 S8:(told.map (·.1)).Pairwise Ah
 low:∀q,oh F s0 h q->q∉told.map (·.1)->∀k∈told.map (·.1),Ah k q
 iS:told[0]?=some (KK.jN h,s0)
structure rL(F:Nat->α->α)(s0:α)(h:Nat)(told:List (Cs×α))(d i:Nat):Prop where
 gI:NJ F s0 h told
 up:∀q p l,oh F s0 h q->q∉told.map (·.1)->q=KK.inc p l->p.length=h->l < h->zb p l->∀j e,told[j]?=some e->e.1=p->d < j\/(j=d/\i<=l)
theorem rL.start (F:Nat->α->α)(s0:α)(h:Nat):rL F s0 h [(KK.jN h,s0)] 0 0:=by
 refine⟨⟨λ e he=>?_,by simp,λ q hq hn k hk=>?_,rfl⟩,λ q p l _ _ _ _ _ _ j e hj _=>?_⟩
 ·rw[u4.mp he];exact⟨oh.jN F s0 h,qW F s0 h 0⟩
 ·rw[map_singleton,u4]at hk hn;subst hk;rcases Ah.Vm (p:=q) (q:=KK.jN h) (by rw[hq.1];simp[KK.jN])with z|z|z
  ·exact absurd z hn
  ·rcases z with z|z
   ·rw[lG]at z;omega
   ·rw[lG]at z;have:=qm z.1;rw[hq.1]at this;exact absurd this hn
  ·exact z
 ·cases j with
  |zero=>exact .inr ⟨rfl,by omega⟩
  |succ j=>exact .inl (by omega)
theorem rL.turn {s0:α}{told:List (Cs×α)}{d:Nat}(b:rL F s0 h told d h):rL F s0 h told (d+1) 0:=
 ⟨b.gI,λ q p l hq hn e hp hl hz j x hj hx=>by
  rcases b.up q p l hq hn e hp hl hz j x hj hx with z|z
  ·by_cases g:j=d+1
   ·exact .inr ⟨g,by omega⟩
   ·exact .inl (by omega)
  ·omega⟩
theorem NJ.at {s0:α}{told:List (Cs×α)}(b:NJ F s0 h told){i j:Nat}{x y:Cs×α}(hi:told[i]?=some x)(hj:told[j]?=some y)(l:i < j):Ah x.1 y.1:=by
 have NW:(told.map (·.1))[i]?=some x.1:=by rw[x3,hi];rfl
 have Sd:(told.map (·.1))[j]?=some y.1:=by rw[x3,hj];rfl
 obtain⟨a,ha⟩:=i4.mp NW;obtain⟨c,hc⟩:=i4.mp Sd;have:=pairwise_iff_getElem.mp b.S8 i j a c l;rw[ha,hc]at this;exact this
theorem rL.next (C:mr S h F){s0:α}(h0:S s0){told:List (Cs×α)}{d i:Nat}(b:rL F s0 h told d i)(hi:i < h){a:Cs}{s:α}(hd:told[d]?=some (a,s)){q:Cs}(hq:oh F s0 h q)(hn:q∉told.map (·.1)):q=KK.inc a i\/Ah (KK.inc a i) q:=by
 have hz:q≠KK.jN h:=λ z=>hn (by
  rw[C9];exact⟨_,m8 b.gI.iS,z.symm⟩)
 have ha:=(b.gI.ent _ (m8 hd)).1;have Sk:a.length=h:=ha.1;obtain⟨p,l,hl,hp,e,z,fp,_⟩:=hq.par C h0 hz;subst e;have key:Ah a p->Ah (KK.inc a i) (KK.inc p l):=λ g=>g.par z (by omega) (by omega);by_cases hm:p∈told.map (·.1)
 ·obtain⟨x,hx,rfl⟩:=C9.mp hm;obtain⟨j,hj⟩:=getElem?_of_mem hx;rcases b.up _ x.1 l hq hn rfl hp hl z j x hj rfl with g|⟨rfl,g⟩
  ·exact .inr (key (b.gI.at hd hj g))
  ·rw[hd]at hj;cases hj;by_cases e:i=l
   ·exact .inl (by rw[e])
   ·exact .inr (Ah.T_ (by omega) (by omega))
 ·exact .inr (key (b.gI.low p fp hm a (C9.mpr ⟨_,m8 hd,rfl⟩)))
theorem rL.old (C:mr S h F){s0:α}(h0:S s0){told:List (Cs×α)}{d i:Nat}(b:rL F s0 h told d i)(hi:i < h){a:Cs}{s:α}(hd:told[d]?=some (a,s))(hk:F i s∈told.map (·.2)):rL F s0 h told d (i+1):=by
 refine⟨b.gI,λ q p l hq hn e hp hl hz j x hj hx=>?_⟩;have ha:=b.gI.ent _ (m8 hd);have Sk:a.length=h:=ha.1.1;rcases b.up q p l hq hn e hp hl hz j x hj hx with z|⟨rfl,z⟩
 ·exact .inl z
 ·refine .inr ⟨rfl,?_⟩;by_cases g:i=l
  ·exfalso;subst g;rw[hd]at hj;cases hj;subst hx;obtain⟨y,hy,ey⟩:=C9.mp hk;have HY:=b.gI.ent y hy;refine hn (C9.mpr ⟨y,hy,HY.1.uniq hq ?_⟩);rw[HY.2,ey,e,C.inc a 0 i s0 (by omega) (by omega) h0,ha.2,D4]
  ·omega
theorem rL.new (C:mr S h F){s0:α}(h0:S s0){told:List (Cs×α)}{d i:Nat}(b:rL F s0 h told d i)(hi:i < h){a:Cs}{s:α}(hd:told[d]?=some (a,s))(hk:F i s∉told.map (·.2)):rL F s0 h (told++[(KK.inc a i,F i s)]) d (i+1):=by
 have ha:=b.gI.ent _ (m8 hd);have Sk:a.length=h:=ha.1.1;have hc:iq F 0 s0 (KK.inc a i)=F i s:=by rw[C.inc a 0 i s0 (by omega) (by omega) h0,ha.2,D4]
 have jL:(KK.inc a i).length=h:=by rw[ju];exact Sk
 have fc:oh F s0 h (KK.inc a i):=by
  obtain⟨q,fq,e,hq⟩:=oh.ex F s0 h jL;have hn:q∉told.map (·.1):=λ hm=>by obtain⟨y,hy,rfl⟩:=C9.mp hm;refine hk (C9.mpr ⟨y,hy,?_⟩);rw[<- (b.gI.ent y hy).2,e,hc]
  rcases b.next C h0 hi hd fq hn with z|z
  ·rw[<- z];exact fq
  ·rcases hq with g|g
   ·rw[g];exact fq
   ·exact(z.not g).elim
 have pV:KK.inc a i∉told.map (·.1):=λ hm=>by obtain⟨y,hy,e⟩:=C9.mp hm;exact hk (C9.mpr ⟨y,hy,by rw[<- (b.gI.ent y hy).2,e,hc]⟩)
 have Ic:d < told.length:=(i4.mp hd).1;refine⟨⟨λ e he=>?_,?_,λ q fq hn k NV=>?_,?_⟩,λ q p l hq hn e hp hl hz j x hj hx=>?_⟩
 ·rcases A9.mp he with z|z
  ·exact b.gI.ent e z
  ·rw[u4.mp z];exact⟨fc,hc⟩
 ·rw[B0,pairwise_append];refine⟨b.gI.S8,by simp,λ x hx y hy=>?_⟩;rw[map_singleton,u4]at hy;subst hy;exact b.gI.low _ fc pV x hx
 ·rw[B0,A9]at hn NV;rw[not_or]at hn;rcases NV with z|z
  ·exact b.gI.low q fq hn.1 k z
  ·rw[map_singleton,u4]at z;subst z;rcases b.next C h0 hi hd fq hn.1 with g|g
   ·exact absurd (by rw[g];simp) hn.2
   ·exact g
 ·rw[h8 (by omega)];exact b.gI.iS
 ·rw[B0,A9,not_or]at hn;by_cases g:j < told.length
  ·rw[h8 g]at hj;rcases b.up q p l hq hn.1 e hp hl hz j x hj hx with z|⟨rfl,z⟩
   ·exact .inl z
   ·refine .inr ⟨rfl,?_⟩;by_cases g:i=l
    ·exfalso;subst g;rw[hd]at hj;cases hj;subst hx;exact hn.2 (by rw[e];simp)
    ·omega
  ·exact .inl (by omega)
theorem rL.all (C:mr S h F){s0:α}(h0:S s0){told:List (Cs×α)}{d:Nat}(b:rL F s0 h told d 0)(hd:told.length<=d):∀(n:Nat) (q:Cs),q.sum < n->oh F s0 h q->q∈told.map (·.1)
 |0,q,hs,_=>by omega
 |n+1,q,hs,fq=>by
  refine Decidable.byContradiction λ hn=>?_;have hz:q≠KK.jN h:=λ z=>hn (by
   rw[C9];exact⟨_,m8 b.gI.iS,z.symm⟩)
  obtain⟨p,l,hl,hp,e,z,fp,jv⟩:=fq.par C h0 hz;have:=b.all C h0 hd n p (by omega) fp;obtain⟨x,hx,ex⟩:=C9.mp this;obtain⟨j,hj⟩:=getElem?_of_mem hx;have V5:j < told.length:=(i4.mp hj).1;rcases b.up q p l fq hn e hp hl z j x hj ex with g|g <;> omega
theorem NJ.nd {s0:α}{told:List (Cs×α)}(b:NJ F s0 h told):(told.map (·.2)).Nodup:=by
 have h2:(told.map (·.1)).Pairwise λ x y=>x≠y:=b.S8.imp λ a e=>by subst e;exact a.T9
 have h1:told.Pairwise λ x y=>x.1≠y.1:=pairwise_map.mp h2;unfold List.Nodup;rw[pairwise_map];refine List.Pairwise.imp_of_mem (λ{x y} hx hy XH=>?_) h1;intro e;have a:=b.ent x hx;have c:=b.ent y hy;exact XH (a.1.uniq c.1 (by rw[a.2,c.2,e]))
end
end KK
namespace KK
open PySem L3 L4 L5
inductive zT{α:Type}(F:Nat->α->α)(h:Nat)(s0:α):α->Prop
 |zero:zT F h s0 s0
 |step {s:α} {i:Nat}:zT F h s0 s->i < h->zT F h s0 (F i s)
theorem zT.ok {α:Type}{S:α->Prop}{h:Nat}{F:Nat->α->α}{s0:α}(C:mr S h F)(h0:S s0){s:α}(r:zT F h s0 s):S s:=by
 induction r with
 |zero=>exact h0
 |step r hi ih=>exact C.cl _ _ hi ih
structure lD(m h:Nat)(rows:List Row):Prop where
 tb:Tb m h rows
 Wu:mr (· < m) h (a_ rows)
 K4:∀x,x < m->zT (a_ rows) h 0 x
structure du{α:Type}(F:Nat->α->α)(aL:List α)(s:α)(i:Nat)(r:Row):Prop where
 len:r.length=i
 at':∀j,j < i->∃k:Nat,r[j]?=some (k:Int)/\aL[k]?=some (F j s)
theorem du.app {α:Type}{F:Nat->α->α}{aL ts:List α}{s:α}{i:Nat}{r:Row}(a:du F aL s i r):du F (aL++ts) s i r:=
 ⟨a.len,λ j hj=>by
  obtain⟨k,e,h⟩:=a.at' j hj;exact⟨k,e,by rw[h8 (i4.mp h).1];exact h⟩⟩
theorem du.next {α:Type}{F:Nat->α->α}{aL:List α}{s:α}{i k:Nat}{r:Row}(a:du F aL s i r)(hk:aL[k]?=some (F i s)):du F aL s (i+1) (r++[(k:Int)]):=by
 refine⟨by simp[a.len],λ j hj=>?_⟩;by_cases g:j < i
 ·obtain⟨k,e,h⟩:=a.at' j g;exact⟨k,by rw[h8 (by rw[a.len];exact g)];exact e,h⟩
 ·have:j=i:=by omega
  subst this;refine⟨k,?_,hk⟩;rw[c5 (by rw[a.len];exact D8 _),a.len,Nat.sub_self];rfl
theorem du.nil {α:Type}(F:Nat->α->α)(aL:List α)(s:α):du F aL s 0 []:=⟨rfl,λ j hj=>absurd hj (by omega)⟩
structure tZ{α:Type}(F:Nat->α->α)(s0:α)(h:Nat)(U aL:List α)(rows:List Row):Prop where
 nd:aL.Nodup
 iS:aL[0]?=some s0
 K4:∀s∈aL,zT F h s0 s
 sub:∀s∈aL,s∈U
 row:∀(d:Nat) (r:Row),rows[d]?=some r->∃s,aL[d]?=some s/\du F aL s h r
section
variable {α:Type}{F:Nat->α->α}{s0:α}{h:Nat}{U aL:List α}{rows:List Row}
theorem tZ.start (hU:s0∈U):tZ F s0 h U [s0] []:=
 ⟨by simp,rfl,λ s hs=>by rw[u4.mp hs];exact .zero,λ s hs=>by rw[u4.mp hs];exact hU,λ d r e=>by cases e⟩
theorem tZ.add (e:tZ F s0 h U aL rows){d i:Nat}{s:α}(hd:aL[d]?=some s)(hi:i < h)(hU:F i s∈U)(hn:F i s∉aL):tZ F s0 h U (aL++[F i s]) rows:=by
 refine⟨nodup_append.mpr ⟨e.nd,by simp,λ a ha b hb z=>hn (by rw[<- u4.mp hb,<- z];exact ha)⟩,?_,λ t ht=>?_,λ t ht=>?_,λ j r hj=>?_⟩
 ·rw[h8 (i4.mp e.iS).1];exact e.iS
 ·rcases A9.mp ht with z|z
  ·exact e.K4 t z
  ·rw[u4.mp z];exact .step (e.K4 s (m8 hd)) hi
 ·rcases A9.mp ht with z|z
  ·exact e.sub t z
  ·rw[u4.mp z];exact hU
 ·obtain⟨t,ht,hr⟩:=e.row j r hj;exact⟨t,by rw[h8 (i4.mp ht).1];exact ht,hr.app⟩
theorem tZ.next (e:tZ F s0 h U aL rows){s:α}{r:Row}(hd:aL[rows.length]?=some s)(hr:du F aL s h r):tZ F s0 h U aL (rows++[r]):=by
 refine⟨e.nd,e.iS,e.K4,e.sub,λ j q hj=>?_⟩;by_cases g:j < rows.length
 ·rw[h8 g]at hj;exact e.row j q hj
 ·have hl:=(i4.mp hj).1;rw[r6,l0]at hl;have:j=rows.length:=by omega
  subst this;rw[c5 (D8 _),Nat.sub_self]at hj;cases hj;exact⟨s,hd,hr⟩
theorem tZ.dY (e:tZ F s0 h U aL rows):aL.length<=U.length:=List.Nodup.length_le_of_subset e.nd e.sub
theorem CG{l:List α}(h:l.Nodup){i j:Nat}{x:α}(a:l[i]?=some x)(b:l[j]?=some x):i=j:=by obtain⟨hi,_⟩:=i4.mp a;exact(getElem?_inj hi h).mp (a.trans b.symm)
theorem tZ.at (e:tZ F s0 h U aL rows)(hl:rows.length=aL.length){d i:Nat}{s:α}(hd:aL[d]?=some s)(hi:i < h):aL[a_ rows i d]?=some (F i s):=by have Ic:=(i4.mp hd).1;obtain⟨t,ht,hr⟩:=e.row d rows[d] (i7 (by omega));rw[hd]at ht;cases ht;obtain⟨k,e1,e2⟩:=hr.at' i hi;unfold a_;rw[c6 (l:=rows),i7 (l:=rows) (i:=d) (by omega)];show aL[((rows[d]).getD i 0).toNat]?=_;rw[c6,e1];exact e2
theorem tZ.tb {S:α->Prop}(C:mr S h F)(h0:S s0)(e:tZ F s0 h U aL rows)(hl:rows.length=aL.length)(hU:U.length<=300)(hh:h<=12):lD rows.length h rows:=by
 have h1:0 < aL.length:=(i4.mp e.iS).1;have lt:∀{d i:Nat},d < rows.length->i < h->a_ rows i d < rows.length:=λ{d i} hd hi=>by rw[hl];exact(i4.mp (e.at hl (i7 (show d < aL.length by omega)) hi)).1
 refine⟨⟨rfl,by omega,by have:=e.dY;omega,hh,λ r hr=>?_⟩,⟨λ x i hi hx=>lt hx hi,λ x i j hi hj hx=>?_⟩,λ x hx=>?_⟩
 ·obtain⟨d,hd⟩:=getElem?_of_mem hr;obtain⟨s,hs,Qc⟩:=e.row d r hd;refine⟨Qc.len,λ x hx=>?_⟩;obtain⟨j,hj⟩:=getElem?_of_mem hx;have V5:=(i4.mp hj).1;obtain⟨k,e1,e2⟩:=Qc.at' j (by rw[<- Qc.len];exact V5);rw[hj]at e1;cases e1;have:=(i4.mp e2).1;omega
 ·have hs:=i7 (show x < aL.length by omega);have ss:=(e.K4 _ (m8 hs)).ok C h0;refine CG e.nd (x:=F i (F j aL[x])) (e.at hl (e.at hl hs hj) hi) ?_;rw[C.cm _ i j hi hj ss];exact e.at hl (e.at hl hs hi) hj
 ·have hs:=i7 (show x < aL.length by omega);have key:∀s,zT F h s0 s->∃k,aL[k]?=some s/\zT (a_ rows) h 0 k:=λ s r=>by
   induction r with
   |zero=>exact⟨0,e.iS,.zero⟩
   |step r hi ih=>obtain⟨k,hk,hr⟩:=ih;exact⟨_,e.at hl hk hi,.step hr hi⟩
  obtain⟨k,hk,hr⟩:=key _ (e.K4 _ (m8 hs));rw[CG e.nd hs hk];exact hr
end
abbrev nD(v:Nat):D:=.int (v:Int)
def tN(p:Cs):D:=.tup (p.map nD)
end KK
namespace KK
open PySem L3 L4 L5
open L2 hiding aM gu
theorem Ext.rfl {M:Mem}:Ext M M:=λ _ _ e=>e
structure Enc{α:Type}(k:Nat)(enc:α->D):Prop where
 inj:∀a b,enc a=enc b->a=b
 pl:∀a,Pl k (enc a)
structure Sx{α:Type}(enc:α->D)(F:Nat->α->α)(s0:α)(h:Nat)(U:List α)(p q:Addr)(aL:List α)(rows:List Row)(M0 M:Mem):Prop where
 ext:Ext M0 M
 np:M0 p=none
 nq:M0 q=none
 pq:p≠q
 st:M p=some (.lst (aL.map enc))
 kZ:M q=some (.lst (rows.map row))
 ex:tZ F s0 h U aL rows
 le:rows.length<=aL.length
section
variable {α:Type}{enc:α->D}{F:Nat->α->α}{s0:α}{h:Nat}{U:List α}{p q r:Addr}{aL:List α}{rows:List Row}{M0 M:Mem}
theorem Sx.new (x:Sx enc F s0 h U p q aL rows M0 M)(hr:M r=none)(o:MO):Sx enc F s0 h U p q aL rows M0 (af M r o):=
 ⟨x.ext.new hr o,x.np,x.nq,x.pq,by rw[ak (aZ x.st hr)];exact x.st,by rw[ak (aZ x.kZ hr)];exact x.kZ,x.ex,x.le⟩
theorem Sx.free (x:Sx enc F s0 h U p q aL rows M0 M)(hr:M r=none):M0 r=none/\p≠r/\q≠r:=⟨x.ext.free hr,aZ x.st hr,aZ x.kZ hr⟩
theorem Sx.own (x:Sx enc F s0 h U p q aL rows M0 M)(hr:M0 r=none/\p≠r/\q≠r)(o:MO):Sx enc F s0 h U p q aL rows M0 (af M r o):=
 ⟨x.ext.own hr.1,x.np,x.nq,x.pq,by rw[ak hr.2.1];exact x.st,by rw[ak hr.2.2];exact x.kZ,x.ex,x.le⟩
theorem Sx.add (x:Sx enc F s0 h U p q aL rows M0 M){d i:Nat}{s:α}(hd:aL[d]?=some s)(hi:i < h)(hU:F i s∈U)(hn:F i s∉aL):Sx enc F s0 h U p q (aL++[F i s]) rows M0 (af M p (.lst (aL.map enc++[enc (F i s)]))):=
 ⟨x.ext.own x.np,x.np,x.nq,x.pq,by rw[ae,B0];rfl,by rw[ak (H9 x.pq)];exact x.kZ,x.ex.add hd hi hU hn,by rw[r6];have:=x.le;omega⟩
theorem Sx.next (x:Sx enc F s0 h U p q aL rows M0 M){s:α}{r:Row}(hd:aL[rows.length]?=some s)(hr:du F aL s h r):Sx enc F s0 h U p q aL (rows++[r]) M0 (af M q (.lst (rows.map row++[row r]))):=
 ⟨x.ext.own x.nq,x.np,x.nq,x.pq,by rw[ak x.pq];exact x.st,by rw[ae,B0];rfl,x.ex.next hd hr,by
  have:=(i4.mp hd).1;rw[r6,l0];omega⟩
theorem Sx.dY (x:Sx enc F s0 h U p q aL rows M0 M):aL.length<=U.length/\rows.length<=U.length:=by have:=x.ex.dY;have:=x.le;omega
end
theorem Dl{α:Type}[DecidableEq α]{xs:List α}{a:α}(h:a∈xs):xs[xs.idxOf a]?=some a:=by rw[i7 (idxOf_lt_length_of_mem h),getElem_idxOf]
def zV(m:Nat)(ls:Row):Prop:=ls.Pairwise (· < ·)/\∀x∈ls,0<=x/\x < (m:Int)
theorem zV.nil (m:Nat):zV m []:=⟨.nil,λ x h=>by cases h⟩
theorem zV.up {m:Nat}{ls:Row}(h:zV m ls):zV (m+1) ls:=⟨h.1,λ x hx=>by have:=h.2 x hx;omega⟩
theorem zV.add {m:Nat}{ls:Row}(h:zV m ls):zV (m+1) (ls++[(m:Int)]):=by
 refine⟨pairwise_append.mpr ⟨h.1,by simp,λ x hx y hy=>?_⟩,λ x hx=>?_⟩
 ·rw[u4.mp hy];exact(h.2 x hx).2
 ·rcases A9.mp hx with z|z
  ·have:=h.2 x z;omega
  ·rw[u4.mp z];omega
theorem zV.dY {m:Nat}:∀{ls:Row},zV m ls->ls.length<=m:=λ{ls} h=>by
 have nd:(ls.map Int.toNat).Nodup:=by unfold List.Nodup;rw[pairwise_map];refine List.Pairwise.imp_of_mem (λ{a b} ha hb MS=>?_) h.1;have:=h.2 a ha;have:=h.2 b hb;omega
 have:=List.Nodup.length_le_of_subset nd (l₂:=List.range m) λ x hx=>by obtain⟨y,hy,rfl⟩:=C9.mp hx;have:=h.2 y hy;exact mem_range.mpr (by omega)
 rwa [A8,y0]at this
end KK
namespace KK
open PySem L3 L4 L5
open L2 hiding aM gu
theorem Ft{α:Type}[DecidableEq α]{k:Nat}{enc:α->D}{F:Nat->α->α}{s0:α}{h:Nat}{U:List α}{p q pw:Addr}{aL:List α}{rows:List Row}{M0 M:Mem}{r:Row}{s:α}{i jt js jr:Nat}{δ:bY}{E:cQ} (en:Enc k enc) (hk:k<=60) (X:Sx enc F s0 h U p q aL rows M0 M) (hb:U.length<=300) (hh:h<=12) (fw:M0 pw=none/\p≠pw/\q≠pw) (hw:M pw=some (.lst (r.map D.int))) (hr:du F aL s i r) (hd:aL[rows.length]?=some s) (hi:i < h) (hU:F i s∈U) (et:δ[jt]?=some (some (enc (F i s)))) (es:δ[js]?=some (some (.ref p))) (er:δ[jr]?=some (some (.ref pw))) (kk:∀(jQ:List α) (r':Row) (M':Mem),Sx enc F s0 h U p q jQ rows M0 M'->M' pw=some (.lst (r'.map D.int))->du F jQ s (i+1) r'->jQ[rows.length]?=some s->E.nx δ M'):Bj (FF (kN (yG mh (eW jt) (eW js))) (sg (NN "list" mi (eW js) (eX (eW jt) oA))) wD) (sg (NN "list" mi (eW jr) (eX (NN "list" vN (eW js) (eX (eW jt) oA)) oA))) E δ M:=by
 have vt:∀{M:Mem} {Q:bu},Q (enc (F i s)) M->eW jt δ M Q:=λ q=>dS et q;have vs:∀{M:Mem} {Q:bu},Q (.ref p) M->eW js δ M Q:=λ q=>dS es q;have vr:∀{M:Mem} {Q:bu},Q (.ref pw) M->eW jr δ M Q:=λ q=>dS er q;refine uL (λ δ' M'=>δ'=δ/\∃jQ,Sx enc F s0 h U p q jQ rows M0 M'/\M' pw=some (.lst (r.map D.int))/\du F jQ s i r/\jQ[rows.length]?=some s/\F i s∈jQ) (λ N hN=>?_) ?_
 ·refine BD (jc (sv (vt (vs ?_))));refine mT (k:=k) (b:=decide (F i s∈aL)) (ds:=aL.map enc) (dR X.st) (en.pl _) (jX λ x _=>en.pl x) hk (by rw[decide_eq_true_iff];exact(qL en.inj _).symm) ?_;refine lO (λ hn=>?_) (λ hn=>?_)
  ·have hn:F i s∉aL:=by simpa using hn
   refine qC (wO (vs ⟨⟨rfl,_,X.st⟩,hG (vt (iI ?_))⟩));refine fz X.st (by rw[A8];have:=X.dY;exact u0 (show aL.length<=300 by omega) (by decide)) ?_;exact hN _ _ ⟨rfl,aL++[F i s],X.add hd hi hU hn,by rw[ak (H9 fw.2.1)];exact hw,hr.app,by rw[h8 (i4.mp hd).1];exact hd,by simp⟩
  ·have hn:F i s∈aL:=by simpa using hn
   exact hN _ _ ⟨rfl,aL,X,hw,hr,hd,hn⟩
 ·rintro δ' M' ⟨rfl,jQ,X,hw,hr,hd,hm⟩;refine qC (wO (vr ⟨⟨rfl,_,hw⟩,hG (wO (vs ⟨⟨rfl,_,X.st⟩,hG (vt (iI ?_))⟩))⟩));refine sA enc en.inj X.st hm en.pl hk ?_;refine iI (fz hw (by rw[A8,hr.len];exact u0 (show i<=300 by omega) (by decide)) ?_);exact kk jQ (r++[((jQ.idxOf (F i s):Nat):Int)]) _ (X.own fw _) (by rw[ae,B0];rfl) (hr.next (Dl hm)) hd
end KK
namespace KK
open PySem L3 L4 L5
open L2 hiding aM gu
theorem dg:Enc 0 nD:=⟨λ a b z=>Int.ofNat.inj (D.int.inj z),λ a=>fB 0 _⟩
def pD(p:Nat×Nat):D:=.tup [.int (p.1:Int),.int (p.2:Int)]
theorem Na:Enc 1 pD:=by
 refine⟨λ a b z=>?_,λ a=>eL λ e he=>?_⟩
 ·have:=D.tup.inj z;injection this with h1 h2
  injection h2 with h2 _
  exact Prod.ext (dg.inj _ _ h1) (dg.inj _ _ h2)
 ·rcases C3.mp he with rfl|he
  ·exact fB 0 _
  ·rw[u4.mp he];exact fB 0 _
def zN(m w:Nat):List (Nat×Nat):=(List.range m).flatMap λ a=>(List.range w).map λ b=>(a,b)
theorem qN{m w:Nat}{s:Nat×Nat}:s∈zN m w↔s.1 < m/\s.2 < w:=by
 unfold zN;rw[mem_flatMap];constructor
 ·rintro⟨a,ha,h⟩;obtain⟨b,hb,rfl⟩:=C9.mp h;exact⟨mem_range.mp ha,mem_range.mp hb⟩
 ·rintro⟨h1,h2⟩;exact⟨s.1,mem_range.mpr h1,C9.mpr ⟨s.2,mem_range.mpr h2,rfl⟩⟩
theorem IG(m w:Nat):(zN m w).length=m*w:=by unfold zN;rw[length_flatMap];simp only[A8,y0];rw[map_const',y0,sum_replicate_nat]
theorem JX{m h:Nat}{rows:List Row}(T:Tb m h rows){x i:Nat}(hx:x < m)(hi:i < h):f' (rows.map row) (x:Int)=some (row (rows.getD x []))/\f' ((rows.getD x []).map D.int) (i:Int)=some (.int (a_ rows i x)):=by
 have ED:x < rows.length:=by rw[T.len];exact hx
 have a:=T.at hx hi;refine⟨bt (by rw[x3,i7 ED,c6,i7 ED];rfl),?_⟩;rw[Ei (by rw[a.1];exact hi),a.2.1]
theorem Mf{ns:List Nat}{b:Bool}(h:b=true↔ns=[]):b=true↔ns.map nD=[]:=by rw[h,map_eq_nil_iff]
end KK
namespace KK
open PySem L3 L4 L5
open L2 hiding aM gu
def jM{α:Type}(enc:α->D)(kvs:List (α×D)):List (D×D):=kvs.map λ p=>(enc p.1,p.2)
section
variable {α:Type}[DecidableEq α]{enc:α->D}
theorem nv(inj:∀a b,enc a=enc b->a=b)(x:α):∀kvs:List (α×D),cj (jM enc kvs) (enc x)=(kvs.find? λ p=>decide (p.1=x)).map (·.2)
 |[]=>rfl
 |p::kvs=>by
  have ih:=nv inj x kvs;unfold cj jM at ih ⊢;rw[C2,A3,A3];by_cases z:p.1=x
  ·rw[B5 z,B5 (by rw[z])];rfl
  ·rw[A4 z,A4 (λ h=>z (inj _ _ h))];exact ih
theorem ia(inj:∀a b,enc a=enc b->a=b){kvs:List (α×D)}{x:α}(h:x∉kvs.map (·.1)):cj (jM enc kvs) (enc x)=none:=by
 rw[nv inj,find?_eq_none.mpr]
 ·rfl
 ·intro p hp;rw[decide_eq_true_iff];exact λ e=>h (C9.mpr ⟨p,hp,e⟩)
theorem jZ(inj:∀a b,enc a=enc b->a=b){kvs:List (α×D)}{x:α}{d:D}(nd:(kvs.map (·.1)).Nodup)(h:(x,d)∈kvs):cj (jM enc kvs) (enc x)=some d:=by
 rw[nv inj];cases e:kvs.find? λ p=>decide (p.1=x)with
 |none=>have:=find?_eq_none.mp e _ h;simp at this
 |some q=>
  have h1:=find?_some e;have h2:=mem_of_find?_eq_some e;rw[decide_eq_true_iff]at h1;obtain⟨i,hi⟩:=getElem?_of_mem h;obtain⟨j,hj⟩:=getElem?_of_mem h2;have e1:(kvs.map (·.1))[i]?=some x:=by rw[x3,hi];rfl
  have e2:(kvs.map (·.1))[j]?=some x:=by rw[x3,hj,<- h1];rfl
  have:=CG nd e1 e2;subst this;rw[hi]at hj;cases hj;rfl
theorem qE(inj:∀a b,enc a=enc b->a=b){kvs:List (α×D)}{x:α}(v:D)(h:x∉kvs.map (·.1)):putD (jM enc kvs) (enc x) v=jM enc (kvs++[(x,v)]):=by unfold putD;rw[ia inj h,J7 (by simp)];unfold jM;rw[B0];rfl
end
theorem nG(x:Nat):fW false (nD x):=⟨.inl x,rfl⟩
theorem Dc:∀{p:Cs} {i c:Nat},p[i]?=some c->p.take i++[c+1]++p.drop (i+1)=inc p i
 |a::p,0,c,h=>by cases h;rfl
 |a::p,i+1,c,h=>by have:=Dc (p:=p) (i:=i) (c:=c) (by simpa using h);show a::(p.take i++[c+1]++p.drop (i+1))=a::inc p i;rw[this]
def eO{α:Type}(enc:α->D)(e:Cs×α):D:=.tup [tN e.1,enc e.2]
theorem Ext.xX {M1 M':Mem}{C:CM}(h:∀b d,C b=some d->M1 b=some (.hX (.xX d)))(e:Ext (gN M1 C) M'):Ext M1 (iy M' C):=λ b o eo=>by
 rcases cM C b with z|⟨d,z⟩
 ·rw[jG z];exact e b o (by rw[ma z];exact eo)
 ·rw[mn z,<- h b d z];exact eo
theorem CP{M M1:Mem}{f:Addr}{L:iA}{fv:List Str}{cs:List D}{C:CM}(h:zX M f L fv cs C)(e:Ext M M1):zX M1 f L fv cs C:=by obtain⟨cl,h1,h2⟩:=h.ex;exact⟨⟨cl,e _ _ h1,h2⟩,h.len,λ b d z=>e _ _ (h.xX b d z)⟩
structure iQ{α:Type}(F:Nat->α->α)(s0:α)(h:Nat)(most:Nat)(told:List (Cs×α)):Prop where
 gI:NJ F s0 h told
 U0:most<=told.length\/∀q,oh F s0 h q->q∈told.map (·.1)
end KK
namespace L2
open PySem PySem.Spec PyProof.Rows
theorem iM{cells:List (Str×Addr)}:∀(names:List (Str×NameKind)) (acc:List (Str×Addr)) (x:Str) (c:Addr),(bc cells names acc).lookup x=some c->(x,NameKind.free)∈names\/acc.lookup x=some c
 |[],acc,x,c,e=>.inr e
 |(n,k)::r,acc,x,c,e=>by
  unfold bc at e;by_cases z:(k==NameKind.free)=true
  ·rw[J0 z]at e;have z:k=.free:=by simpa using z
   subst z;rcases iM r _ x c e with h|h
   ·exact .inl (m7 _ h)
   ·by_cases y:x=n
    ·subst y;exact .inl (q9 ..)
    ·rw[y7]at h;have:(x==n)=false:=by simpa using y
     rw[this]at h;exact .inr h
  ·rw[J7 z]at e;rcases iM r _ x c e with h|h
   ·exact .inl (m7 _ h)
   ·exact .inr h
end L2
namespace L3
open PySem L2
theorem Ext.IZ {M M':Mem}{C:CM}(e:∀b o,iy M C b=some o->M' b=some o)(n:∀b d,C b=some d->M b=none):∀b o,M b=some o->gN M' C b=some o:=DU e n
theorem Nd{M':Mem}{C:CM}{b:Addr}{o:MO}(h:M' b=some o)(n:C b=none):gN M' C b=some o:=by rw[ma n];exact h
end L3
namespace KK
open PySem L3 L4 L5
def wy:gc:=λ ds M Q=>∃ns:List Int,ds=[.fl (ns.map D.int)]/\∀f c M',Flow M' f c->Ext M M'->Q (.ref f) M'
theorem LK{M M':Mem}{f c b:Addr}{x:XM}(F:Fl f c M M')(h:M b=some (.hX x))(hf:Flow M f c):M' b=some (.hX x):=by refine F.mv b _ (λ z=>?_) h;subst z;obtain⟨ns,p,bb,sd,ct,h1,_⟩:=hf;rw[h]at h1;cases h1
end KK
namespace L2
open PySem
abbrev yd(l:List Nat):Prop:=l.Pairwise (· < ·)
theorem qx{l:List Nat}(h:yd l){i j:Nat}{x y:Nat}(hi:l[i]?=some x)(hj:l[j]?=some y)(lt:i < j):x < y:=by obtain⟨a,ha⟩:=i4.mp hi;obtain⟨b,hb⟩:=i4.mp hj;have:=pairwise_iff_getElem.mp h i j a b lt;rw[ha,hb]at this;exact this
theorem nW{xs:Array Nat}{j:Nat}(h:yd xs.toList):∀(fuel lo hi:Nat),lo<=hi->hi<=xs.size->hi - lo<=fuel->(∀(i:Nat) (v:Nat),i < lo->xs.toList[i]?=some v->v < j)->(∀(i:Nat) (v:Nat),hi<=i->xs.toList[i]?=some v->j<=v)->
  SetTable.below.go xs j fuel lo hi<=xs.size/\(∀(i:Nat) (v:Nat),i < SetTable.below.go xs j fuel lo hi->xs.toList[i]?=some v->v < j)/\(∀(i:Nat) (v:Nat),SetTable.below.go xs j fuel lo hi<=i->xs.toList[i]?=some v->j<=v)
 |0,lo,hi,h1,h2,h3,h4,h5=>by
  have:lo=hi:=by omega
  subst this;exact⟨h2,h4,h5⟩
 |fuel+1,lo,hi,h1,h2,h3,h4,h5=>by
  unfold SetTable.below.go;by_cases hl:lo < hi
  ·rw[J0 hl];have hm:(lo+hi) / 2 < xs.size:=by omega
   have hg:xs.getD ((lo+hi) / 2) j=xs[(lo+hi) / 2]:=by simp[Array.getD,hm]
   have hv:xs.toList[(lo+hi) / 2]?=some xs[(lo+hi) / 2]:=by rw[l7,i0 hm]
   dsimp only;rw[hg];by_cases hc:xs[(lo+hi) / 2] < j
   ·rw[J0 hc];refine nW h fuel _ hi (by omega) h2 (by omega) (λ i v NW e=>?_) h5;by_cases z:i=(lo+hi) / 2
    ·subst z;rw[hv]at e;cases e;exact hc
    ·exact Nat.lt_trans (qx h e hv (by omega)) hc
   ·rw[J7 hc];refine nW h fuel lo _ (by omega) (by omega) (by omega) h4 (λ i v NW e=>?_);by_cases z:i=(lo+hi) / 2
    ·subst z;rw[hv]at e;cases e;omega
    ·have:=qx h hv e (by omega);omega
  ·rw[J7 hl];have:lo=hi:=by omega
   subst this;exact⟨h2,h4,h5⟩
theorem jF{xs:Array Nat}(h:yd xs.toList)(j:Nat):SetTable.below xs j<=xs.size/\(∀(i:Nat) (v:Nat),i < SetTable.below xs j->xs.toList[i]?=some v->v < j)/\(∀(i:Nat) (v:Nat),SetTable.below xs j<=i->xs.toList[i]?=some v->j<=v):=
 nW h xs.size 0 xs.size (F0 _) (D8 _) (by omega) (λ i v h=>absurd h (by omega)) λ i v h e=>by rw[getElem?_eq_none (by rw[o7];exact h)]at e;cases e
theorem below_at{xs:Array Nat}(h:yd xs.toList){i j:Nat}(e:xs.toList[i]?=some j):SetTable.below xs j=i:=by
 obtain⟨_,h1,h2⟩:=jF h j;refine B1 (y8 λ z=>?_) (y8 λ z=>?_)
 ·exact C1 _ (h1 i j z e)
 ·have hl:=(i4.mp e).1;have e2:=i7 (l:=xs.toList) (i:=SetTable.below xs j) (by omega);have a:=h2 _ _ (D8 _) e2;have b:=qx h e2 e z;omega
theorem vZ{xs:Array Nat}(h:yd xs.toList){i j:Nat}(e:xs.toList[i]?=some j):SetTable.below xs (j+1)=i+1:=by
 obtain⟨h0,h1,h2⟩:=jF h (j+1);have hl:=(i4.mp e).1;refine B1 (y8 λ z=>?_) (y8 λ z=>?_)
 ·have hs:i+1 < xs.toList.length:=by rw[o7];omega
  have e2:=i7 hs;have a:=h1 (i+1) _ z e2;have b:=qx h e e2 (by omega);omega
 ·have:=h2 i j (by omega) e;omega
theorem vY{xs:Array Nat}(h:yd xs.toList):SetTable.below xs 0=0:=by
 obtain⟨h0,h1,h2⟩:=jF h 0;refine Decidable.byContradiction λ z=>?_;have hs:0 < xs.toList.length:=by rw[o7];omega
 exact absurd (h1 0 _ (by omega) (i7 hs)) (by omega)
theorem yC{t:SetTable}(h:yd t.place.toList){i j:Nat}(e:t.place.toList[i]?=some j):t.slot j=.live i:=by unfold SetTable.slot;dsimp only;rw[below_at h e,<- l7,e];simp
theorem uA{t:SetTable}(hd:t.dummies=#[])(h:yd t.place.toList){j:Nat}(n:j∉t.place.toList):t.slot j=.empty:=by
 unfold SetTable.slot;dsimp only;have:(t.place[SetTable.below t.place j]?==some j)=false:=by rw[beq_eq_false_iff_ne];intro e;rw[<- l7]at e;exact n (m8 e)
 rw[this,hd];simp[SetTable.has,SetTable.below]
theorem FG{xs:Array Nat}(h:yd xs.toList){j:Nat}(n:j∉xs.toList):yd (SetTable.insertAt xs (SetTable.below xs j) j).toList:=by
 rw[SetTable.toList_insertAt];obtain⟨h0,h1,h2⟩:=jF h j;generalize SetTable.below xs j=b at*;have hp:yd (xs.toList.take b++xs.toList.drop b):=by rw[take_append_drop];exact h
 unfold yd at hp ⊢;rw[pairwise_append]at hp ⊢;refine⟨hp.1,pairwise_cons.mpr ⟨λ y hy=>?_,hp.2.1⟩,λ x hx y hy=>?_⟩
 ·obtain⟨i,hi⟩:=getElem?_of_mem hy;rw[getElem?_drop]at hi;have:=h2 (b+i) y (by omega) hi;by_cases z:j=y
  ·subst z;exact absurd (m8 hi) n
  ·omega
 ·obtain⟨i,hi⟩:=getElem?_of_mem hx;have V8:i < b:=by have:=(i4.mp hi).1;rw[z7]at this;omega
  rw[getElem?_take_of_lt V8]at hi;have XJ:=h1 i x V8 hi;rcases C3.mp hy with rfl|hy
  ·exact XJ
  ·exact hp.2.2 x hx y hy
theorem HE{xs:Array Nat}{j k p:Nat}:k∈(SetTable.insertAt xs p j).toList↔k=j\/k∈xs.toList:=by have:=(SetTable.insertAt_perm xs p j).mem_iff (a:=k);rw[this,Array.toList_push,A9,u4];exact⟨λ h=>h.symm,λ h=>h.symm⟩
def mP(mask i:Nat):List Nat:=(List.range (SetTable.runEnd mask i+1 - i)).map (i+·)
def iN(mask:Nat):Nat->Nat×Nat->List Nat
 |0,_=>[]
 |B+1,(i,pt)=>mP mask i++iN mask B (SetTable.leap mask i pt)
def gw(mask B:Nat)(p:SetTable.Probe):List Nat:=(List.range (p.more+1)).map (p.j+·)++iN mask B (SetTable.leap mask p.i p.perturb)
theorem jT(mask i:Nat):i<=SetTable.runEnd mask i/\SetTable.runEnd mask i<=i+9:=by unfold SetTable.runEnd;split <;> omega
theorem Br(mask i:Nat):1<=(mP mask i).length/\(mP mask i).length<=10:=by unfold mP;rw[A8,y0];have:=jT mask i;omega
theorem tS(mask:Nat):∀(B:Nat) (q:Nat×Nat),(iN mask B q).length<=10*B
 |0,_=>D8 _
 |B+1,(i,pt)=>by show(mP mask i++iN mask B (SetTable.leap mask i pt)).length<=_;rw[r6];have:=(Br mask i).2;have:=tS mask B (SetTable.leap mask i pt);omega
theorem mR{mask B i pt:Nat}{d:Option Nat}:gw mask B {j:=i,more:=SetTable.runEnd mask i - i,i:=i,perturb:=pt,dummy:=d}=iN mask (B+1) (i,pt):=by unfold gw;show _=mP mask i++iN mask B (SetTable.leap mask i pt);unfold mP;have:=jT mask i;rw[show SetTable.runEnd mask i - i+1=SetTable.runEnd mask i+1 - i by omega]
theorem yH{t:SetTable}{B:Nat}{p:SetTable.Probe}(h:0 < p.more):gw t.mask B p=p.j::gw t.mask B (t.advance p)/\(t.advance p).dummy=p.dummy:=by
 unfold SetTable.advance;rw[J0 h];refine⟨?_,rfl⟩;unfold gw;dsimp only;rw[range_succ_eq_map,C2,D1,cons_append,Nat.add_zero,show p.more - 1+1=p.more by omega];have e:((p.j+·)∘Nat.succ)=(p.j+1+·):=funext λ x=>by show p.j+(x+1)=p.j+1+x;omega
 rw[e]
theorem yI{t:SetTable}{B:Nat}{p:SetTable.Probe}(h:p.more=0):gw t.mask (B+1) p=p.j::gw t.mask B (t.advance p)/\(t.advance p).dummy=p.dummy:=by
 have hn:¬p.more > 0:=by omega
 unfold SetTable.advance;rw[J7 hn];refine⟨?_,rfl⟩;have e1:gw t.mask (B+1) p=(List.range (p.more+1)).map (p.j+·)++iN t.mask (B+1) (SetTable.leap t.mask p.i p.perturb):=rfl;rw[e1,h];show _::iN t.mask (B+1) ((SetTable.leap t.mask p.i p.perturb).1,(SetTable.leap t.mask p.i p.perturb).2)=_;rw[<- mR (d:=p.dummy)];rfl
theorem Bu{mask:Nat}{p:SetTable.Probe}(h:p.more=0):gw mask 0 p=[p.j]:=by unfold gw;rw[h];rfl
theorem Dy{t:SetTable}(hd:t.dummies=#[])(hr:yd t.place.toList){hashAt:Nat->Int}{h:Int}:∀(fuel B:Nat) (p:SetTable.Probe),(gw t.mask B p).length<=fuel->p.dummy=none->(∃e∈gw t.mask B p,e∉t.place.toList)->
  ∃pre j post,gw t.mask B p=pre++j::post/\(∀k∈pre,∃i,t.place.toList[i]?=some k/\hashAt i≠h)/\
   ((j∉t.place.toList/\SetTable.probe.go t hashAt h fuel p=some (.empty j none))\/
    (∃i B' next,t.place.toList[i]?=some j/\hashAt i=h/\SetTable.probe.go t hashAt h fuel p=some (.candidate j i next)/\next.dummy=none/\(post≠[]->gw t.mask B' next=post)))
 |0,B,p,hl,_,⟨e,he,_⟩=>by rw[j5.mp (Nat.le_zero.mp hl)]at he;cases he
 |fuel+1,B,p,hl,hp,⟨e,he,ie⟩=>by
  have st:∃rest,gw t.mask B p=p.j::rest/\(t.advance p).dummy=none/\(rest≠[]->∃B',gw t.mask B' (t.advance p)=rest):=by
   by_cases hm:0 < p.more
   ·obtain⟨e1,e2⟩:=yH (t:=t) (B:=B) hm;exact⟨_,e1,e2.trans hp,λ _=>⟨B,rfl⟩⟩
   ·have hm:p.more=0:=by omega
    cases B with
    |zero=>
     have:(t.advance p).dummy=p.dummy:=by unfold SetTable.advance;rw[J7 (by omega)]
     exact⟨[],Bu hm,this.trans hp,λ z=>absurd rfl z⟩
    |succ B=>obtain⟨e1,e2⟩:=yI (t:=t) (B:=B) hm;exact⟨_,e1,e2.trans hp,λ _=>⟨B,rfl⟩⟩
  obtain⟨rest,e1,e2,e3⟩:=st;rw[e1]at hl he ⊢;unfold SetTable.probe.go;by_cases hj:p.j∈t.place.toList
  ·obtain⟨i,hi⟩:=getElem?_of_mem hj;rw[yC hr hi];dsimp only;by_cases hh:hashAt i=h
   ·rw[J0 (by simpa using hh)];by_cases Jw:rest=[]
    ·exact⟨[],p.j,rest,rfl,λ k hk=>(by cases hk),.inr ⟨i,0,_,hi,hh,rfl,e2,λ z=>absurd Jw z⟩⟩
    ·obtain⟨B',QU⟩:=e3 Jw;exact⟨[],p.j,rest,rfl,λ k hk=>(by cases hk),.inr ⟨i,B',_,hi,hh,rfl,e2,λ _=>QU⟩⟩
   ·rw[J7 (by simpa using hh)];have Sg:e∈rest:=by
     rcases C3.mp he with z|z
     ·subst z;exact absurd hj ie
     ·exact z
    obtain⟨B',QU⟩:=e3 (ne_nil_of_mem Sg);obtain⟨pre,j,post,f1,f2,f3⟩:=Dy hd hr fuel B' (t.advance p) (by rw[QU];simpa using hl) e2 ⟨e,by rw[QU];exact Sg,ie⟩;rw[QU]at f1;refine⟨p.j::pre,j,post,by rw[f1];rfl,λ k hk=>?_,f3⟩;rcases C3.mp hk with rfl|z
    ·exact⟨i,hi,hh⟩
    ·exact f2 k z
  ·rw[uA hd hr hj];dsimp only;rw[hp];exact⟨[],p.j,rest,rfl,λ k hk=>(by cases hk),.inl ⟨hj,rfl⟩⟩
end L2
namespace L2
open PySem
def Sr(m i:Nat):Nat:=(i*5+1) % m
def vk(m:Nat):Nat->Nat->Nat
 |0,i=>i
 |k+1,i=>vk m k (Sr m i)
theorem lV(m:Nat):∀(a b i:Nat),vk m (a+b) i=vk m b (vk m a i)
 |0,b,i=>by rw[D4];rfl
 |a+1,b,i=>by rw[Nat.add_right_comm];show vk m (a+b) (Sr m i)=vk m b (vk m a (Sr m i));exact lV m a b _
def Tv(m:Nat):Nat->Nat->List Nat
 |0,_=>[]
 |k+1,i=>i::Tv m k (Sr m i)
theorem xf(m:Nat):∀(n i j:Nat),j∈Tv m n i->∃k,k < n/\vk m k i=j
 |0,i,j,h=>by cases h
 |n+1,i,j,h=>by
  rcases C3.mp h with rfl|h
  ·exact⟨0,Nat.succ_pos _,rfl⟩
  ·obtain⟨k,hk,e⟩:=xf m n _ j h;exact⟨k+1,Nat.succ_lt_succ hk,e⟩
abbrev NH(m:Nat):Prop:=m=7\/m=31\/m=127
theorem xg{m:Nat}(h:NH m):((List.range (m+1)).all λ j=>(Tv (m+1) (m+1) 0).contains j)=true/\vk (m+1) (m+1) 0=0:=by
 rcases h with rfl|rfl|rfl
 ·exact⟨by decide+kernel,by decide+kernel⟩
 ·exact⟨by decide+kernel,by decide+kernel⟩
 ·exact⟨by decide+kernel,by decide+kernel⟩
theorem td{m j:Nat}(h:NH m)(hj:j<=m):∃k,k < m+1/\vk (m+1) k 0=j:=by have:=z9.mp (xg h).1 j (mem_range.mpr (by omega));exact xf _ _ _ _ (by simpa using this)
theorem HU{m i j:Nat}(h:NH m)(hi:i<=m)(hj:j<=m):∃k,k < m+1/\vk (m+1) k i=j:=by
 obtain⟨a,ha,ea⟩:=td h hi;obtain⟨b,hb,eb⟩:=td h hj;by_cases z:a<=b
 ·refine⟨b - a,by omega,?_⟩;rw[<- ea,<- lV,show a+(b - a)=b by omega];exact eb
 ·refine⟨m+1 - a+b,by omega,?_⟩;rw[lV,<- ea,<- lV _ a (m+1 - a),show a+(m+1 - a)=m+1 by omega,(xg h).2];exact eb
def lp(mask:Nat):Nat->Nat×Nat->Nat×Nat
 |0,q=>q
 |k+1,q=>lp mask k (SetTable.leap mask q.1 q.2)
theorem CL(m:Nat):∀(a b:Nat) (q:Nat×Nat),lp m (a+b) q=lp m b (lp m a q)
 |0,b,i=>by rw[D4];rfl
 |a+1,b,i=>by rw[Nat.add_right_comm];exact CL m a b _
theorem Jt{m:Nat}:∀(k:Nat) (q:Nat×Nat),q.1<=m->(lp m k q).1<=m
 |0,_,h=>h
 |k+1,q,_=>Jt k _ (Nat.le_of_lt_succ (Nat.mod_lt _ (Nat.succ_pos _)))
theorem CJ{m:Nat}:∀(k:Nat) (q:Nat×Nat),(lp m k q).2=q.2 / 32^k
 |0,q=>by rw[Nat.pow_zero,Nat.div_one];rfl
 |k+1,q=>by show(lp m k (SetTable.leap m q.1 q.2)).2=_;rw[CJ k,Nat.pow_succ,Nat.mul_comm,<- Nat.div_div_eq_div_mul];rfl
theorem CK{m:Nat}:∀(k i:Nat),lp m k (i,0)=(vk (m+1) k i,0)
 |0,_=>rfl
 |k+1,i=>by show lp m k ((i*5+1+0 / 32) % (m+1),0 / 32)=_;exact CK k _
theorem Bq{m i:Nat}:i∈mP m i:=by unfold mP;have:=jT m i;exact C9.mpr ⟨0,mem_range.mpr (by omega),rfl⟩
theorem x_{m:Nat}:∀(B k:Nat) (q:Nat×Nat),k < B->(lp m k q).1∈iN m B q
 |0,k,q,h=>by omega
 |B+1,0,(i,pt),_=>m9 _ Bq
 |B+1,k+1,(i,pt),h=>k9 _ (x_ B k _ (by omega))
theorem tT{m i pt j:Nat}(h:NH m)(hi:i<=m)(hp:pt < 2^64)(hj:j<=m):j∈iN m (m+15) (i,pt):=by
 have e:lp m 13 (i,pt)=((lp m 13 (i,pt)).1,0):=by refine Prod.ext rfl ?_;rw[CJ];exact Nat.div_eq_of_lt (u3 hp (by decide))
 obtain⟨k,hk,ek⟩:=HU h (Jt 13 (i,pt) hi) hj;have e2:(lp m (13+k) (i,pt)).1=j:=by rw[CL,e,CK];exact ek
 rw[<- e2];exact x_ _ _ _ (by omega)
theorem Kx{m i j:Nat}(hi:i<=m)(h:j∈mP m i):j<=m:=by unfold mP at h;obtain⟨k,hk,rfl⟩:=C9.mp h;rw[mem_range]at hk;unfold SetTable.runEnd at hk;split at hk <;> omega
theorem rp{m j:Nat}:∀(B:Nat) (q:Nat×Nat),q.1<=m->j∈iN m B q->j<=m
 |0,_,_,h=>by cases h
 |B+1,(i,pt),hi,h=>by
  rcases A9.mp h with h|h
  ·exact Kx hi h
  ·exact rp B _ (Nat.le_of_lt_succ (Nat.mod_lt _ (Nat.succ_pos _))) h
theorem x'(h:Int):SetTable.bits h < 2^64:=by unfold SetTable.bits;have:=A5 h (b:=2^64) (by decide);have:=s9 h (b:=2^64) (by decide);omega
theorem yB{l:List Nat}{m:Nat}(h:l.length<=m):∃j,j<=m/\j∉l:=by
 refine Decidable.byContradiction λ z=>?_;have hs:List.range (m+1)⊆l:=λ j hj=>by refine Decidable.byContradiction λ n=>z ⟨j,?_,n⟩;have:=mem_range.mp hj;omega
 have:=List.Nodup.length_le_of_subset nodup_range hs;rw[y0]at this;omega
structure Tab0(t:SetTable)(n:Nat):Prop where
 dm:t.dummies=#[]
 RW:yd t.place.toList
 sz:t.place.size=n
 le:∀j∈t.place.toList,j<=t.mask
 pl:t.plain=true
 VI:NH t.mask
theorem zy{t:SetTable}{n:Nat}(T:Tab0 t n)(hn:n<=t.mask)(h:Int):∃j,j<=t.mask/\j∉t.place.toList/\t.freeSlot h=some (j,false):=by
 have hi:SetTable.bits h % (t.mask+1)<=t.mask:=Nat.le_of_lt_succ (Nat.mod_lt _ (Nat.succ_pos _));obtain⟨e,he,ie⟩:=yB (l:=t.place.toList) (m:=t.mask) (by rw[o7,T.sz];exact hn);have em:e∈iN t.mask (t.mask+15) (SetTable.bits h % (t.mask+1),SetTable.bits h):=tT T.VI hi (x' h) he;have rs:gw t.mask (t.mask+14) (t.probeStart h)=iN t.mask (t.mask+15) (SetTable.bits h % (t.mask+1),SetTable.bits h):=mR;obtain⟨pre,j,post,e1,e2,e3⟩:=Dy T.dm T.RW (hashAt:=λ _=>h+1) (h:=h) (10*SetTable.turns t.mask) (t.mask+14) (t.probeStart h) (by rw[rs];exact tS _ _ _) rfl ⟨e,by rw[rs];exact em,ie⟩;have jm:j<=t.mask:=by refine rp (t.mask+15) (SetTable.bits h % (t.mask+1),SetTable.bits h) hi ?_;rw[<- rs,e1];exact k9 _ q9
 rcases e3 with⟨a,b⟩|⟨i,B',next,_,z,_⟩
 ·refine⟨j,jm,a,?_⟩;unfold SetTable.freeSlot SetTable.probe;rw[b];rfl
 ·exact absurd z (by show ¬h+1=h;omega)
theorem GN{t:SetTable}{n j:Nat}(T:Tab0 t n)(hj:j<=t.mask)(nj:j∉t.place.toList):Tab0 (t.put j).1 (n+1)/\(t.put j).1.mask=t.mask/\(t.put j).1.led=t.led:=by
 have hd:SetTable.has t.dummies j=false:=by rw[T.dm];simp[SetTable.has,SetTable.below]
 unfold SetTable.put;dsimp only;rw[hd];refine⟨⟨T.dm,FG T.RW nj,?_,λ k hk=>?_,T.pl,T.VI⟩,rfl,rfl⟩
 ·have:=(SetTable.insertAt_perm t.place (SetTable.below t.place j) j).length_eq;rw[o7,o7,Array.size_push,T.sz]at this;exact this
 ·rcases HE.mp hk with rfl|hk
  ·exact hj
  ·exact T.le k hk
theorem Tab0.fits {t:SetTable}{n:Nat}(T:Tab0 t n)(hn:n<=t.mask):t.fits n=true:=by unfold SetTable.fits SetTable.fill;rw[T.sz,T.dm];simp[hn]
theorem HK{t:SetTable}{n:Nat}(T:Tab0 t n)(hn:n+1<=t.mask){es:Array (Int×Value)}(QH:es.size=n)(h:Int)(x:Value):∃l_ t1,layNew t es h x=(l_,t1,false,false)/\Tab0 t1 (n+1)/\t1.mask=t.mask/\t1.led=t.led/\l_.size=n+1:=by
 obtain⟨j,hj,nj,e⟩:=zy T (by omega) h;obtain⟨T1,m1,l1⟩:=GN T hj nj;have sz:(SetTable.insertAt es (t.put j).2 (h,x)).size=n+1:=by have:=(SetTable.insertAt_perm es (t.put j).2 (h,x)).length_eq;rw[o7,o7,Array.size_push,QH]at this;exact this
 have hf:(t.put j).1.fits (n+1)=true:=T1.fits (by rw[m1];exact hn);refine⟨SetTable.insertAt es (t.put j).2 (h,x),(t.put j).1,?_,T1,m1,l1,sz⟩;unfold layNew;rw[e];dsimp only;rw[sz];unfold SetTable.orStandIn;rw[hf];rfl
theorem xF{mask:Nat}{owner:Array (Option Nat)}:∀(fuel i pt:Nat),(∃e∈iN mask fuel (i,pt),(owner.getD e (some 0)).isNone=true)->
  ∃j∈iN mask fuel (i,pt),(owner.getD j (some 0)).isNone=true/\SetTable.layClean.free mask owner fuel i pt=some j
 |0,i,pt,⟨e,he,_⟩=>by cases he
 |fuel+1,i,pt,⟨e,he,hn⟩=>by
  unfold SetTable.layClean.free;cases hf:(List.range (SetTable.runEnd mask i+1 - i)).find? λ k=>(owner.getD (i+k) (some 0)).isNone with
  |some k=>refine⟨i+k,m9 _ (C9.mpr ⟨k,mem_of_find?_eq_some hf,rfl⟩),(find?_some (p:=λ k=>(owner.getD (i+k) (some 0)).isNone) hf),rfl⟩
  |none=>
   rcases A9.mp he with he|he
   ·obtain⟨k,hk,rfl⟩:=C9.mp he;exact absurd hn (find?_eq_none.mp hf k hk)
   ·obtain⟨j,a,b,c⟩:=xF fuel (SetTable.leap mask i pt).1 (SetTable.leap mask i pt).2 ⟨e,he,hn⟩;exact⟨j,k9 _ a,b,c⟩
def k_(mask:Nat)(owner:Array (Option Nat)):List Nat:=(List.range (mask+1)).filterMap λ j=>owner.getD j none
theorem nK{f g:Nat->Option Nat}:∀(l:List Nat),(∀j∈l,f j=g j)->l.filterMap f=l.filterMap g
 |[],_=>rfl
 |a::l,h=>by rw[q8,q8,h a q9,nK l λ j hj=>h j (m7 _ hj)]
theorem DH{f:Nat->Option Nat}:∀(l:List Nat),(∀j∈l,f j≠none)->(l.filterMap f).length=l.length
 |[],_=>rfl
 |a::l,h=>by
  cases e:f a with
  |none=>exact absurd e (h a q9)
  |some b=>rw[filterMap_cons_some e,y9,y9,DH l λ j hj=>h j (m7 _ hj)]
theorem Co{mask k:Nat}{owner:Array (Option Nat)}(hs:owner.size=mask+1)(hp:(k_ mask owner).Perm (List.range k))(hk:k<=mask):∃j,j<=mask/\(owner.getD j (some 0)).isNone=true:=by
 refine Decidable.byContradiction λ z=>?_;have:=DH (f:=λ j=>owner.getD j none) (List.range (mask+1)) λ j hj e=>by
  have lt:=mem_range.mp hj;refine z ⟨j,by omega,?_⟩;have h1:j < owner.size:=by omega
  simp only[Array.getD,h1,dite_true]at e ⊢;rw[e];rfl
 have h2:(k_ mask owner).length=k:=by rw[hp.length_eq,y0]
 unfold k_ at h2;rw[y0]at this;omega
theorem Ha{mask k j:Nat}{owner:Array (Option Nat)}(hs:owner.size=mask+1)(hp:(k_ mask owner).Perm (List.range k))(hj:j<=mask)(hn:(owner.getD j (some 0)).isNone=true): (owner.setIfInBounds j (some k)).size=mask+1/\(k_ mask (owner.setIfInBounds j (some k))).Perm (List.range (k+1)):=by
 refine⟨by rw[Array.size_setIfInBounds];exact hs,?_⟩;have h1:j < owner.size:=by omega
 have Yg:owner.getD j none=none:=by simp only[Array.getD,h1,dite_true]at hn ⊢;exact Option.isNone_iff_eq_none.mp hn
 obtain⟨l1,l2,e⟩:=append_of_mem (mem_range.mpr (show j < mask+1 by omega));have nd:(l1++j::l2).Nodup:=by rw[<- e];exact nodup_range
 have n1:j∉l1:=λ z=>by have:=(nodup_append.mp nd).2.2 j z j q9;exact this rfl
 have n2:j∉l2:=(nodup_cons.mp (nodup_append.mp nd).2.1).1;have hX:∀i,i≠j->(owner.setIfInBounds j (some k)).getD i none=owner.getD i none:=λ i hi=>by
  simp only[Array.getD,Array.size_setIfInBounds];by_cases h2:i < owner.size
  ·simp only[h2,dite_true];have:(owner.setIfInBounds j (some k))[i]?=owner[i]?:=by rw[Array.getElem?_setIfInBounds,J7 (H9 hi)]
   rw[i0 h2,i0 (by rw[Array.size_setIfInBounds];exact h2)]at this;exact A6 this
  ·simp only[h2,dite_false]
 have at':(owner.setIfInBounds j (some k)).getD j none=some k:=by
  simp only[Array.getD,Array.size_setIfInBounds,h1,dite_true];have:(owner.setIfInBounds j (some k))[j]?=some (some k):=by rw[Array.getElem?_setIfInBounds,J0 rfl,J0 h1]
  rw[i0 (by rw[Array.size_setIfInBounds];exact h1)]at this;exact A6 this
 unfold k_ at hp ⊢;rw[e,filterMap_append,filterMap_cons_none (f:=λ j=>owner.getD j none) Yg]at hp;rw[e,filterMap_append,filterMap_cons_some (f:=λ i=>(owner.setIfInBounds j (some k)).getD i none) at',nK l1 λ i hi=>hX i λ z=>n1 (z▸hi),nK l2 λ i hi=>hX i λ z=>n2 (z▸hi),range_succ];exact perm_middle.trans ((hp.cons k).trans (perm_append_singleton k (List.range k)).symm)
theorem zg{mask:Nat}(M:NH mask)(hashes:Array Int)(hn:hashes.size<=mask+1):∃owner,SetTable.layClean mask hashes=some owner/\owner.size=mask+1/\(k_ mask owner).Perm (List.range hashes.size):=by
 have gen:∀(l:List Int) (owner:Array (Option Nat)) (k:Nat),owner.size=mask+1->(k_ mask owner).Perm (List.range k)->k+l.length<=mask+1->
   ∃uV,l.foldl (init:=some (owner,k)) (λ acc h=>do
    let(owner,k) <- acc
    let j <- SetTable.layClean.free mask owner (SetTable.turns mask) (SetTable.bits h % (mask+1)) (SetTable.bits h)
    pure (owner.setIfInBounds j (some k),k+1))=some (uV,k+l.length)/\uV.size=mask+1/\(k_ mask uV).Perm (List.range (k+l.length)):=by
  intro l
  induction l with
  |nil=>exact λ owner k h1 h2 _=>⟨owner,rfl,h1,h2⟩
  |cons h l ih=>
   intro owner k h1 h2 h3;rw[y9]at h3;have hi:SetTable.bits h % (mask+1)<=mask:=Nat.le_of_lt_succ (Nat.mod_lt _ (Nat.succ_pos _));obtain⟨e,he,ie⟩:=Co h1 h2 (by omega);obtain⟨j,j1,j2,j3⟩:=xF (mask:=mask) (owner:=owner) (SetTable.turns mask) (SetTable.bits h % (mask+1)) (SetTable.bits h) ⟨e,tT M hi (x' h) he,ie⟩;have jm:=rp (mask+15) (SetTable.bits h % (mask+1),SetTable.bits h) hi j1;obtain⟨h4,h5⟩:=Ha h1 h2 jm j2;obtain⟨o',f1,f2,f3⟩:=ih _ (k+1) h4 h5 (by omega);refine⟨o',?_,f2,?_⟩
   ·rw[foldl_cons];have:(do let(owner,k) <- some (owner,k);let j <- SetTable.layClean.free mask owner (SetTable.turns mask) (SetTable.bits h % (mask+1)) (SetTable.bits h);pure (owner.setIfInBounds j (some k),k+1):Option (Array (Option Nat)×Nat))=some (owner.setIfInBounds j (some k),k+1):=by show(SetTable.layClean.free mask owner (SetTable.turns mask) (SetTable.bits h % (mask+1)) (SetTable.bits h)).bind _=_;rw[j3];rfl
    rw[this,f1,y9,Nat.add_right_comm,Nat.add_assoc]
   ·rw[y9,show k+(l.length+1)=k+1+l.length by omega];exact f3
 have e0:(k_ mask (Array.replicate (mask+1) none)).Perm (List.range 0):=by
  have:k_ mask (Array.replicate (mask+1) none)=[]:=by unfold k_;rw[filterMap_eq_nil_iff];intro j _;rw[Array.getD_eq_getD_getElem?,Array.getElem?_replicate];split <;> rfl
  rw[this];exact List.Perm.refl _
 obtain⟨o',f1,f2,f3⟩:=gen hashes.toList _ 0 (by simp) e0 (by rw[o7];omega);refine⟨o',?_,f2,by rw[o7,D4]at f3;exact f3⟩;unfold SetTable.layClean;rw[<- Array.foldl_toList,f1];rfl
theorem nz(f:Nat->Option Nat):∀l:List Nat,((l.filterMap λ j=>(f j).map (j,·)).map (·.1)).Sublist l
 |[]=>.slnil
 |a::l=>by
  cases e:f a with
  |none=>rw[filterMap_cons_none (by rw[e];rfl)];exact(nz f l).cons a
  |some b=>rw[filterMap_cons_some (b:=(a,b)) (by rw[e];rfl),C2];exact(nz f l).cons₂ a
theorem ny(f:Nat->Option Nat):∀l:List Nat,(l.filterMap λ j=>(f j).map (j,·)).map (·.2)=l.filterMap f
 |[]=>rfl
 |a::l=>by
  cases e:f a with
  |none=>rw[filterMap_cons_none (by rw[e];rfl),filterMap_cons_none e];exact ny f l
  |some b=>rw[filterMap_cons_some (b:=(a,b)) (by rw[e];rfl),C2,filterMap_cons_some e,ny f l]
theorem pC{t:SetTable}{es:Array (Int×Value)}{wanted m:Nat}(pl:t.plain=true)(e:SetTable.sizeAbove wanted=m+1)(M:NH m)(hn:es.size<=m):∃Af t2,relayAll t es wanted=(Af,t2,false)/\Tab0 t2 es.size/\t2.mask=m/\t2.led=t.led/\Af.size=es.size:=by
 obtain⟨owner,o1,o2,o3⟩:=zg M (es.map (·.1)) (by rw[Array.size_map];omega);rw[Array.size_map]at o3;have sl:=nz (λ j=>owner.getD j none) (List.range (m+1));have sn:=ny (λ j=>owner.getD j none) (List.range (m+1));generalize hl:((List.range (m+1)).filterMap λ j=>(owner.getD j none).map (j,·))=live at sl sn;have hp:(live.map (·.2)).Perm (List.range es.size):=by rw[sn];exact o3
 have len:live.length=es.size:=by rw[<- A8 (f:=(·.2)),hp.length_eq,y0]
 have er:t.relaid (es.map (·.1)) wanted=some ({mask:=m,place:=(live.map (·.1)).toArray,dummies:=#[],finger:=t.finger,led:=t.led,moves:=t.movedTo m,plain:=t.plain},(live.map (·.2)).toArray):=by unfold SetTable.relaid SetTable.laid;rw[e,Nat.add_sub_cancel,o1];show some (_,_)=_;rw[hl]
 have T:Tab0 {mask:=m,place:=(live.map (·.1)).toArray,dummies:=#[],finger:=t.finger,led:=t.led,moves:=t.movedTo m,plain:=t.plain} es.size:=by
  refine⟨rfl,?_,?_,λ j hj=>?_,pl,M⟩
  ·exact List.Pairwise.sublist sl (pairwise_lt_range)
  ·show(live.map (·.1)).toArray.size=_;rw[y3,A8,len]
  ·have:=mem_range.mp (sl.subset hj);show j<=m;omega
 have pm:=relayAll_perm t es wanted;have ca:coversAll (live.map (·.2)).toArray es.size=true:=by unfold coversAll;exact isPerm_iff.mpr hp
 have sz:((live.map (·.2)).toArray.filterMap (es[·]?)).size=es.size:=by
  rw[<- o7,Array.toList_filterMap];have:((live.map (·.2)).filterMap (es[·]?)).Perm ((List.range es.size).filterMap (es[·]?)):=hp.filterMap _;rw[this.length_eq];have h2:∀l:List Nat,(∀j∈l,j < es.size)->(l.filterMap (es[·]?)).length=l.length:=by
   intro l
   induction l with
   |nil=>exact λ _=>rfl
   |cons a l ih=>intro h;rw[filterMap_cons_some (i0 (h a q9)),y9,y9,ih λ j hj=>h j (m7 _ hj)]
  rw[h2 _ λ j hj=>mem_range.mp hj,y0]
 refine⟨(live.map (·.2)).toArray.filterMap (es[·]?),_,?_,T,rfl,rfl,sz⟩;unfold relayAll;rw[er];dsimp only;rw[ca,sz,T.fits hn];rfl
structure Tab(t:SetTable)(n:Nat):Prop extends Tab0 t n where
 Ss:(t.mask=7/\n<=4)\/(t.mask=31/\n<=18)\/(t.mask=127/\n<=76)
theorem Tab.fit {t:SetTable}{n:Nat}(T:Tab t n):t.fits n=true:=T.fits (by have:=T.Ss;omega)
theorem ph(f m:Nat)(led:Bool):Tab (.fresh f m led) 0:=⟨⟨rfl,List.Pairwise.nil,rfl,λ j h=>(by cases h),rfl,.inl rfl⟩,.inl ⟨rfl,F0 _⟩⟩
theorem kL{t:SetTable}{n:Nat}(T:Tab0 t n):t.tooFull=decide (n*5 ≥ t.mask*3):=by unfold SetTable.tooFull SetTable.fill;rw[T.dm,T.sz];rfl
theorem IS{t:SetTable}{n:Nat}(T:Tab t n)(hn:n < 76){es:Array (Int×Value)}(QH:es.size=n)(h:Int)(x:Value):∃l_ t1,layNew t es h x=(l_,t1,false,false)/\t1.plain=true/\t1.led=t.led/\l_.size=n+1/\t1.fits l_.size=true/\
   (t1.tooFull=true->∃Af t2,relayAll t1 l_ (SetTable.grown l_.size)=(Af,t2,false)/\t2.led=t.led/\Af.size=n+1/\Tab t2 (n+1))/\(t1.tooFull=false->Tab t1 (n+1)):=by
 obtain⟨l_,t1,e1,T1,m1,l1,s1⟩:=HK T.toTab0 (by have:=T.Ss;omega) QH h x;have Ss:=T.Ss;refine⟨l_,t1,e1,T1.pl,l1,s1,by rw[s1];exact T1.fits (by rw[m1];omega),λ tf=>?_,λ tf=>⟨T1,?_⟩⟩
 ·rw[kL T1,decide_eq_true_eq,m1]at tf;have two:(n=4/\t.mask=7)\/(n=18/\t.mask=31):=by omega
  rcases two with⟨rfl,mm⟩|⟨rfl,mm⟩
  ·obtain⟨Af,t2,f1,f2,f3,f4,f5⟩:=pC (t:=t1) (es:=l_) (wanted:=SetTable.grown l_.size) (m:=31) T1.pl (by rw[s1];decide+kernel) (.inr (.inl rfl)) (by omega);rw[s1]at f2;exact⟨Af,t2,f1,f4.trans l1,f5.trans s1,f2,.inr (.inl ⟨f3,by omega⟩)⟩
  ·obtain⟨Af,t2,f1,f2,f3,f4,f5⟩:=pC (t:=t1) (es:=l_) (wanted:=SetTable.grown l_.size) (m:=127) T1.pl (by rw[s1];decide+kernel) (.inr (.inr rfl)) (by omega);rw[s1]at f2;exact⟨Af,t2,f1,f4.trans l1,f5.trans s1,f2,.inr (.inr ⟨f3,by omega⟩)⟩
 ·rw[kL T1,decide_eq_false_iff_not,m1]at tf;rw[m1];omega
end L2
namespace L2
open PySem PySem.Spec PyProof.Rows
def PX:Value->Int
 | .int k _=>k
 |_=>0
def ub(es:Array (Int×Value)):List Int:=es.toList.map λ e=>PX e.2
abbrev z_(es:Array (Int×Value)):Prop:=∀e∈es.toList,∃(k:Int) (tk:Tok),e=(hashInt k,Value.int k tk)
abbrev gq(es:Array (Int×Value))(ep:Nat)(t:SetTable):Obj:={cls:=.type "set",dict:=none,data:=.set es ep t}
def lE(h:Heap)(a:Addr)(led:Bool)(ks:List Int):Prop:=∃es ep t,h.get? a=some (gq es ep t)/\z_ es/\ub es=ks/\Tab t es.size/\t.led=led
theorem lE.at {h h':Heap}{a:Addr}{led:Bool}{ks:List Int}(S:lE h a led ks)(k:∀o,h.get? a=some o->h'.get? a=some o):lE h' a led ks:=
 let⟨es,ep,t,e,r⟩:=S
 ⟨es,ep,t,k _ e,r⟩
section
variable {prog:Program}{w:World}{A:Around}{E:Value->Shared->Prop}{s:Shared}
theorem z_.elems {es:Array (Int×Value)}(h:z_ es):ElemsOf (intKind prog w) es.toList:=λ e he=>by obtain⟨k,tk,rfl⟩:=h e he;exact⟨⟨k,intKind_is _ _ _ _,rfl⟩,rfl⟩
theorem kys_len(es:Array (Int×Value)):(ub es).length=es.size:=by unfold ub;rw[A8,o7]
theorem HN{es:Array (Int×Value)}(h:z_ es){k:Int}{e:Int×Value}(he:e∈es.toList)(hk:(intKind prog w).is k e.2=true):k∈ub es:=by obtain⟨k',tk,rfl⟩:=h e he;have:=(intKind prog w).inj _ k k' hk (intKind_is _ _ _ _);subst this;exact C9.mpr ⟨_,he,rfl⟩
theorem HF{es:Array (Int×Value)}(h:z_ es){k:Int}(hk:k∈ub es):∃e∈es.toList,(intKind prog w).is k e.2=true:=by obtain⟨e,he,ek⟩:=C9.mp hk;obtain⟨k',tk,rfl⟩:=h e he;have:k'=k:=ek;subst this;exact⟨_,he,intKind_is _ _ _ _⟩
theorem rV{h:Heap}{a:Addr}{es es':Array (Int×Value)}{ep:Nat}{t t':SetTable}(ho:h.get? a=some (gq es ep t)):(h.update a (Obj.putSet es' t')).get? a=some (gq es' (ep+1) t'):=by have:=k8 (Obj.putSet es' t') ho (by rw[putSet_of es' t' rfl];rfl);rw[putSet_of es' t' rfl]at this;exact this
theorem wa{a:Addr}{led:Bool}{ks:List Int}{k:Int}{tk:Tok}{Q:Bool->Shared->Prop}(S:lE s.heap a led ks)(dY:ks.length < 76) (h:∀(b:Bool) (h':Heap) (CQ:List Int),Heap.SameBut a s.heap h'->lE h' a led CQ->CQ.Perm (if k∈ks then ks else k::ks)->Q b {s with heap:=h'}):wpAny (model prog w) A (setAddHashed a (.int k tk) (hashInt k)) Q E s:=by
 obtain⟨es,ep,t,ho,he,hk,T,hl⟩:=S;subst hk;rw[kys_len]at dY;have hb:es.size < scanBound:=Nat.lt_trans dY (by decide);unfold setAddHashed setAddHashedIn;refine B8 (G1 (wpAny_setState_of ho rfl T.fit ?_));dsimp only;rw[byScan_of (knd:=intKind prog w) (x:=.int k tk) rfl hb he.elems,J0 rfl];unfold setAddByScan;refine G1 (G1 (wpAny_rule (G1 (wpAny_setScan_of (knd:=intKind prog w) (k:=k) (intKind_is _ _ _ _) ho rfl T.fit he.elems ?_))));cases hr:List.findIdx? (λ e=>(intKind prog w).is k e.2) es.toList with
 |some j=>dsimp only;obtain⟨hj,Yc,_⟩:=findIdx?_eq_some_iff_getElem.mp hr;have hm:k∈ub es:=HN he (z8 hj) Yc;refine G2 (G2 ?_);have:=h false s.heap (ub es) (Heap.SameBut.refl a s.heap) ⟨es,ep,t,ho,he,rfl,T,hl⟩ (by rw[J0 hm]);exact this
 |none=>
  dsimp only;have hm:k∉ub es:=λ z=>by obtain⟨e,h1,h2⟩:=HF (prog:=prog) (w:=w) he z;have:=findIdx?_eq_none_iff.mp hr e h1;rw[h2]at this;cases this
  obtain⟨l_,t1,e1,p1,l1,s1,f1,c1,c2⟩:=IS T dY rfl (hashInt k) (.int k tk);have pm:=layNew_perm t es (hashInt k) (.int k tk);rw[e1,Array.toList_push]at pm;rw[e1];dsimp only at pm ⊢;have QY:z_ l_:=λ e z=>by
   rcases A9.mp (pm.mem_iff.mp z)with z|z
   ·exact he e z
   ·rw[u4.mp z];exact⟨k,tk,rfl⟩
  have pk:(ub l_).Perm (k::ub es):=by have:=pm.map λ e:Int×Value=>PX e.2;rw[B0]at this;exact this.trans (perm_append_singleton k _)
  have W_:l_.size<=sizeLine:=by rw[D9];omega
  refine G1 (G2 ?_);rw[p1,J0 rfl];refine G1 (G2 ?_);have tt:(if True then t1 else{t1 with plain:=false})=t1:=J0 trivial;rw[J0 (by rfl)];refine G1 (wpAny_storeSet_of ho rfl ?_ W_);have o1:=rV (es':=l_) (t':=t1) ho;have b1:=o4 s.heap a (Obj.putSet l_ t1);cases tf:t1.tooFull with
  |true=>rw[J0 (by rfl)];obtain⟨Af,t2,e2,l2,s2,T2⟩:=c1 tf;have RY:=relayAll_perm t1 l_ (SetTable.grown l_.size);rw[e2]at RY;rw[e2];dsimp only at RY ⊢;refine G1 (G2 ?_);refine G1 (wpAny_storeSet_of o1 rfl ?_ (by rw[s2,D9];omega));refine G2 (G2 (h true _ (ub Af) (b1.trans (o4 _ a _)) ⟨Af,ep+1+1,t2,rV o1,λ e z=>QY e (RY.mem_iff.mp z),rfl,by rw[s2];exact T2,l2.trans hl⟩ ?_));rw[J7 hm];exact(RY.map _).trans pk
  |false=>rw[J7 (by decide)];refine G2 (G2 (h true _ (ub l_) b1 ⟨l_,ep+1,t1,o1,QY,rfl,by rw[s1];exact c2 tf,l1.trans hl⟩ ?_));rw[J7 hm];exact pk
end
end L2
namespace L2
open PySem PySem.Spec PyProof.Rows
def Once(ks ns:List Int):Prop:=ks.Nodup/\∀k,k∈ks↔k∈ns
theorem Once.step {ks CQ ns:List Int}{k:Int}(o:Once ks ns)(p:CQ.Perm (if k∈ks then ks else k::ks)):Once CQ (ns++[k]):=by
 by_cases h:k∈ks
 ·rw[J0 h]at p;refine⟨p.nodup_iff.mpr o.1,λ x=>?_⟩;rw[p.mem_iff,o.2,A9,u4];exact⟨.inl,λ z=>z.elim id λ z=>by subst z;exact(o.2 _).mp h⟩
 ·rw[J7 h]at p;refine⟨p.nodup_iff.mpr (nodup_cons.mpr ⟨h,o.1⟩),λ x=>?_⟩;rw[p.mem_iff,C3,o.2,A9,u4];exact⟨λ z=>z.symm,λ z=>z.symm⟩
theorem Once.dY {ks ns:List Int}(o:Once ks ns):ks.length<=ns.length:=List.Nodup.length_le_of_subset o.1 λ k h=>(o.2 k).mp h
section
variable {prog:Program}{w:World}{A:Around}{I:Addr}{fp wr:List Addr}{G:Array GenState->Array GenState->Prop}{P:Nat->Value->Prop}{St:Nat->Shared->Prop}
theorem rP{R:Result->Shared->Prop}{ns:List Int}(W:WalksS prog w A.in1 I fp wr G ns.length P St)(S:Addr)(hS:S∉fp)(led:Bool) (val:∀i v,P i v->∃(k:Int) (t:Tok),ns[i]?=some k/\v=.int k t) (dY:ns.length<=76):∀(m i:Nat) (s:Shared) (ks:List Int),m+i=ns.length->St i s->lE s.heap S led ks->Once ks (ns.take i)-> (∀s' CQ,Moved (S::wr) G s s'->lE s'.heap S led CQ->Once CQ ns->R (.ok (.ret .none)) s')->
  codeAny (model prog w) A (.builtin "set.update.loop" ⟨[.ref S,.ref I],[]⟩) R s:=by
 have hw:S∉wr:=λ z=>hS (W.sub _ z);have sub:∀b∈wr,b∈S::wr:=λ b z=>m7 _ z;intro m
 induction m with
 |zero=>
  intro i s ks e st hZ ho hR;have e:i=ns.length:=by omega
  subst e;refine codeAny_builtin F.entry_set_update_loop ?_;rw[Around.under_plainId F.plain_set_update_loop _];show wpAny _ A.in1 (pyNext (.ref I) >>= _) _ _ s;refine G1 (W.done s _ _ st λ s' mv=>?_);rw[z4]at ho;exact G2 (hR s' ks (mv.mono sub) (hZ.at λ o z=>mv.heap S o hw z) ho)
 |succ m ih=>
  intro i s ks e st hZ ho hR;refine codeAny_builtin F.entry_set_update_loop ?_;rw[Around.under_plainId F.plain_set_update_loop _];show wpAny _ A.in1 (pyNext (.ref I) >>= _) _ _ s;refine G1 (W.item i s _ _ (by omega) st λ v s' hP ux mv=>?_);obtain⟨k,t,hk,rfl⟩:=val i v hP;have YK:lE s'.heap S led ks:=hZ.at λ o z=>mv.heap S o hw z;have lk:ks.length < 76:=by have:=ho.dY;rw[z7]at this;omega
  show wpAny _ A.in1 (holding [Value.int k t] (setAdd S (.int k t)) >>= _) _ _ s';refine G1 (B8 ?_);unfold setAdd;refine B8 (G1 ((intKind prog w).pyHash (k:=k) (intKind_is _ _ _ _) ?_));refine wa (s:={s' with toks:=s'.toks+1}) YK lk λ b h' CQ sb YJ pm=>?_;have NU:Once CQ (ns.take (i+1)):=by rw[take_add_one,hk];exact ho.step pm
  refine G2 ⟨plainId_quiet F.plain_set_update_loop _,ih (i+1) _ CQ (by omega) (W.frame _ s' _ _ ux (Nat.le_succ _) λ b hb o z=>?_) YJ NU λ s2 Xx Xt YI Yd=>?_⟩
  ·rw[sb.2 b λ z2:b=S=>hS (by rw[<- z2];exact hb)];exact z
  ·refine hR s2 Xx (Moved.trans W.gtrans ((mv.mono sub).then_heap (Nat.le_succ _) λ b o hb z=>?_) Xt) YI Yd;rw[sb.2 b λ z2:b=S=>hb (by rw[z2];exact q9)];exact z
end
section
variable {prog:Program}{w:World}{A:Around}{E:Value->Shared->Prop}{s:Shared}
def qg(w:World):Bool:=w.params.followText "set-order"
abbrev bL(w:World):Obj:=gq #[] 0 (.fresh 0 0 (!qg w))
theorem xi(a:Value){Q:Value->Shared->Prop}(h:Q (.ref s.heap.objs.size) {s with heap:=s.heap.push (bL w)}):codeAny (model prog w) A (.call (.builtin "set.__new__") ⟨[.type "set",a],[]⟩) (wants Q E) s:=by
 refine codeAny_of_tree ?_;show wpAny _ A.in1 (checkBuiltinCall "set.__new__" ⟨[.type "set",a],[]⟩ >>= λ _=>again (.builtin "set.__new__" ⟨[.type "set",a],[]⟩)) _ _ s;refine G1 (wpAny_of_eq (F.newCall_set_1 a) (G2 ⟨plainId_quiet F.plain_set_new _,codeAny_builtin F.entry_set_new ?_⟩));rw[Around.under_plainId F.plain_set_new _];unfold Builtin.«set.__new__» Builtin.Frozenset.newClass;have HZ:=sub_set_self;obtain⟨hp,g,d,tk,os⟩:=s;dsimp only
 wp_walk
 refine wpAny_askSetting (G2 ?_);dsimp only;simp only[newObj];refine G1 (wpAny_alloc (G2 ?_));exact G2 h
theorem nV{T newId fG:String}{Bi:Builtin}{args:List Value}{Q Q₁:Value->Shared->Prop}(ft:TypeCalled T newId fG)(hct:checkTypeCall T ⟨args,[]⟩=pure ())(M_:entryFor table fG=some Bi) (Dq:codeAny (model prog w) A.in1 (.call (.builtin newId) ⟨.type T::args,[]⟩) (wants Q₁ E) s) (Ql:∀obj s₁,Q₁ obj s₁->s₁.TypeIs obj T/\wpAny (model prog w) A.in1.in1 (checkBuiltinCall fG ⟨obj::args,[]⟩) (λ _ s₁=>wpAny (model prog w) A.in1.in1 (Bi ⟨obj::args,[]⟩)
    (λ fin s'=>match fin with| .done f=>wants (λ r s₂=>r=.none/\Q obj s₂) E (.ok f) s'| .again c'=>c'.quiet=true/\codeAny (model prog w) A.in1 c' (wants (λ r s₂=>r=.none/\Q obj s₂) E) s')
    (λ e s'=>wants (λ r s₂=>r=.none/\Q obj s₂) E (.error e) s') s₁) (λ e s'=>wants (λ r s₂=>r=.none/\Q obj s₂) E (.error e) s') s₁):
  wpAny (model prog w) A (call (.type T) args) Q E s:=by
 obtain⟨c,tl,MH⟩:=ft.mro;have V3:=ft.made;have HZ:=ft.sub;refine G5 (codeAny_of_tree ?_);show wpAny _ _ (callAny (.type T) _) _ _ _;refine G2 ⟨Code.quiet_builtin _ (by decide+kernel),codeAny_builtin F.entry_type_call ?_⟩;rw[Around.under_plain (weight_type_call_type T args []) rfl];have h1:=ft.notType;have h2:=ft.canCreate
 repeat(any_goals (first|assumption|wp_step))
 refine D5 Dq λ r s₁ hr=>?_;cases r with
 |error e=>exact hr
 |ok fl=>
  cases fl with
  |ret obj=>
   obtain⟨hT,aK⟩:=Ql _ _ hr;have Z_:=ft.init.lookup;have hbi:=ft.init.bind obj
   repeat(any_goals (first|assumption|wp_step))
   refine D5 (n5 ft.init.plain M_ aK) λ r₂ s₂ Uo=>?_;cases r₂ with
   |error e=>exact Uo
   |ok fl=>
    cases fl with
    |ret r=>
     obtain⟨rfl,hq⟩:=Uo
     repeat(any_goals (first|assumption|wp_step))
    |_=>exact Uo.elim
  |_=>exact hr.elim
theorem zH{l:Addr}{items:Array Value}{ns:List Int}{Q:Value->Shared->Prop}(hh:A.handled=none)(hl:s.heap.IsList l items)(hi:IntsAre items.toList ns)(dY:ns.length<=76) (h:∀(h':Heap) (tk:Nat) (ks:List Int),lE h' s.heap.objs.size (!qg w) ks->Once ks ns->(∀b o,s.heap.get? b=some o->h'.get? b=some o)->Q (.ref s.heap.objs.size) {s with heap:=h',toks:=tk}):wpAny (model prog w) A (call (.type "set") [.ref l]) Q E s:=by
 refine nV (Q₁:=λ obj s₁=>obj=.ref s.heap.objs.size/\s₁={s with heap:=s.heap.push (bL w)}) F.called_set (F.typeCall_set_1 _) F.entry_set_init (xi _ ⟨rfl,rfl⟩) λ obj s₁ h₁=>?_;obtain⟨rfl,rfl⟩:=h₁;have hS:(s.heap.push (bL w)).get? s.heap.objs.size=some (bL w):=o8 _ rfl;have len:items.size=ns.length:=by rw[<- o7];exact IntsAre.length hi
 obtain⟨ol,Qg,jL,nl,Ic⟩:=hl;obtain⟨Tz,Pt,Pu,LM⟩:=ol;simp only at jL Ic;subst jL;subst Ic;have MG:=j8 (bL w) Qg;have Qu:l < s.heap.objs.size:=C8 Qg;have Uj:=F.sub_list_set;have Uk:=F.sub_list_frozenset;have ie:(Value.type "list"==Value.type "dict")=false:=by decide
 have Qv:(s.heap.push (bL w)).IsList l items:=⟨_,MG,rfl,nl,rfl⟩;have hT:Shared.TypeIs {s with heap:=s.heap.push (bL w)} (.ref s.heap.objs.size) "set":=⟨_,hS,rfl⟩;refine⟨hT,check_set_init_1 hT ?_⟩;unfold Builtin.«set.__init__» noKeywords Builtin.Frozenset.updateFrom;generalize UJ:pyIter=PI
 wp_walk
 subst UJ;refine x9 Qv (G1 (wpAny_runValue ?_));have ne1:l≠(s.heap.push (bL w)).objs.size:=by rw[B6];exact C7 (y6 Qu)
 have nf:s.heap.objs.size∉[(s.heap.push (bL w)).objs.size,l]:=by rw[B6];simp only[C3,not_mem_nil,or_false,not_or];exact⟨C7 (Nat.lt_succ_self _),D6 Qu⟩
 have W:=(Walks.list (prog:=prog) (w:=w) (A:=A.in1.in1.in1) (by simpa using hh) (s.heap.push (bL w)).objs.size l ne1 items).toS;rw[len]at W;refine rP W s.heap.objs.size nf (!qg w) (λ i v hv=>?_) dY ns.length 0 _ [] (by omega) ⟨⟨_,o8 _ rfl,rfl,rfl⟩,Qv.push _⟩ ⟨#[],0,_,j8 _ hS,λ e z=>(by cases z),rfl,ph 0 0 _,rfl⟩ ⟨nodup_nil,λ k=>by simp⟩ λ s' ks mv hZ ho=>?_
 ·obtain⟨t,e⟩:=IntsAre.int_at hi i v (by rw[l7];exact hv);have lt:i < ns.length:=by rw[<- len];exact(Array.getElem?_eq_some_iff.mp hv).1
  exact⟨ns[i],t,i7 lt,by rw[e,c6,i7 lt];rfl⟩
 ·obtain⟨h',g',d',AL,O'⟩:=s';have eg:g'=s.gens:=mv.gens;have ed:d'=s.drawn:=mv.drawn;have eo:O'=s.os:=mv.os;subst eg;subst ed;subst eo;refine G2 (G2 ⟨rfl,h h' AL ks hZ ho λ b o z=>?_⟩);have lt:=C8 z;refine mv.heap b o ?_ (j8 _ (j8 _ z));rw[B6];simp only[C3,not_mem_nil,or_false,not_or];exact⟨C7 lt,C7 (y6 lt)⟩
theorem sub_tuple_set:isSubtype (.type "tuple") (.type "set")=pure false:=by rw[isSubtype_type];kernel_rfl
theorem sub_tuple_frozenset:isSubtype (.type "tuple") (.type "frozenset")=pure false:=by rw[isSubtype_type];kernel_rfl
theorem zG{l:Addr}{items:Array Value}{ns:List Int}{Q:Value->Shared->Prop}(hh:A.handled=none)(hl:s.heap.IsTuple l items)(hi:IntsAre items.toList ns)(dY:ns.length<=76) (h:∀(h':Heap) (tk:Nat) (ks:List Int),lE h' s.heap.objs.size (!qg w) ks->Once ks ns->(∀b o,s.heap.get? b=some o->h'.get? b=some o)->Q (.ref s.heap.objs.size) {s with heap:=h',toks:=tk}):wpAny (model prog w) A (call (.type "set") [.ref l]) Q E s:=by
 refine nV (Q₁:=λ obj s₁=>obj=.ref s.heap.objs.size/\s₁={s with heap:=s.heap.push (bL w)}) F.called_set (F.typeCall_set_1 _) F.entry_set_init (xi _ ⟨rfl,rfl⟩) λ obj s₁ h₁=>?_;obtain⟨rfl,rfl⟩:=h₁;have hS:(s.heap.push (bL w)).get? s.heap.objs.size=some (bL w):=o8 _ rfl;have len:items.size=ns.length:=by rw[<- o7];exact IntsAre.length hi
 obtain⟨ol,Qg,jL,nl,Ic⟩:=hl;obtain⟨Tz,Pt,Pu,LM⟩:=ol;simp only at jL Ic;subst jL;subst Ic;have MG:=j8 (bL w) Qg;have Qu:l < s.heap.objs.size:=C8 Qg;have Uj:=sub_tuple_set;have Uk:=sub_tuple_frozenset;have ie:(Value.type "tuple"==Value.type "dict")=false:=by decide
 have Qv:(s.heap.push (bL w)).IsTuple l items:=⟨_,MG,rfl,nl,rfl⟩;have hT:Shared.TypeIs {s with heap:=s.heap.push (bL w)} (.ref s.heap.objs.size) "set":=⟨_,hS,rfl⟩;refine⟨hT,check_set_init_1 hT ?_⟩;unfold Builtin.«set.__init__» noKeywords Builtin.Frozenset.updateFrom;generalize UJ:pyIter=PI
 wp_walk
 subst UJ;refine wpAny_pyIter_tuple Qv (G1 (wpAny_runValue ?_));have ne1:l≠(s.heap.push (bL w)).objs.size:=by rw[B6];exact C7 (y6 Qu)
 have nf:s.heap.objs.size∉[(s.heap.push (bL w)).objs.size,l]:=by rw[B6];simp only[C3,not_mem_nil,or_false,not_or];exact⟨C7 (Nat.lt_succ_self _),D6 Qu⟩
 have W:=(Walks.tuple (prog:=prog) (w:=w) (A:=A.in1.in1.in1) (by simpa using hh) (s.heap.push (bL w)).objs.size l ne1 items).toS;rw[len]at W;refine rP W s.heap.objs.size nf (!qg w) (λ i v hv=>?_) dY ns.length 0 _ [] (by omega) ⟨⟨_,o8 _ rfl,rfl,rfl⟩,Qv.push _⟩ ⟨#[],0,_,j8 _ hS,λ e z=>(by cases z),rfl,ph 0 0 _,rfl⟩ ⟨nodup_nil,λ k=>by simp⟩ λ s' ks mv hZ ho=>?_
 ·obtain⟨t,e⟩:=IntsAre.int_at hi i v (by rw[l7];exact hv);have lt:i < ns.length:=by rw[<- len];exact(Array.getElem?_eq_some_iff.mp hv).1
  exact⟨ns[i],t,i7 lt,by rw[e,c6,i7 lt];rfl⟩
 ·obtain⟨h',g',d',AL,O'⟩:=s';have eg:g'=s.gens:=mv.gens;have ed:d'=s.drawn:=mv.drawn;have eo:O'=s.os:=mv.os;subst eg;subst ed;subst eo;refine G2 (G2 ⟨rfl,h h' AL ks hZ ho λ b o z=>?_⟩);have lt:=C8 z;refine mv.heap b o ?_ (j8 _ (j8 _ z));rw[B6];simp only[C3,not_mem_nil,or_false,not_or];exact⟨C7 lt,C7 (y6 lt)⟩
end
end L2
namespace L2
open PySem PySem.Spec PySem.W PySem.Calls PyProof.Rows
theorem wY{α:Type}(next:Nat->Nat):∀(fuel k:Nat) (left:List α) (out:Array α),left.length=fuel->(pickOrder.go next fuel k left out).toList.Perm (out.toList++left)
 |0,k,left,out,h=>by rw[j5.mp h,A1];exact List.Perm.refl _
 |fuel+1,k,left,out,h=>by
  unfold pickOrder.go;have lt:next k % left.length < left.length:=Nat.mod_lt _ (by omega)
  rw[i7 lt];dsimp only;refine(wY next fuel (k+1) _ _ (by rw[length_eraseIdx_of_lt lt];omega)).trans ?_;rw[Array.toList_push,append_assoc];refine List.Perm.append_left _ ?_;rw[singleton_append];have e:=take_append_drop (next k % left.length) left;rw[drop_eq_getElem_cons lt]at e;rw[eraseIdx_eq_take_drop_succ];generalize left[next k % left.length]=x at*
  conv=>rhs;rw[<- e]
  exact perm_middle.symm
theorem yQ{α:Type}(next:Nat->Nat)(xs:Array α):(pickOrder next xs).toList.Perm xs.toList:=wY next xs.size 0 xs.toList #[] (o7)
def fR(w:World)(a:Addr)(ep:Nat)(es:Array (Int×Value)):Array (Int×Value):=if qg w then pickOrder (w.params.setOrder a ep) es else es
theorem my(w:World)(a:Addr)(ep:Nat)(es:Array (Int×Value)):(fR w a ep es).toList.Perm es.toList:=by
 unfold fR;split
 ·exact yQ _ _
 ·exact List.Perm.refl _
theorem mx(w:World)(a:Addr)(ep:Nat)(es:Array (Int×Value)):(fR w a ep es).size=es.size:=by
 have:=(my w a ep es).length_eq
 rwa [o7,o7]at this
theorem mL:entryFor table "set.__iter__"=some Builtin.«frozenset.__iter__»:=entryFor_alias (id':="frozenset.__iter__") (by kernel_rfl) rfl (by decide+kernel) (by kernel_rfl)
theorem cb:Slot "set_iterator" "__next__" "set_iterator.__next__":=
 .of (owner:="set_iterator") (n:="__next__") (by rw[typeLookup_type,builtinLookup_eq_fast];kernel_rfl) (by decide+kernel) (by decide+kernel) (by decide+kernel)
  (by first|exact .inl (by decide+kernel)|exact .inr (by decide+kernel)) (by rw[isSubtype_type];kernel_rfl)
theorem i_:Slot "set_iterator" "__iter__" "set_iterator.__iter__":=
 .of (owner:="set_iterator") (n:="__iter__") (by rw[typeLookup_type,builtinLookup_eq_fast];kernel_rfl) (by decide+kernel) (by decide+kernel) (by decide+kernel)
  (by first|exact .inl (by decide+kernel)|exact .inr (by decide+kernel)) (by rw[isSubtype_type];kernel_rfl)
theorem iC:entryFor table "set_iterator.__next__"=some Builtin.«set_iterator.__next__»:=entryFor_of_tree (by kernel_rfl)
theorem oz:entryFor table "set_iterator.__iter__"=some Builtin.«dict_keyiterator.__iter__»:=entryFor_alias (id':="dict_keyiterator.__iter__") (by kernel_rfl) rfl (by decide+kernel) (by kernel_rfl)
theorem rZ:Manifest.owners.lookup (String.ofList ['r','o','t','a','r','e','t','i','_','t','e','s'].reverse)=some Manifest.sig_set_iterator:=by kernel_rfl
theorem ja(a:Value):argsOk "set_iterator.__next__" ⟨[a],[]⟩:=by unfold argsOk;rw[signature?_of (id:="set_iterator.__next__") (n:=['_','_','t','x','e','n','_','_']) (o:=['r','o','t','a','r','e','t','i','_','t','e','s']) (by kernel_rfl) rZ];kernel_rfl
theorem qu(a:Value):argsOk "set_iterator.__iter__" ⟨[a],[]⟩:=by unfold argsOk;rw[signature?_of (id:="set_iterator.__iter__") (n:=['_','_','r','e','t','i','_','_']) (o:=['r','o','t','a','r','e','t','i','_','t','e','s']) (by kernel_rfl) rZ];kernel_rfl
abbrev VC(sl i:Nat)(a:Addr)(n ep:Nat):Obj:={cls:=.type "set_iterator",data:=.fields #[.int sl 0,.int i 0,.ref a,.int n 0,.int ep 0]}
section
variable {prog:Program}{w:World}{A:Around}{E:Value->Shared->Prop}{s:Shared}{a I:Addr}{es:Array (Int×Value)}{ep:Nat}{t:SetTable}
theorem r_{sl i:Nat}{Q:Option (Value×Nat)->Shared->Prop}(ho:s.heap.get? a=some (gq es ep t))(T:Tab t es.size)(hl:t.led=!qg w)(hs:qg w=false->SetTable.below t.place sl=i) (h:∀Bc:Nat,(qg w=false->i < es.size->SetTable.below t.place Bc=i+1)->Q ((fR w a ep es)[i]?.map λ e=>(e.2,Bc)) s):wpAny (model prog w) A (setNext a sl i ep) Q E s:=by
 unfold setNext;refine G1 (wpAny_setState_of ho rfl T.fit ?_);dsimp only;unfold setsByText;refine G1 (G1 (wpAny_askSetting (G2 ?_)));show wpAny _ _ (if qg w=true then _ else _) _ _ s;cases hb:qg w with
 |true=>
  rw[J0 rfl,J7 (by simp)];refine G1 ?_;unfold setWalk;refine G1 (wpAny_setState_of ho rfl T.fit ?_);dsimp only;unfold setsByText;refine G1 (G1 (wpAny_askSetting (G2 ?_)));show wpAny _ _ (if qg w=true then _ else _) _ _ s;rw[hb,J0 rfl];refine G1 (wpAny_askSetting (G2 (G2 ?_)));have:=h sl λ z=>by rw[hb]at z;cases z
  unfold fR at this;rw[hb,J0 rfl]at this;exact this
 |false=>
  rw[J7 (by decide)];refine wpAny_ite_split (λ z=>absurd z ?_) λ _=>?_
  ·show ¬((!t.plain&&decide (es.size > 1))=true);rw[T.pl];simp
  refine G1 ?_;show wpAny _ _ (if(!t.led&&!es.isEmpty)=true then _ else _) _ _ s;rw[hl,hb,J7 (by simp)];refine G2 ?_;rw[hs hb];have e2:fR w a ep es=es:=by unfold fR;rw[hb];rfl
  rw[e2]at h;by_cases lt:i < es.size
  ·have VL:i < t.place.size:=by rw[T.sz];exact lt
   have:=h (t.place[i]+1) λ _ _=>vZ T.RW (by rw[l7,i0 VL]);rw[i0 lt]at this ⊢;rw[i0 VL];exact G2 this
  ·have:=h 0 λ _ z=>absurd z lt;rw[j7 (y8 lt)]at this ⊢;exact G2 this
def El(w:World)(I a:Addr)(es:Array (Int×Value))(ep:Nat)(t:SetTable)(i:Nat)(h:Heap):Prop:=∃sl:Nat,h.get? I=some (VC sl i a es.size ep)/\h.get? a=some (gq es ep t)/\(qg w=false->SetTable.below t.place sl=i)
theorem FA{i:Nat}{e:Int×Value}{Q:Option Value->Shared->Prop}(ne:a≠I)(T:Tab t es.size)(hl:t.led=!qg w)(st:El w I a es ep t i s.heap)(lt:i < es.size)(he:(fR w a ep es)[i]?=some e) (hQ:∀h',El w I a es ep t (i+1) h'->Heap.SameBut I s.heap h'->Q (some e.2) {s with heap:=h'}):wpAny (model prog w) A (pyNext (.ref I)) Q E s:=by
 obtain⟨sl,hI,ha,hb⟩:=st;have hT:s.TypeIs (.ref I) "set_iterator":=⟨_,hI,rfl⟩;unfold pyNext;refine G1 (B9 (j4 (name:=Str.ofString "__next__") hT cb (z5 cb hT iC ?_ (ja _))));refine G1 (G2 ?_);refine G1 (wpAny_fieldsOf hI rfl ?_);dsimp only;refine G1 (wpAny_setEntries_of ha rfl T.fit ?_);rw[J7 (by simp)];rw[show((i:Int)).toNat=i from x4 i,show((ep:Int)).toNat=ep from x4 ep,show((sl:Int)).toNat=sl from x4 sl];refine G1 (r_ ha T hl hb λ Bc jv=>?_);rw[he];dsimp only[Option.map];refine G1 (B7 hI rfl (by simp) ?_);have h1:=k8 (Obj.mapFields (·.setIfInBounds 0 (rawInt Bc))) hI rfl;refine G1 (B7 h1 rfl (by simp[Obj.mapFields]) ?_);have h2:=k8 (Obj.mapFields (·.setIfInBounds 1 (rawInt ((i:Int)+1)))) h1 rfl;have sb:=(o4 s.heap I (Obj.mapFields (·.setIfInBounds 0 (rawInt Bc)))).trans (o4 _ I (Obj.mapFields (·.setIfInBounds 1 (rawInt ((i:Int)+1)))));refine G2 ⟨_,rfl,G2 (hQ _ ⟨Bc,?_,?_,λ z=>jv z lt⟩ sb)⟩
 ·exact h2
 ·rw[sb.2 a ne];exact ha
theorem Kl{Q:Option Value->Shared->Prop}(hh:A.handled=none)(T:Tab t es.size)(hl:t.led=!qg w)(st:El w I a es ep t es.size s.heap) (hQ:∀h',Heap.ExtBut I s.heap h'->Q none {s with heap:=h'}):wpAny (model prog w) A (pyNext (.ref I)) Q E s:=by obtain⟨sl,hI,ha,hb⟩:=st;have hT:s.TypeIs (.ref I) "set_iterator":=⟨_,hI,rfl⟩;unfold pyNext;refine G1 (B9 (j4 (name:=Str.ofString "__next__") hT cb (z5 cb hT iC ?_ (ja _))));refine G1 (G2 ?_);refine G1 (wpAny_fieldsOf hI rfl ?_);dsimp only;refine G1 (wpAny_setEntries_of ha rfl T.fit ?_);rw[J7 (by simp)];rw[show((es.size:Int)).toNat=es.size from x4 _,show((ep:Int)).toNat=ep from x4 ep,show((sl:Int)).toNat=sl from x4 sl];refine G1 (r_ ha T hl hb λ Bc jv=>?_);rw[j7 (by rw[mx];exact D8 _)];dsimp only[Option.map];refine G1 (B7 hI rfl (by simp) ?_);show wpAny _ _ (newExc (.type "StopIteration") [] >>= _) _ _ _;refine G1 ?_;simp only[newExc,newTuple];refine G1 (x5 ?_ (by size_fits));refine G1 (m:=firstArgMember _ _) (wpAny_of_eq (a:=Value.none) (by first|rfl|(simp only[firstArgMember];rfl)) ?_);refine x5 ?_ (by size_fits);simp only[raiseNew];refine G1 (wpAny_handled ?_);rw[show A.in1.handled=none from hh];refine G1 (G2 (wpAny_throw ?_));refine G1 (wpAny_isInstance (T:="StopIteration") (b:=true) ⟨_,o8 _ rfl,rfl⟩ isSubtype_stop ?_);exact G2 (hQ _ (((o4 ..).extBut.push _).push _))
theorem Fz{i:Nat}{Q:Value->Shared->Prop}(st:El w I a es ep t i s.heap)(h:Q (.ref I) s):wpAny (model prog w) A (pyIter (.ref I)) Q E s:=by obtain⟨sl,hI,ha,hb⟩:=st;have hT:s.TypeIs (.ref I) "set_iterator":=⟨_,hI,rfl⟩;refine wpAny_pyIter_slot hT i_ (z5 i_ hT oz ?_ (qu _));exact G2 ⟨_,rfl,"set_iterator",_,hT,cb.lookup,h⟩
theorem yt(hh:A.handled=none)(I a:Addr)(ne:a≠I)(T:Tab t es.size)(hl:t.led=!qg w):Walks prog w A I [I,a] [I] es.size (λ i v=>∃e,(fR w a ep es)[i]?=some e/\e.2=v) (El w I a es ep t) where
 sub:=λ b hb=>by simp at hb;simp[hb]
 frame:=λ _ _ _ st hk=>let⟨sl,h1,h2,h3⟩:=st;⟨sl,hk I (by simp) _ h1,hk a (by simp) _ h2,h3⟩
 item:=λ i s Q E hi st hQ=>by
  have lt:i < (fR w a ep es).size:=by rw[mx];exact hi
  exact FA ne T hl st hi (i0 lt) λ h' ux sb=>hQ _ h' s.toks ⟨_,i0 lt,rfl⟩ ux λ b o hb e=>by rw[sb.2 b λ z=>hb (by simp[z])];exact e
 done:=λ s Q E st hQ=>Kl hh T hl st λ h' Sg=>hQ h' s.toks λ b o hb e=>Sg b o (λ h=>hb (by simp[h])) e
 self:=λ _ _ _ _ st hQ=>Fz st hQ
theorem Bd{Q:Value->Shared->Prop}(ha:s.heap.get? a=some (gq es ep t))(T:Tab t es.size)(hQ:Q (.ref s.heap.objs.size) {s with heap:=s.heap.push (VC 0 0 a es.size ep)}):wpAny (model prog w) A (pyIter (.ref a)) Q E s:=by have hT:s.TypeIs (.ref a) "set":=⟨_,ha,rfl⟩;refine wpAny_pyIter_slot hT F.slot_set_iter (z5 F.slot_set_iter hT mL ?_ (F.args_set_iter_1 _));unfold Builtin.«frozenset.__iter__» Builtin.Frozenset.slot0 Builtin.Frozenset.sizeOf;refine G1 (G1 (G2 ?_));refine G2 ?_;refine G1 (G1 (wpAny_setEntries_of ha rfl T.fit (G2 ?_)));refine G1 ?_;unfold setDrawn;refine G1 (wpAny_setState_of ha rfl T.fit ?_);dsimp only;unfold setsByText;refine G1 (G1 (wpAny_askSetting (G2 (G2 ?_))));show wpAny _ _ (if(!qg w&&(!t.plain&&decide (es.size > 1)))=true then _ else _) _ _ s;rw[T.pl,J7 (by simp)];refine G1 (G2 ?_);unfold setEpoch;refine G1 (G1 (wpAny_setState_of ha rfl T.fit (G2 ?_)));refine G1 (x5 ?_ (by size_fits));exact G2 ⟨_,rfl,"set_iterator",_,⟨_,o8 _ rfl,rfl⟩,cb.lookup,hQ⟩
theorem Be{Q:Bool->Shared->Prop}(hT:s.TypeIs (.ref a) "set")(h:Q false s):wpAny (model prog w) A (Builtin.List.listLengthHint (.ref a)) Q E s:=by
 unfold Builtin.List.listLengthHint;refine G1 (B3 hT F.slot_set_len.lookup ?_);generalize V7:("set.__len__":String)=XB
 wp_delta
 rw[show splitId XB=some ("set","__len__")from by subst V7;decide+kernel];subst V7;refine G1 (wpAny_isInstance (T:="set") (b:=true) hT (by rw[isSubtype_type];kernel_rfl) ?_);refine wpAny_ite_split (λ MS=>absurd MS (by decide)) (λ _=>?_);refine wpAny_ite_split (λ _=>?_) (λ MS=>absurd (by decide+kernel) MS);refine G1 (wpAny_typeOf hT ?_);exact G2 h
theorem Fw(T:Tab t es.size)(hl:t.led=!qg w):KdlSrc prog w "set" a a es.size (λ i v=>∃e,(fR w a ep es)[i]?=some e/\e.2=v) (λ h=>h.get? a=some (gq es ep t)) where
 type:=λ _ hm=>⟨_,hm,rfl⟩
 there:=λ _ hm=>⟨C8 hm,C8 hm⟩
 keep:=λ _ _ hm hk=>hk a (.inl rfl) _ hm
 notList:=by decide
 notTuple:=by decide
 hint:=λ _ _ _ _ hm hq=>Be ⟨_,hm,rfl⟩ hq
 iter:=λ _ s hh hm=>⟨_,_,(λ _ _ hq=>Bd hm T hq),yt hh _ a (C7 (C8 hm)) T hl,⟨0,o8 _ rfl,j8 _ hm,λ _=>vY T.RW⟩⟩
end
end L2
namespace L2
open PySem PySem.Spec PySem.W PySem.Calls PyProof.Rows L5
section
variable {X:Cx}{e1:Expr}{ta:TA}{p p2 pos jW:Pos}{x id:String}{r:List Int->Hp->VK->Prop}
def Rw(X:Cx)(f:Value)(r:List Int->Hp->VK->Prop):Prop:=∀pins (s:Shared) (σ:St) (H:Hp) (S:Addr) (ks:List Int) (Q:VK),Inv X pins σ H s->lE s.heap S (!qg X.w) ks->r ks H Q->wpAny (model X.prog X.w) X.A (call f [.ref S]) (EP X pins σ Q) X.xe s
def J_(K:J8)(r:List Int->Hp->VK->Prop)(ta:TA):TE:=λ σ H Q=>ta σ H λ vs H1=>∃(b:Bool) (l:Addr) (ns:List Int),vs=[.ref l]/\Sq b K H1 l (ns.map V.int)/\ns.length<=76/\∀ks,Once ks ns->r ks H1 Q
theorem Cg{id:String}{x:Str}(hf:Rw X (.builtin id) r)(hc:X.calm=true)(hg:Gl X x)(hm:X.mg x=none)(hv:bootBuiltins x=some (.builtin id))(Qy:Gl X "set")(Qn:X.mg "set"=none)(ha:PA X [e1] ta)(hn:x≠"__name__":=by decide)(hdb:(x==("__debug__":Str))=false:=by decide) (hs:starEach [e1] X.env=(false,eval e1 X.env)::starEach [] X.env:=by rfl) (he:starEach [.Call (.Name "set" p2) [e1] [] jW] X.env=(false,eval (.Call (.Name "set" p2) [e1] [] jW) X.env)::starEach [] X.env:=by rfl):PE X (.Call (.Name x p) [.Call (.Name "set" p2) [e1] [] jW] [] pos) (J_ X.K r ta):=by
 intro pins s σ H Q I h;refine u5 (j' I hg hm hv ?_ hn hdb);refine PyProof.Rows.callWith_builtin1 ?_ he rfl;rw[he];show wpAny _ _ (spliced ((false,eval (.Call (.Name "set" p2) [e1] [] jW) X.env)::backTo pos (starEach [] X.env))) _ _ s;refine Calls.spliced_cons ?_;refine Call_ (j' I Qy Qn (show bootBuiltins "set"=some (.type "set") by decide+kernel) (a9 (bZ (ha jW pins s σ H _ I h) λ us s1 ⟨vs,H1,I1,r1,q1⟩=>?_) hs (by rfl)));obtain⟨b,l,ns,ev,hl,dY,q⟩:=q1;subst ev;obtain⟨u1,rfl,rx⟩:=vals1 r1;cases(show u1=Value.ref l from rx);have fin:∀(h':Heap) (tk:Nat) (ks:List Int),lE h' s1.heap.objs.size (!qg X.w) ks->Once ks ns->(∀b o,s1.heap.get? b=some o->h'.get? b=some o)->wpAny (model X.prog X.w) X.A (call (.builtin id) [.ref s1.heap.objs.size]) (EP X pins σ Q) X.xe {s1 with heap:=h',toks:=tk}:=λ h' tk ks hZ ho kp=>by have I2:Inv X pins σ H1 {s1 with heap:=h',toks:=tk}:=I1.kept (t':=tk) kp;exact hf pins _ σ H1 _ ks Q I2 hZ (q ks ho)
 cases b with
 |false=>obtain⟨au,r',pl,hz⟩:=I1.list hl;have hI:=nI r';exact zH (I1.ok.hd hc) pl.isList (by simpa using hI) dY λ h' tk ks hZ ho kp=>Calls.spliced_nil (fin h' tk ks hZ ho kp)
 |true=>obtain⟨au,r',pl,hz⟩:=I1.tuple hl;have hI:=nI r';exact zG (I1.ok.hd hc) pl (by simpa using hI) dY λ h' tk ks hZ ho kp=>Calls.spliced_nil (fin h' tk ks hZ ho kp)
theorem uB(hc:X.calm=true):Rw X (.builtin "sorted") (λ ks H Q=>ks.length < 64/\∀(sP:List Int) (p:Addr),sP.Perm ks->sP.Pairwise (·<=·)->H p=none->Q (.ref p) (upd H p (.lst (sP.map V.int)))):=by
 intro pins s σ H S ks Q I hZ ⟨YX,q⟩;obtain⟨es,ep,t,ho,he,hk,T,hl⟩:=hZ;subst hk;rw[kys_len]at YX;refine call_function_entry kind_sorted plain_sorted entry_sorted (args_sorted1 _) ?_;unfold Builtin.«sorted»;refine G1 (m:=checkCount "sorted" 1 1 _) (G2 (G1 (kdu_collect (A:=X.A.in1) (Fw (ep:=ep) T hl) (show X.A.in1.handled=none from I.ok.hd hc) ho (by rw[D9];omega) λ h' tk acc Yq zw=>?_)));have pw:=my X.w S ep es;generalize hW:fR X.w S ep es=os at pw zw;have hI:IntsAre acc.toList (ub os):=Dn _ _ (by rw[o7,zw.1,kys_len,<- o7,<- o7,pw.length_eq]) λ j v n a b=>by obtain⟨e,e1,e2⟩:=zw.2 j v (by rw[<- l7];exact a);subst e2;rw[<- l7]at e1;unfold ub at b;rw[x3,e1]at b;obtain⟨k,AL,rfl⟩:=he e (pw.mem_iff.mp (m8 e1));cases b;exact⟨AL,rfl⟩
 have pk:(ub os).Perm (ub es):=pw.map _;have hlen:acc.toList.length=es.size:=by rw[o7,zw.1]
 refine G1 (wpAny_newList ?_ (by rw[hlen,D9];omega));have NT:(h'.push (seqObj "list" acc.toList.toArray 0)).get? h'.objs.size=some (seqObj "list" acc.toList.toArray 0):=o8 _ rfl;refine G1 (B8 (z5 slot_list_sort ⟨_,NT,rfl⟩ entry_list_sort (list_sort_tree NT hI (by omega) λ out sP a1 a2 a3=>⟨_,rfl,?_⟩) (args_list_sort _)));refine G2 ⟨_,rfl,?_⟩;obtain⟨c,Sh⟩:=sortedHeap_at (out:=out) NT;have I0:Inv X pins σ H {s with heap:=h',toks:=tk}:=I.kept (t':=tk) Yq;have kp:∀b o,h'.get? b=some o->(sortedHeap (h'.push (seqObj "list" acc.toList.toArray 0)) h'.objs.size acc.toList out).get? b=some o:=λ b o e=>by rw[sortedHeap_old (C7 (C8 e)) (by rw[size_push'];exact y6 (C8 e))];exact j8 _ e
 exact⟨.ref h'.objs.size,_,I0.laid (t':=tk) kp (D8 _) (show br X.prog X.w _ _ _ (.lst (sP.map V.int))from⟨by rw[A8,a2.length_eq,pk.length_eq,kys_len,D9];omega,out.toList,c,Dm a1,by rw[Array.toArray_toList];exact Sh⟩),rfl,q sP _ (a2.trans pk) a3 (I0.aK.fresh (D8 _))⟩
end
end L2
namespace L3
open PySem PySem.Spec PyProof.Rows L2 L5
section
variable {X:Cx}{e1:Expr}{ta:dE}{p p2 pos jW:Pos}
def Bh(ta:dE):bJ:=λ δ M Q=>ta δ M λ ds M1=>∃(x:D) (ns:List Int),ds=[x]/\cz M1 x=some (ns.map D.int)/\ns.length < 64/\∀(sP:List Int) (p:Addr),sP.Pairwise (· < ·)->(∀k,k∈sP↔k∈ns)->M1 p=none->Q (.ref p) (af M1 p (.lst (sP.map D.int)))
theorem Jn:∀{l:List Int},l.Pairwise (·<=·)->l.Nodup->l.Pairwise (· < ·)
 |[],_,_=>.nil
 |a::l,h,n=>by
  obtain⟨h1,h2⟩:=pairwise_cons.mp h;obtain⟨n1,n2⟩:=nodup_cons.mp n;refine pairwise_cons.mpr ⟨λ b hb=>?_,Jn h2 n2⟩;have:=h1 b hb;by_cases z:a=b
  ·subst z;exact absurd hb n1
  ·omega
theorem Lj(hc:X.calm=true)(hg:Gl X "sorted")(hm:X.mg "sorted"=none)(Qy:Gl X "set")(Qn:X.mg "set"=none)(ha:QA X [e1] ta) (hs:starEach [e1] X.env=(false,eval e1 X.env)::starEach [] X.env:=by rfl) (he:starEach [.Call (.Name "set" p2) [e1] [] jW] X.env=(false,eval (.Call (.Name "set" p2) [e1] [] jW) X.env)::starEach [] X.env:=by rfl):QE X (.Call (.Name "sorted" p) [.Call (.Name "set" p2) [e1] [] jW] [] pos) (Bh ta):=by refine bK (Cg (uB hc) hc hg hm (by decide+kernel) Qy Qn ha (by decide) (by decide) hs he) ?_;rintro σ H Q ⟨δ,M,Q2,hs,hm,q,k⟩;refine⟨δ,M,_,hs,hm,q,λ vs H1 ds M1 hd bG t1 ⟨x,ns,e,hM,dY,q1⟩=>?_⟩;subst e;obtain⟨v1,r,rfl,XU,hr⟩:=aj.mp hd;cases(av.mp hr);obtain⟨b,l,xv,rfl,hy,QH⟩:=Kn bG hM XU;rw[nR QH]at hy;refine⟨b,l,ns,rfl,hy,by omega,λ ks ho=>⟨by have:=ho.dY;omega,λ sP p a1 a2 hp=>?_⟩⟩;exact k _ _ (.ref p) _ (aG.mpr rfl) (dB hp (ki sP) bG) (t1.trans (ah.laid hp)) (q1 sP p (Jn a2 (a1.nodup_iff.mpr ho.1)) (λ k=>(a1.mem_iff.trans (ho.2 k))) (bG.free hp))
end
end L3
namespace L4
open PySem L2 L3
theorem AE{X:Cx}{e1:Expr}{ta:dE}{p p2 pos jW:Pos}(hc:X.calm=true)(hg:Gl X "sorted")(hm:X.mg "sorted"=none)(Qy:Gl X "set")(Qn:X.mg "set"=none)(ha:WA X [e1] ta) (hs:starEach [e1] X.env=(false,eval e1 X.env)::starEach [] X.env:=by rfl) (he:starEach [.Call (.Name "set" p2) [e1] [] jW] X.env=(false,eval (.Call (.Name "set" p2) [e1] [] jW) X.env)::starEach [] X.env:=by rfl):WE X (.Call (.Name "sorted" p) [.Call (.Name "set" p2) [e1] [] jW] [] pos) (Bh ta):=⟨Lj hc hg hm Qy Qn ha.h hs he⟩
theorem FK{ta:dE}{δ:bY}{M:Mem}{Q:bu}(h:ta δ M λ ds M1=>∃(x:D) (ns:List Int),ds=[x]/\cz M1 x=some (ns.map D.int)/\ns.length < 64/\∀(sP:List Int) (p:Addr),sP.Pairwise (· < ·)->(∀k,k∈sP↔k∈ns)->M1 p=none->Q (.ref p) (af M1 p (.lst (sP.map D.int)))):Bh ta δ M Q:=h
end L4
namespace KK
open PySem L3 L4 L5
open L2 hiding aM gu
theorem iH{m h:Nat}{rows:List Row}(G:Tb m h rows){x:Nat}(hx:x < m):f' (rows.map row) (x:Int)=some (.tup ((rows.getD x []).map D.int))/\(rows.getD x []).length=h/\∀y∈rows.getD x [],0<=y/\y < (m:Int):=by
 have h0:x < rows.length:=by rw[G.len];exact hx
 rw[c6,i7 h0];exact⟨bt (by rw[x3,i7 h0];rfl),G.row _ (z8 h0)⟩
end KK
namespace L2
open PySem PySem.Spec PyProof.Rows
def J9(t:TE):TO:=λ σ H Q=>t σ H λ x H1=>(∃i,x=.int i/\Q (some i) H1)\/(x=.aY/\Q none H1)
theorem BX{X:Cx}{e:Expr}{te:TE}(h:PE X e te):PO X (some e) (J9 te):=by
 intro pins s σ H Q I hw;rw[evalPart_some];refine bZ (h pins s σ H _ I hw) λ u s1 ⟨x,H1,I1,r1,q1⟩=>?_;rcases q1 with⟨i,rfl,q⟩|⟨rfl,q⟩
 ·obtain⟨t,rfl⟩:=r1;exact⟨some i,H1,I1,.int i t,q⟩
 ·cases(show u=Value.none from r1);exact⟨none,H1,I1,.none,q⟩
end L2
namespace L3
open PySem PySem.Spec PyProof.Rows L2 L5
def qw(t:bJ):EJ:=λ δ M Q=>t δ M λ d M1=>match d with
 | .int i=>Q (some i) M1
 | .aY=>Q none M1
 |_=>False
theorem BO{X:Cx}{e:Expr}{ta:bJ}(h:QE X e ta):QO X (some e) (qw ta):=BY (BX h) λ σ H Q ⟨δ,M,Q2,hs,hm,q,k⟩=>by
 refine⟨δ,M,_,hs,hm,q,λ x H1 d M1 hd bG t1 q1=>?_⟩;cases d with
 |int i=>exact .inl ⟨i,aw.mp hd,k _ _ _ bG t1 q1⟩
 |aY=>exact .inr ⟨cq.mp hd,k _ _ _ bG t1 q1⟩
 |_=>exact q1.elim
end L3
namespace L4
open PySem L2 L3
theorem AA{X:Cx}{e:Expr}{ta:bJ}(h:WE X e ta):WO X (some e) (qw ta):=⟨BO (h:=h.h)⟩
theorem sk{ta:bJ}{δ:bY}{M:Mem}{QO:Option Int->Mem->Prop}(h:ta δ M λ d M1=>match d with| .int i=>QO (some i) M1| .aY=>QO none M1|_=>False):qw ta δ M QO:=h
end L4
namespace KK
open PySem L2 L3 L4
theorem uI{a:Addr}{ds:List D}{M:Mem}{Q:bu}(h:M a=some (.lst ds))(q:∀p,M p=none->Q (.ref p) (af M p (.lst ds))):vK (.ref a) none none M Q:=wJ h λ p hp=>by
 have e:cutD ds none none=ds:=by show(ds.drop 0).take (ds.length - 0)=ds;rw[drop_zero,Nat.sub_zero,z4]
 rw[e];exact q p hp
end KK
namespace KK
open PySem L3 L4 L5
open L2 hiding aM gu
def Jc(r q:List Row)(i:Nat)(p:Nat×Nat):Nat×Nat:=(a_ r i p.1,a_ q i p.2)
def Pr(r q:List Row)(h x y v:Nat):Prop:=zT (Jc r q) h (0,x) (y,v)
theorem BW{m h m2:Nat}{r q:List Row}(G:lD m h r)(T:Tb m2 h q){x:Nat}(hx:x < m2){p:Nat×Nat}(R:zT (Jc r q) h (0,x) p):p.1 < m/\p.2 < m2:=by
 induction R with
 |zero=>exact⟨G.tb.pos,hx⟩
 |step R hi ih=>exact⟨G.Wu.cl _ _ hi ih.1,T.gi hi _ ih.2⟩
structure yf(r q:List Row)(h x:Nat)(kv:List (Nat×Nat))(ws:List Nat):Prop where
 nd:(kv.map (·.1)).Nodup
 pr:∀e∈kv,Pr r q h x e.1 e.2
 iS:(0,x)∈kv
 wt:∀y∈ws,y∈kv.map (·.1)
 dn:∀y∈kv.map (·.1),y∉ws->∀i,i < h->a_ r i y∈kv.map (·.1)
section
variable {m h m2 x:Nat}{r q:List Row}{kv:List (Nat×Nat)}{ws:List Nat}
theorem yf.start (r q:List Row)(h x:Nat):yf r q h x [(0,x)] [0]:=⟨by simp,λ e he=>by rw[u4.mp he];exact .zero,by simp,λ y hy=>by simpa using hy,λ y hy n=>absurd (by simpa using hy) (by simpa using n)⟩
theorem yf.dY (G:lD m h r)(T:Tb m2 h q)(hx:x < m2)(c:yf r q h x kv ws):kv.length<=m:=by
 have:=List.Nodup.length_le_of_subset c.nd (l₂:=List.range m) λ y hy=>by obtain⟨e,he,rfl⟩:=C9.mp hy;exact mem_range.mpr (BW G T hx (c.pr e he)).1
 rwa [A8,y0]at this
theorem yf.all (G:lD m h r)(c:yf r q h x kv []){y:Nat}(hy:y < m):y∈kv.map (·.1):=by
 have:∀y,zT (a_ r) h 0 y->y∈kv.map (·.1):=λ y R=>by
  induction R with
  |zero=>exact C9.mpr ⟨_,c.iS,rfl⟩
  |step R hi ih=>exact c.dn _ ih (by simp) _ hi
 exact this y (G.K4 y hy)
end
structure oX(r q:List Row)(h x:Nat)(kv:List (Nat×Nat))(ws:List Nat)(y v i:Nat):Prop where
 nd:(kv.map (·.1)).Nodup
 pr:∀e∈kv,Pr r q h x e.1 e.2
 iS:(0,x)∈kv
 wt:∀y∈ws,y∈kv.map (·.1)
 dn:∀z∈kv.map (·.1),z∉ws->z≠y->∀i,i < h->a_ r i z∈kv.map (·.1)
 at':(y,v)∈kv
 so:∀j,j < i->a_ r j y∈kv.map (·.1)
section
variable {h x y v i:Nat}{r q:List Row}{kv:List (Nat×Nat)}{ws:List Nat}
theorem yf.pop (c:yf r q h x kv (ws++[y])):∃v,oX r q h x kv ws y v 0:=by obtain⟨e,he,rfl⟩:=C9.mp (c.wt y (by simp));exact⟨e.2,c.nd,c.pr,c.iS,λ z hz=>c.wt z (m9 _ hz),λ z hz n ne=>c.dn z hz (by rw[A9,u4];exact λ o=>o.elim n ne),he,λ j hj=>absurd hj (by omega)⟩
theorem oX.old (c:oX r q h x kv ws y v i)(hn:a_ r i y∈kv.map (·.1)):oX r q h x kv ws y v (i+1):=
 ⟨c.nd,c.pr,c.iS,c.wt,c.dn,c.at',λ j hj=>by
  by_cases z:j=i
  ·rw[z];exact hn
  ·exact c.so j (by omega)⟩
theorem oX.new (c:oX r q h x kv ws y v i)(hi:i < h)(hn:a_ r i y∉kv.map (·.1)):oX r q h x (kv++[(a_ r i y,a_ q i v)]) (ws++[a_ r i y]) y v (i+1):=by
 have up:∀z,z∈kv.map (·.1)->z∈(kv++[(a_ r i y,a_ q i v)]).map (·.1):=λ z hz=>by rw[B0];exact m9 _ hz
 have nw:a_ r i y∈(kv++[(a_ r i y,a_ q i v)]).map (·.1):=by simp
 refine⟨?_,λ e he=>?_,m9 _ c.iS,λ z hz=>?_,λ z hz n ne j hj=>?_,m9 _ c.at',λ j hj=>?_⟩
 ·rw[B0];exact nodup_append.mpr ⟨c.nd,by simp,λ a ha b hb z=>hn (by rw[z,u4.mp hb]at ha;exact ha)⟩
 ·rcases A9.mp he with he|he
  ·exact c.pr e he
  ·rw[u4.mp he];exact zT.step (c.pr _ c.at') hi
 ·rcases A9.mp hz with hz|hz
  ·exact up z (c.wt z hz)
  ·rw[u4.mp hz];exact nw
 ·rw[A9,u4,not_or]at n;rw[B0]at hz;rcases A9.mp hz with hz|hz
  ·exact up _ (c.dn z hz n.1 ne j hj)
  ·exact absurd (by simpa using hz) n.2
 ·by_cases z:j=i
  ·rw[z];exact nw
  ·exact up _ (c.so j (by omega))
theorem oX.done (c:oX r q h x kv ws y v h):yf r q h x kv ws:=
 ⟨c.nd,c.pr,c.iS,c.wt,λ z hz n i hi=>by
  by_cases e:z=y
  ·rw[e];exact c.so i hi
  ·exact c.dn z hz n e i hi⟩
end
structure SJ(m:Nat)(r q:List Row)(h x:Nat)(kv:List (Nat×Nat)):Prop where
 nd:(kv.map (·.1)).Nodup
 pr:∀e∈kv,Pr r q h x e.1 e.2
 all:∀y,y < m->∃v,(y,v)∈kv
 dY:kv.length<=m
 iS:(0,x)∈kv
theorem yf.ZE {m h m2 x:Nat}{r q:List Row}{kv:List (Nat×Nat)}(G:lD m h r)(T:Tb m2 h q)(hx:x < m2)(c:yf r q h x kv []):SJ m r q h x kv:=
 ⟨c.nd,c.pr,λ y hy=>by
  obtain⟨e,he,e2⟩:=C9.mp (c.all G hy);subst e2;exact⟨e.2,he⟩,c.dY G T hx,c.iS⟩
end KK
namespace KK
open PySem L3 L4 L5
open L2 hiding aM gu
def lq(ls:Row)(x:Nat):Bool:=decide ((x:Int)∈ls)
end KK
namespace L2
open PySem PySem.Spec PyProof.Rows
theorem jI.Eg {K:J8}{x qual:Str}{st:Stmt}{dV:Value}{c f:Addr}{fd:FuncData}{ps:List Str}{n:Nat}(F:jI K x qual st dV c f fd)(hn:ps.length=n+1) (h:∀(kV doc pm:Value) (an:Option Addr) (ct:Value) (s:Shared),K.In s.heap->∀(us:List Value),us.length=n->BindsTo s (PySem.W.fnOf x qual (bz st) (aP st) (aq st) dV kV doc pm an (.ref c) ct) ⟨us,[]⟩ (ps.zip (us++[.none]))):Binds K fd ps [.none]:=
 F.binds λ kV doc pm an ct s hk us hl=>h kV doc pm an ct s hk us (by rw[r6,l0]at hl;omega)
end L2
namespace L2
open PySem PySem.W PySem.Calls PyProof.Rows L5
end L2
namespace L2
open PySem PySem.Spec PySem.W PySem.Calls PyProof.Rows L5
end L2
namespace KK
open PySem L3 L4 L5
open L2 hiding aM gu
structure zW{α:Type}(aL:List α)(nk:α->Bool)(i:Nat)(ls:Row):Prop where
 PM:zV i ls
 is:∀d x,d < i->aL[d]?=some x->lq ls d=nk x
section
variable {α:Type}{aL:List α}{nk:α->Bool}{i:Nat}{ls:Row}
theorem zW.nil (aL:List α)(nk:α->Bool):zW aL nk 0 []:=⟨zV.nil 0,λ d x z=>absurd z (by omega)⟩
theorem zW.out (c:zW aL nk i ls){d:Nat}(h:i<=d):lq ls d=false:=A4 λ z=>by have:=(c.PM.2 _ z).2;omega
theorem zW.yes (c:zW aL nk i ls){x:α}(hx:aL[i]?=some x)(l:nk x=true):zW aL nk (i+1) (ls++[(i:Int)]):=by
 refine⟨c.PM.add,λ d y hd hy=>?_⟩;by_cases z:d=i
 ·subst z;rw[hx]at hy;cases hy;rw[l];exact B5 (by simp)
 ·rw[<- c.is d y (by omega) hy];have:(d:Int)≠(i:Int):=by omega
  simp[lq,this]
theorem zW.no (c:zW aL nk i ls){x:α}(hx:aL[i]?=some x)(l:nk x=false):zW aL nk (i+1) ls:=by
 refine⟨c.PM.up,λ d y hd hy=>?_⟩;by_cases z:d=i
 ·subst z;rw[hx]at hy;cases hy;rw[l,c.out (D8 _)]
 ·exact c.is d y (by omega) hy
end
end KK
namespace L4
open PySem PySem.Spec L2 L3
section
variable {X:Cx}{a b c:Expr}{ta tb tc:bJ}
theorem bS(ha:WE X a ta)(hs:starEach [a] X.env=(false,eval a X.env)::starEach [] X.env:=by rfl):WA X [a] (eX ta oA):=aA ha bg hs
theorem eT(ha:WE X a ta)(hb:WE X b tb)(hs:starEach [a,b] X.env=(false,eval a X.env)::starEach [b] X.env:=by rfl)(EE:starEach [b] X.env=(false,eval b X.env)::starEach [] X.env:=by rfl):WA X [a,b] (eX ta (eX tb oA)):=aA ha (bS hb EE) hs
theorem yu(ha:WE X a ta)(hb:WE X b tb)(hc:WE X c tc)(hs:starEach [a,b,c] X.env=(false,eval a X.env)::starEach [b,c] X.env:=by rfl)(MC:starEach [b,c] X.env=(false,eval b X.env)::starEach [c] X.env:=by rfl)(EE:starEach [c] X.env=(false,eval c X.env)::starEach [] X.env:=by rfl):WA X [a,b,c] (eX ta (eX tb (eX tc oA))):=aA ha (eT hb hc MC EE) hs
end
end L4
namespace L2
open PySem
def jC(ps fv:List Str)(sc:Scope):Bool:=sc.kind==.function&&!sc.isCoroutine&&!sc.isGenerator&&(ps.all λ x=>sc.names.lookup x==some .local||sc.names.lookup x==some .cell)&&(fv.all λ x=>sc.names.lookup x==some .free)&&sc.names.all λ y=>(y.2 != .cell||!fv.contains y.1)&&(y.2 != .free||fv.contains y.1)
theorem Q1{ps fv lo:List Str}{sc:Scope}(h:jC ps fv sc=true)(nd:(ps++fv++lo).Nodup):gS ps fv lo sc:=by
 unfold jC at h;simp only[z6,z9]at h;obtain⟨⟨⟨⟨⟨h1,h2⟩,h3⟩,h4⟩,h5⟩,h6⟩:=h;refine⟨by simpa using h1,by simpa using h2,by simpa using h3,nd,λ x hx=>by simpa using h4 x hx,λ x hx=>by simpa using h5 x hx,λ x hx=>?_,λ x hx hm=>?_⟩
 ·have:=(h6 _ (o5 hx)).2;simpa using this
 ·have:=(h6 _ hm).1;simp[hx]at this
end L2
namespace L3
open PySem L2
theorem CO{M:Mem}{lf:Addr}{L:iA}{ps fv:List Str}{cs:List D}{cells:List (Str×Addr)}{cn:List (Str×Nat)}{δ:bY}{C:CM} (h:jC ps fv L.scope=true) (pV:fv=cn.map (·.1)) (hl:cs.length=cn.length) (Dx:∀(i:Nat) (x:Str) (j:Nat) (d:D),cn[i]?=some (x,j)->cs[i]?=some d->δ[j]?=some (some d)) (hC:IV cells cn δ C) (hM:M lf=some (.hX (.lam L (bc cells L.scope.names [])))) (hn:∀b d,C b=some d->M b=none):zX (iy M C) lf L fv cs C:=by
 unfold jC at h;simp only[z6,z9]at h;obtain⟨⟨_,h5⟩,h6⟩:=h;have fr:∀x,(x,NameKind.free)∈L.scope.names->x∈fv:=λ x hx=>by simpa using(h6 _ hx).2
 have qT:∀x∈fv,∃j,(x,j)∈cn:=λ x hx=>by rw[pV]at hx;obtain⟨p,hp,rfl⟩:=C9.mp hx;exact⟨p.2,hp⟩
 have hc:∀n,(n,NameKind.free)∈L.scope.names->∃c,cells.lookup n=some c:=λ n hx=>by obtain⟨j,hj⟩:=qT n (fr n hx);obtain⟨b,_,e,_⟩:=hC.has n j hj;exact⟨b,e⟩
 have look:=fK (cells:=cells) L.scope.names [] hc λ x c e=>by simp at e
 have free:=λ x c e=>(iM (cells:=cells) L.scope.names [] x c e).elim (fr x) λ z=>by simp at z
 have Qt:C lf=none:=by
  rcases cM C lf with z|⟨d,z⟩
  ·exact z
  ·rw[hn lf d z]at hM;cases hM
 refine⟨⟨bc cells L.scope.names [],by rw[jG Qt];exact hM,λ x y b e1 e2=>?_,λ x b e=>⟨free x b e,?_⟩,λ i x d ex ed=>?_⟩,by rw[hl,pV,A8],λ b d e=>mn e⟩
 ·obtain⟨j,hj⟩:=qT x (free x b e1);obtain⟨i,hi⟩:=qT y (free y b e2);exact hC.inj x j y i b hj hi (look x b e1) (look y b e2)
 ·obtain⟨j,hj⟩:=qT x (free x b e);obtain⟨b',d,e1,_,e3⟩:=hC.has x j hj;rw[look x b e]at e1;cases e1;exact⟨d,e3⟩
 ·rw[pV,x3]at ex;obtain⟨p,hp,rfl⟩:=Option.map_eq_some_iff.mp ex;have hx:p.1∈fv:=by rw[pV];exact C9.mpr ⟨p,m8 hp,rfl⟩
  have hm:(p.1,NameKind.free)∈L.scope.names:=by have:=h5 _ hx;exact o5 (by simpa using this)
  obtain⟨b,hb⟩:=Option.isSome_iff_exists.mp (ip (cells:=cells) L.scope.names [] hm);obtain⟨b',d',e1,e2,e3⟩:=hC.has p.1 p.2 (m8 hp);rw[look _ b hb]at e1;cases e1;rw[Dx i p.1 p.2 d hp ed]at e2;cases e2;exact⟨b,hb,e3⟩
end L3
namespace L2
open PySem PySem.Spec PyProof.Rows
section
variable {X:Cx}{C fI:Addr}{k:Nat}{fd:FuncData}{ps:List Str}{sp:Sp}
def Fq(sp:Sp)(C:Addr)(E:XK):TS:=λ _ _ H=>∀e t0,H e=none->sp [.ref e] (upd H e (XO e C none t0)) (λ v H2=>v=.aY/\∃od t1,H2 e=some (XO e C od t1)/\E (.ref C) od (JD H2 e)) E0
theorem yO{E:XK}{x:Str}{np bx pos:Pos}(hs:eR X E)(hc:X.calm=true)(hg:Gl X x)(hm:X.mg x=some (.ref C))(ec:oU X.K C fI)(F:aX X.prog X.w X.K X.mg X.base di k fI fd ps sp)(hr:bf (k+1) X.A)(hb:Binds X.K fd ps []) (hdb:(x==("__debug__":Str))=false:=by decide):PS X (.Raise (some (.Call (.Name x np) [] [] bx)) none pos) (Fq sp C E):=by intro pins s σ H D I h;obtain⟨nm,q0,N,bs,bm,sn,sub,ab,col,dd,k0,k1,k2,k3,k5,cl,tl,no,ni⟩:=ec.ex;have T:=u6 I.jq tl;rw[arm_exec_Raise];refine G1 (C5 (mW (C:=C) (nm:=nm) (q:=q0) (N:=N) (bs:=bs) (bm:=bm) (hdct:=true) (sn:=sn) (sub:=sub) (ab:=ab) (col:=col) (dd:=dd) (k0:=k0) (k1:=k1) (k2:=k2) (k3:=k3) (k5:=k5) (newId:="ValueError.__new__") (T.hasType (b:=true) (by decide)) (I.ok.hd hc) ?_));refine G1 (G4 (u5 (dC I hg hm (PySem.W.callWith_K0 I.jq ec.kp (wG (vs:=[]) (us:=[]) I ec F hr hb .nil (by simp) h)) hdb)) (λ v s3 z=>G1 (C5 (G2 ?_))) λ _ _ z=>z);obtain⟨e,H2,rfl,le,J,od,t1,hx,q⟩:=z;obtain⟨ho,_,_⟩:=J.aK e _ hx;exact⟨e,_,_,rfl,J.jq _ _ cl,ho,rfl,rfl,rfl,hs pins σ H2 s3 e C t1 od J le hx q⟩
def Kh(C:Addr):Sp:=λ vs H Q _=>∃e t,vs=[.ref e]/\H e=some (XO e C none t)/\∀t',Q .aY (upd H e (XO e C none t'))
end
def PB(X:Cx)(st:Stmt)(tb:XK->TS):Prop:=∀(pins:List (Addr×Obj)) (s:Shared) (σ:St) (H:Hp) (D:Ends) (E:XK) (Ex:Value->Shared->Prop),Inv X pins σ H s->tb E D σ H->(∀H1 s1 v s',Inv X pins σ H1 s1->ow X.prog X.w X.stack H1 s1 E v s'->Ex v s')->wpAny (model X.prog X.w) X.A (exec st X.env) (SP X pins D) Ex s
section
variable {X:Cx}{k:Nat}{fa:Addr}{fd:FuncData}{ps:List Str}{sp:Sp}{x:Str}{p pos gm:Pos}{e:Expr}{es:List Expr}{t:TA}
theorem G_(hE:∀v s,X.xe v s->False)(F:aX X.prog X.w X.K X.mg X.base (ow X.prog X.w) k fa fd ps sp)(hr:bf k X.A)(hg:Gl X x)(hm:X.mg x=some (.ref fa))(hk:PySem.W.keepIn X.K (.ref fa)=true)(hb:Binds X.K fd ps [])(ha:PA X (e::es) t) (hs:swapsWith (.Call (.Name x p) (e::es) [] pos) none gm.line X.env=pure false:=by rfl) (hdb:(x==("__debug__":Str))=false:=by decide) (he:starEach (e::es) X.env=(false,eval e X.env)::starEach es X.env:=by rfl) (hpl:(backTo pos (starEach es X.env)).any (·.1)=false:=by rfl):PB X (.Expr (.Call (.Name x p) (e::es) [] pos) gm) (λ E D σ H=>t σ H λ vs H1=>sp vs H1 (λ _ H2=>D.nx σ H2) E):=by intro pins s σ H D E Ex I h hx;exact wpAny_Expr_any (G4 (UW hE F hr hg hm hk hb ha I h hx hdb he hpl) (λ v s1 ⟨x,H1,I1,r1,q1⟩=>⟨σ,H1,I1,q1⟩) λ _ _ z=>z) I.quiet hs
theorem O9{c:Expr}{a b:Stmt}{tc:TT}{ta tb:XK->TS}(hE:∀v s,X.xe v s->False)(hc:PT X c tc)(ha:PB X a ta)(hb:PB X b tb):PB X (.If c [a] [b] pos) (λ E D σ H=>tc σ H λ d H1=>if d=true then ta E D σ H1 else tb E D σ H1):=by
 intro pins s σ H D E Ex I h hx;have one:∀{st:Stmt} {s1:Shared},wpAny (model X.prog X.w) X.A (exec st X.env) (SP X pins D) Ex s1->wpAny (model X.prog X.w) X.A (execs [st] X.env) (SP X pins D) Ex s1:=λ z=>wpAny_execs_cons (G4 z (λ f s2 q=>by
  cases f with
  |next=>exact B4 q
  |_=>exact q) λ _ _ z=>z)
 refine wpAny_If (G4 (hc pins s σ H _ I h) (λ d s1 ⟨H1,I1,q1⟩=>?_) λ v s z=>(hE v s z).elim);cases d with
 |true=>exact one (ha pins s1 σ H1 D E Ex I1 (by rw[J0 rfl]at q1;exact q1) hx)
 |false=>exact one (hb pins s1 σ H1 D E Ex I1 (by rw[J7 r0]at q1;exact q1) hx)
theorem GQ{n xc:Str}{i:Nat}{np vq mG:Pos}{st b0:Stmt}{suite:List Stmt}{th:Addr->TS}{tb:XK->TS}{CE:Addr}(hst:X.stack=X.env::X.outer/\X.env.frame=some X.env.locals)(hN:X.N.Nodup) (hi:X.N[i]?=some n) (hk:X.env.scope.names.lookup n=some .local) (hb:PB X st tb) (QD:Gl X xc) (Qq:X.mg xc=some (.ref CE)) (hC:lF X.K CE) (hs:∀a,nZ (X.HW a) (b0::suite) (th a)) (Dw:(xc==("__debug__":Str))=false:=by decide):PS X (.Try [st] [.ExceptHandler (some (.Name xc np)) (some n) (b0::suite) vq] [] [] mG) (λ D σ H=>tb (EH X.K CE i th D σ) D σ H):=by
 intro pins s σ H D I h;refine wpAny_Try_except (wpAny_execs_cons (G4 (hb pins s σ H D _ _ I h λ H1 s1 v s' I1 cx=>Nr I1 hst hN hi hk QD Qq hC hs cx Dw) (λ f s2 z=>?_) λ _ _ z=>z));cases f with
 |next=>exact B4 (B4 z)
 |_=>exact z
end
end L2
namespace L3
open PySem PySem.Spec PyProof.Rows L2
section
variable {X:Cx}{E:XK}{E2:rE}{C fI:Addr}{k:Nat}{fd:FuncData}{ps:List Str}{x:Str}{np bx pos:Pos}
def wC(C:Addr)(E2:rE):fQ:=λ _ _ M=>E2 C [] M
theorem yL(hs:eR X E)(kx:dw X.K X.H₀ E2 E)(hc:X.calm=true)(hg:Gl X x)(hm:X.mg x=some (.ref C))(ec:oU X.K C fI)(F:aX X.prog X.w X.K X.mg X.base di k fI fd ps (Kh C))(hr:bf (k+1) X.A)(hb:Binds X.K fd ps [])(hdb:(x==("__debug__":Str))=false:=by decide):QS X (.Raise (some (.Call (.Name x np) [] [] bx)) none pos) (wC C E2):=
 eZ (yO (pB hs kx) hc hg hm ec F hr hb hdb) λ D σ H ⟨δ,M,D2,hs,hm,q,kk⟩=>λ e t0 fe=>by
  refine⟨e,t0,rfl,aD,λ t'=>⟨rfl,none,t',by rw[lK,aD],?_⟩⟩;have z:JD (upd (upd H e (XO e C none t0)) e (XO e C none t')) e=H:=by
   funext b;by_cases y:b=e
   ·rw[y,gM,fe]
   ·rw[dh y,ar y,ar y]
  rw[z];exact⟨C,[],M,rfl,rfl,hm,q⟩
end
abbrev zS:=rE->fQ
def WV(K:J8)(sb:zS):XK->TS:=λ E D σ H=>∃δ M D2 E2,bF K H δ σ/\RelM K H M/\sb E2 D2 δ M/\ql K H D2 D/\dw K H E2 E
abbrev QB(X:Cx)(st:Stmt)(sb:zS):Prop:=PB X st (WV X.K sb)
theorem Jp{X:Cx}{st:Stmt}{t t':XK->TS}(h:PB X st t)(k:∀E D σ H,t' E D σ H->t E D σ H):PB X st t':=λ pins s σ H D E Ex I q hx=>h pins s σ H D E Ex I (k E D σ H q) hx
section
variable {X:Cx}{k:Nat}{ps:List Str}{sp:tX}{x:Str}{p pos gm:Pos}{e:Expr}{es:List Expr}{t:dE}
def uD(sp:tX)(t:dE):zS:=λ E2 D δ M=>t δ M λ ds M1=>sp ds M1 (λ _ M2=>D.nx δ M2) E2
theorem GC(hE:∀v s,X.xe v s->False)(d:gU X.prog X.w X.K X.mg X.base k x ps sp)(hr:bf k X.A)(hg:Gl X x)(ha:QA X (e::es) t) (hs:swapsWith (.Call (.Name x p) (e::es) [] pos) none gm.line X.env=pure false:=by rfl) (hdb:(x==("__debug__":Str))=false:=by decide) (he:starEach (e::es) X.env=(false,eval e X.env)::starEach es X.env:=by rfl) (hpl:(backTo pos (starEach es X.env)).any (·.1)=false:=by rfl):QB X (.Expr (.Call (.Name x p) (e::es) [] pos) gm) (uD sp t):=by obtain⟨f,fd,F,hm,kp,b⟩:=d.ex;refine Jp (G_ hE F hr hg hm kp b ha hs hdb he hpl) λ E D σ H ⟨δ,M,D2,E2,hs,hm,q,kk,kx⟩=>?_;refine⟨δ,M,_,hs,hm,q,λ vs H1 ds M1 hd bG t1 q1=>⟨ds,M1,_,_,hd,bG,q1,λ v H2 d M2 hd2 jw t2 q2=>?_,kx.mono t1⟩⟩;exact kk.nx _ H2 _ M2 (hs.mono (t1.trans t2)) jw (t1.trans t2) q2
def Ko(tc:dN)(ta tb:zS):zS:=λ E2 D δ M=>tc δ M λ b M1=>if b=true then ta E2 D δ M1 else tb E2 D δ M1
theorem OS{c:Expr}{a b:Stmt}{tc:dN}{ta tb:zS}(hE:∀v s,X.xe v s->False)(hc:QT X c tc)(ha:QB X a ta)(hb:QB X b tb):QB X (.If c [a] [b] pos) (Ko tc ta tb):=
 Jp (O9 hE hc ha hb) λ E D σ H ⟨δ,M,D2,E2,hs,hm,q,kk,kx⟩=>by
  refine⟨δ,M,_,hs,hm,q,λ b H1 M1 bG t1 q1=>?_⟩;cases b with
  |true=>rw[J0 rfl]at q1 ⊢;exact⟨δ,M1,D2,E2,hs.mono t1,bG,q1,kk.mono t1,kx.mono t1⟩
  |false=>rw[J7 r0]at q1 ⊢;exact⟨δ,M1,D2,E2,hs.mono t1,bG,q1,kk.mono t1,kx.mono t1⟩
def Bg(K:J8)(sb:zS)(CE:Addr)(i:Nat)(h2:Addr->List (Str×D)->fQ):fQ:=λ D δ M=>i < δ.length/\sb (λ C fs M2=>lF K C/\uw K C CE=true/\h2 C fs (D.but i) (δ.set i none) M2) D δ M
theorem Gp{n xc:Str}{i:Nat}{np vq mG:Pos}{st b0:Stmt}{suite:List Stmt}{h2:Addr->List (Str×D)->fQ}{sb:zS}{CE:Addr}(hst:X.stack=X.env::X.outer/\X.env.frame=some X.env.locals)(hN:X.N.Nodup) (hi:X.N[i]?=some n) (hk:X.env.scope.names.lookup n=some .local) (hb:QB X st sb) (QD:Gl X xc) (Qq:X.mg xc=some (.ref CE)) (hC:lF X.K CE) (hs:yb X i (b0::suite) h2) (Dw:(xc==("__debug__":Str))=false:=by decide):QS X (.Try [st] [.ExceptHandler (some (.Name xc np)) (some n) (b0::suite) vq] [] [] mG) (Bg X.K sb CE i h2):=by
 obtain⟨th,X7,hl⟩:=hs;refine eZ (GQ hst hN hi hk hb QD Qq hC X7 Dw) λ D σ H ⟨δ,M,D2,hs,hm,⟨li,q⟩,kk⟩=>?_;refine⟨δ,M,D2,_,hs,hm,q,kk,λ C od Zk H2 M2 hx rm t2 ⟨ec,sc,q2⟩=>⟨C,rfl,ec,sc,λ a na=>?_⟩⟩;have tl:ah H2 (upd H2 a (XT a C od)):=ah.laid na;have hlen:=hs.len;refine hl a C od Zk (L2.Ends.but D i) (cQ.but D2 i) _ _ (δ.set i none) M2 (k7 (by rw[<- hlen];exact li)) aD (hx.laid na) (bF.unset (hs.mono (t2.trans tl))) (rm.laid na) q2 ⟨?_,?_,?_,?_⟩
 ·exact λ σ' H' δ' M' jv cE t' q'=>kk.nx _ H' _ M' jv.unset cE (t2.trans (tl.trans t')) q'
 ·exact λ v H' d M' jz cE t' q'=>kk.rt v H' d M' jz cE (t2.trans (tl.trans t')) q'
 ·exact λ σ' H' δ' M' jv cE t' q'=>kk.bk _ H' _ M' jv.unset cE (t2.trans (tl.trans t')) q'
 ·exact λ σ' H' δ' M' jv cE t' q'=>kk.ct _ H' _ M' jv.unset cE (t2.trans (tl.trans t')) q'
end
end L3
namespace L4
open PySem PySem.Spec L2 L3
structure Ep(P:Program)(w:World)(K:J8)(mg:Str->Option Value)(base:Heap)(k:Nat)(x:Str)(C:Addr):Prop where
 nm:mg x=some (.ref C)
 ex:∃(fI:Addr) (fd:FuncData) (ps:List Str),oU K C fI/\aX P w K mg base di k fI fd ps (Kh C)/\Binds K fd ps []
structure WB(X:Cx)(st:Stmt)(sb:zS):Prop where
 h:QB X st sb
section
variable {X:Cx}{E:XK}{E2:rE}{C:Addr}{k:Nat}{ps:List Str}{x:Str}{p np bx pos gm:Pos}{sp:tX}{e:Expr}{es:List Expr}{t:dE}
theorem o_(hs:eR X E)(kx:dw X.K X.H₀ E2 E)(hc:X.calm=true)(hg:Gl X x)(er:Ep X.prog X.w X.K X.mg X.base k x C)(hr:bf (k+1) X.A)(hdb:(x==("__debug__":Str))=false:=by decide):WS X (.Raise (some (.Call (.Name x np) [] [] bx)) none pos) (wC C E2):=by obtain⟨fI,fd,ps,ec,F,b⟩:=er.ex;exact⟨yL hs kx hc hg er.nm ec F hr b hdb⟩
theorem lI(hE:∀v s,X.xe v s->False)(d:gU X.prog X.w X.K X.mg X.base k x ps sp)(ha:WA X (e::es) t)(hr:bf k X.A:=by exact hr.mono (by first|decide|omega))(hg:Gl X x:=by rfl) (hs:swapsWith (.Call (.Name x p) (e::es) [] pos) none gm.line X.env=pure false:=by rfl) (hdb:(x==("__debug__":Str))=false:=by decide) (he:starEach (e::es) X.env=(false,eval e X.env)::starEach es X.env:=by rfl) (hpl:(backTo pos (starEach es X.env)).any (·.1)=false:=by rfl):WB X (.Expr (.Call (.Name x p) (e::es) [] pos) gm) (uD sp t):=⟨GC hE d hr hg ha.h hs hdb he hpl⟩
theorem IW{c:Expr}{a b:Stmt}{tc:dN}{ta tb:zS}(hE:∀v s,X.xe v s->False)(hc:WT X c tc)(ha:WB X a ta)(hb:WB X b tb):WB X (.If c [a] [b] pos) (Ko tc ta tb):=⟨OS hE hc.h ha.h hb.h⟩
theorem we{n xc:Str}{i:Nat}{np vq mG:Pos}{st b0:Stmt}{suite:List Stmt}{h2:Addr->List (Str×D)->fQ}{sb:zS}{CE:Addr}(hst:X.stack=X.env::X.outer/\X.env.frame=some X.env.locals)(hN:X.N.Nodup) (hi:X.N[i]?=some n) (hk:X.env.scope.names.lookup n=some .local) (hb:WB X st sb) (QD:Gl X xc) (Qq:X.mg xc=some (.ref CE)) (hC:lF X.K CE) (hs:yb X i (b0::suite) h2) (Dw:(xc==("__debug__":Str))=false:=by decide):WS X (.Try [st] [.ExceptHandler (some (.Name xc np)) (some n) (b0::suite) vq] [] [] mG) (Bg X.K sb CE i h2):=⟨Gp hst hN hi hk hb.h QD Qq hC hs Dw⟩
end
theorem wH{K:J8}{sb:zS}{CE:Addr}{i:Nat}{h2:Addr->List (Str×D)->fQ}{D:cQ}{δ:bY}{M:Mem}(li:i < δ.length)(h:sb (λ C fs M2=>lF K C/\uw K C CE=true/\h2 C fs (cQ.but D i) (δ.set i none) M2) D δ M):Bg K sb CE i h2 D δ M:=⟨li,h⟩
theorem jf{sp:tX}{t:dE}{E2:rE}{D:cQ}{δ:bY}{M:Mem}(h:t δ M λ ds M1=>sp ds M1 (λ _ M2=>D.nx δ M2) E2):uD sp t E2 D δ M:=h
theorem uM{tc:dN}{ta tb:zS}{E2:rE}{D:cQ}{δ:bY}{M:Mem}(h:tc δ M λ b M1=>if b=true then ta E2 D δ M1 else tb E2 D δ M1):Ko tc ta tb E2 D δ M:=h
end L4
namespace KK
open PySem L3 L4 L5
open L2 hiding aM gu
local macro_rules|`(tactic|walk_at "mem")=>`(tactic|first|assumption|exact ae|(rw[ak (by assumption)];assumption)|(rw[ak (by assumption),ak (by assumption)];assumption)|(rw[ak (by assumption)];exact ae))
local macro_rules|`(tactic|walk_at "rd1")=>`(tactic|first|(with_reducible first|refine KJ ?_|refine BD ?_|refine FP ?_|refine uK ?_|refine K2 ?_|refine qC ?_|refine qz ?_|refine KH ?_|refine jc ?_|refine sv ?_)|((with_reducible refine' dS ?k1 ?_);(case k1=>rfl))|(with_reducible first|refine OF ?_|refine K3 ?_|refine Jj ?_|refine KL ?_|refine iI ?_|refine hG ?_|refine KD ?_|refine KP ?_|refine KG ?_|refine Gb ?_|refine BH ?_|refine KU ?_|refine FL ?_|refine Ge ?_|refine Gg ?_)|((with_reducible refine' Gh ?k1 ?_);(case k1=>walk_at "mem"))|(with_reducible first|refine KC ?_|refine FJ ?_|refine BI ?_|refine Tf ?_|refine Ji ?_|refine pG ?_|refine FN ?_|refine sk ?_|refine wO ?_|refine K1 ?_)|((with_reducible refine qA ?k1 ?_);(case k1=>first|assumption|decide))|((with_reducible refine K0 ?k1 ?k2 ?_);(case k1=>first|assumption|decide);(case k2=>first|assumption|decide|omega))|((with_reducible refine sy ?k1 ?_);(case k1=>exact Nn (by decide) (by decide)))|(with_reducible first|refine BC ?_)|((with_reducible refine' Gd ?k1 ?_);(case k1=>rfl))|(with_reducible first|refine Jl ?_|refine sG ?_|refine BE ?_|refine BF ?_)|((with_reducible refine' BG ?k1 ?_);(case k1=>walk_at "mem"))|(with_reducible first|refine KQ ?_|refine F' ?_|refine Ga ?_|refine F_ ?_|refine FQ ?_|refine FR ?_|refine FI ?_|refine wL ?_)|((with_reducible refine' bV ?k1 ?k2 ?_);(case k1=>walk_at "mem");(case k2=>rfl))|((with_reducible refine' bM ?k2 ?_);(case k2=>rfl))|((with_reducible refine' jd ?k1 ?_);(case k1=>walk_at "mem"))|((with_reducible refine' KI ?k1 ?k2 ?_);(case k1=>walk_at "mem");(case k2=>rfl))|(with_reducible first|refine FK ?_|refine OE ?_|refine OD ?_|refine FY ?_|refine FV ?_|refine wM ?_))
local macro_rules|`(tactic|walk_at "rd")=>`(tactic|repeat(walk_at "rd1"))
local macro_rules|`(tactic|walk_at "rx")=>`(tactic|repeat(first|walk_at "rd1"|((with_reducible refine' OB ?k1 ?_);(case k1=>exact Nat.le_of_ble_eq_true rfl))))
local macro_rules|`(tactic|walk_at "len")=>`(tactic|first|(rintro⟨e,_⟩;subst e;rfl)|(rintro⟨_,h⟩;revert h;walk_at "len"))
def top(i:Nat):Stmt:=PySem.Challenge.pw_lastloser_k24_more_than_four_hundred_pai.main.body.getD i (.Pass ⟨0,0,0,0⟩)
def qT(i:Nat):Stmt:=match top i with
 | .ClassDef _ _ _ b _ _ _ _ _ _ _=>b.getD 0 (.Pass ⟨0,0,0,0⟩)
 |_=>.Pass ⟨0,0,0,0⟩
structure iE(K:J8)(mg:Str->Option Value):Prop where
 ValueError:mg "ValueError"=none
 all:mg "all"=none
 any:mg "any"=none
 enumerate:mg "enumerate"=none
 int:mg "int"=none
 isinstance:mg "isinstance"=none
 len:mg "len"=none
 list:mg "list"=none
 range:mg "range"=none
 set:mg "set"=none
 sorted:mg "sorted"=none
 tuple:mg "tuple"=none
 cK:En K mg "MOST_PAIRS" (.int 400)
 gE:mg "HeapError"=some (.ref 24)
 jB:JO K 24
 oQ:lF K 24
 bR:oY K mg "TooMany" "TooMany.__init__" (qT 2) 44 41 ["self"] []
 Ee:oY K mg "NoGame" "NoGame.__init__" (qT 3) 63 60 ["self","word","heap"] [Str.ofString "word",Str.ofString "heap"]
 zL:oY K mg "NoTable" "NoTable.__init__" (qT 4) 82 79 ["self","word","at"] [Str.ofString "word",Str.ofString "at"]
 cO:oY K mg "Wrong" "Wrong.__init__" (qT 5) 101 98 ["self","counts"] [Str.ofString "counts"]
 zM:oY K mg "NoPaper" "NoPaper.__init__" (qT 6) 120 117 ["self","at"] [Str.ofString "at"]
 kT:PySem.W.kitOne K (.ref 44) (.ref 44)=some true
 kA:PySem.W.kitAny K (.ref 44) [.ref 63,.ref 120,.ref 82,.ref 101]=some false
 sT:uw K 44 24=true
 sW:uw K 101 101=true
def rX:gc:=λ ds M Q=>∃ns:List Int,ds=[.fl (ns.map D.int)]/\M 183=some (.hX (.lM "first_pairs.<locals>.gone"))/\∀M',Q (.bl true) M'
section
variable {P:Program}{w:World}{K:J8}{mg:Str->Option Value}{base:Heap}
theorem Hq{f:Addr}{fd:FuncData}(F:fg K "_law_pick" "_law_pick" (top 31) f fd)(T:iE K mg):aX P w K mg base di 1 f fd ["_law_flow_here","_law_many"] (cw K qt):=by
 refine oC F ["_law_flow_here","_law_many","_law_cell","_law_digit"] (λ bQ A outer s H E ds M Q nd hr h=>?_)
 ·obtain⟨a,c,n,rfl,⟨ns,p,b,sd,ct,hf,hc,ie,hp,hb,EF,MC⟩,Uy,Qm,k⟩:=h;refine⟨_,(aa (cG (uk (aQ (fU hr.units) (aO aM (ao 0) ag) ag) (qo (aQ Cv (aO aM (ao 0) ag) (bo dW T.len (bS (aO aM (ao 0) ag)))))).pt
 (aa (aE 2 (aO aM (aO aM (ao 0) ag) (aO aM (ao 0) ag)))
 (aa (df (bq bw (aO aM (ao 0) ag) ag) (fk (ao 0) ag mM))
 (ai (cG (aQ TH (ao 2) (bq Pw ag ag))
 (ai (df (ao 2) (fk (ao 0) ag mM)))
 (ai (df (bq gC (bq bw (bq bw (bq eN (aO aM (ao 0) ag) ag) (bq gC (ao 2) ag)) ag) ag) (fk (ao 0) ag mM)))))))
 bA)
 (aa (cG (aQ yY (aO aM (ao 0) ag) ag)
 (aa (aE 3 (bq gC (aO aM (ao 0) ag) (ao 1)))
 (aa (df (bq uZ (aO aM (ao 0) ag) (ao 1)) (fk (ao 0) ag mM))
 (ai (aJ (ao 3)))))
 bA)
 (aa (df (bq bw (aO aM (ao 0) ag) ag) (fk (ao 0) ag mM))
 (aa (df (bq gC (bq bw (bq bw (bq eN (aO aM (ao 0) ag) ag) ag) (aO aM (ao 0) ag)) ag) (fk (ao 0) ag mM))
 (ai (aJ (bq gC (bq uZ (bq gC (bq eN (bq bw (bq gC (aO aM (ao 0) ag) ag) ag) (bq bw (bq uZ (aO aM (ao 0) ag) ag) ag)) ag) ag) (ao 1)))))))),?_⟩
  refine uL (λ δ' M'=>∃(p b sd ct:Int) (v:Option D),δ'=[some (.ref a),some (.int n),v,none]/\M'=af M a (.lst (JA c p b sd ct))/\0<=p/\0<=b/\0<=sd/\sd < 2147483647) (λ N hN=>?_) ?_
  ·walk_at "rd";refine bH (λ UG=>?_) (λ UG=>?_)
   ·walk_at "rd";refine bH (λ hpl=>?_) (λ hpl=>?_)
    ·obtain⟨x,hx⟩:∃x:Int,f' (ns.map D.int) p=some (.int x):=by
      have hl:p.toNat < ns.length:=by rw[A8]at hpl;omega
      refine⟨ns[p.toNat],?_⟩;have e:((p.toNat:Nat):Int)=p:=by omega
      have q:f' (ns.map D.int) ((p.toNat:Nat):Int)=some (.int ns[p.toNat]):=bt (by simp[hl]);rw[e]at q;exact q
     walk_at "rd";refine bV hc hx ?_;walk_at "rd";refine Te ⟨by decide,by decide,by decide⟩ ?_;walk_at "rd";refine bH (λ MQ=>?_) (λ MQ=>?_)
     ·walk_at "rd";rw[cD];refine hN _ _ ⟨p+1,x,sd,ct,_,rfl,rfl,by omega,?_,EF,MC⟩;have MQ:(10:Int)^(18:Int).toNat<=x:=MQ;have e:(10:Int)^(18:Int).toNat=1000000000000000000:=by decide
      omega
     ·walk_at "rd";rw[cD];refine hN _ _ ⟨p+1,b,_,ct,_,rfl,rfl,by omega,hb,A5 _ (by decide),s9 _ (by decide)⟩
    ·walk_at "rd";exact hN _ _ ⟨p,b,sd,ct,none,rfl,(pd hf).symm,hp,hb,EF,MC⟩
   ·walk_at "rd";exact hN _ _ ⟨p,b,sd,ct,none,rfl,(pd hf).symm,hp,hb,EF,MC⟩
  ·rintro δ' M' ⟨p,b,sd,ct,v,rfl,rfl,hp,hb,EF,MC⟩;walk_at "rd";refine bH (λ UG=>?_) (λ UG=>?_)
   ·walk_at "rd";rw[cD];refine ax (k _ _ (A5 _ (by omega)) (s9 _ Uy) ⟨ns,p,_,sd,ct,ae,by rw[ak ie];exact hc,ie,hp,Int.ediv_nonneg hb (by omega),EF,MC⟩)
   ·walk_at "rd";refine sy (Np ?_ ?_) ?_
    ·have:=A5 ((sd*48271+12820163+(ct+1)) % 2147483647) (show(65521:Int)≠0 by decide);omega
    ·have:=s9 ((sd*48271+12820163+(ct+1)) % 2147483647) (show(0:Int) < 65521 by decide);omega
    walk_at "rd";rw[cD,cD];exact ax (k _ _ (A5 _ (by omega)) (s9 _ Uy) ⟨ns,p,b,_,_,ae,by rw[ak ie];exact hc,ie,hp,hb,A5 _ (by decide),s9 _ (by decide)⟩)
theorem Hw{f:Addr}{fd:FuncData}(F:fg K "_law_flow" "_law_flow" (top 30) f fd)(T:iE K mg):aX P w K mg base di 1 f fd ["_law_script"] (cw K wy):=by
 refine oC F ["_law_script"] (λ bQ A outer s H E ds M Q nd hr h=>?_)
 ·obtain⟨ns,rfl,k⟩:=h;refine⟨_,(ai (aJ (cC (aA (dA Nu T.list (bS (ao 0))) (aA ag (aA ag (aA ag (aA ag bg)))))))),?_⟩;walk_at "rd";refine Bz λ c pV=>?_;walk_at "rd";refine⟨small (by show 5<=10000;decide),λ fl NY=>?_⟩;have ie:c≠fl:=λ z=>by subst z;rw[ae]at NY;cases NY
  exact ax (k fl c _ ⟨ns,0,0,1,0,ae,by rw[ak ie];exact ae,ie,by decide,by decide,by decide,by decide⟩ (Ext.new (Ext.new Ext.rfl pV _) NY _))
end
def Ba:gc:=λ ds M Q=>∃(p:Cs) (i:Nat),ds=[tN p,.int i]/\i < p.length/\p.length<=1000/\Q (tN (inc p i)) M
def Mh:Option Nat->D
 |none=>.aY
 |some m=>.int m
def wz(P:Program)(w:World)(K:J8)(mg:Str->Option Value)(base:Heap):gc:=λ ds M Q=>∃(α:Type) (_:DecidableEq α) (enc:α->D) (t:Bool) (S:α->Prop) (F:Nat->α->α) (s0:α) (h m:Nat) (f:Addr) (L:iA) (ps fv:List Str) (sp:tW) (cs:List D) (C:CM),
 ds=[.int h,enc s0,.ref f,Mh (some m)]/\0 < m/\m<=900/\(∀a b,enc a=enc b->a=b)/\(∀s,fW t (enc s))/\mr S h F/\S s0/\h<=12/\zY P w K mg base 5 L ps fv sp/\zX M f L fv cs C/\
 (∀M1 s i Q',Ext M M1->S s->i < h->(∀M',Ext (gN M1 C) M'->Q' (enc (F i s)) M')->sp [enc s,.int i] cs (gN M1 C) Q')/\
 ∀(p:Addr) (told:List (Cs×α)) (M':Mem),M p=none->M' p=some (.lst ((told.take m).map (eO enc)))->iQ F s0 h m told->Ext M M'->Q (.ref p) M'
theorem yJ{δ:bY}{M:Mem}{Q:Bool->Mem->Prop}{mo:Option Nat}{m:Nat}{p:Addr}{ds:List D}(h3:δ[3]?=some (some (Mh mo)))(h4:δ[4]?=some (some (.ref p)))(hp:M p=some (.lst ds))(hm:mo=some m\/(mo=none/\ds.length < m))(q:Q (decide ((ds.length:Int) < (m:Int))) M):RT (kN (yG (vM false) (eW 3) (sC D.aY))) (kN (yG (JH λ i j=>D.bl (decide (i < j))) (Ku xS (eX (eW 4) oA)) (eW 3))) δ M Q:=by
 refine Jj (jc (sv (dS h3 (OF ?_))));rcases hm with rfl|⟨rfl,lt⟩
 ·refine FO (by simp[N_,Mh]) ?_;refine jc (sv (BI (hG (dS h4 (iI (je (jd hp ?_)))))));exact dS h3 (Jl q)
 ·refine BB ?_;rw[show decide ((ds.length:Int) < (m:Int))=true from B5 (by omega)]at q;exact q
theorem pH{δ:bY}{M:Mem}{Q:bu}{mo:Option Nat}{m:Nat}{p:Addr}{ds:List D}(h3:δ[3]?=some (some (Mh mo)))(h4:δ[4]?=some (some (.ref p)))(hp:M p=some (.lst ds))(hm:mo=some m\/(mo=none/\ds.length < m))(q:∀r,M r=none->Q (.ref r) (af M r (.lst (ds.take m)))):RS vK (eW 4) lN (qw (eW 3)) δ M Q:=by
 refine Ji (dS h4 (pG (sk (dS h3 ?_))));rcases hm with rfl|⟨rfl,lt⟩
 ·refine jU hp (by omega) ?_;rw[x4];exact q
 ·refine uI hp ?_;rw[j6 (by omega)]at q;exact q
section
variable {P:Program}{w:World}{K:J8}{mg:Str->Option Value}{base:Heap}
theorem Hu{f:Addr}{fd:FuncData}(F:fg K "one_more" "one_more" (top 8) f fd)(T:iE K mg):aX P w K mg base di 1 f fd ["counts","heap"] (cw K Ba):=by
 refine oC F ["counts","heap"] (λ bQ A outer s H E ds M Q nd hr h=>?_)
 ·obtain⟨p,i,rfl,hi,hp,k⟩:=h;have VW:p[i]?=some p[i]:=i7 hi;refine⟨_,(ai (aJ (bq bw (bq bw (iV sf (ao 0) iU (lH (ao 1))) (aU (bS (bq bw (aO aM (ao 0) (ao 1)) ag)))) (iV sf (ao 0) (lH (bq bw (ao 1) ag)) iU)))),?_⟩;unfold tN at k ⊢;walk_at "rx";refine Bv (by omega) ?_;walk_at "rx";refine bM (d:=.int (p[i]:Nat)) (bt (by rw[x3,VW];rfl)) ?_;walk_at "rx";refine sF (small (by simp;omega)) ?_;walk_at "rx";refine uJ (by omega) ?_;refine sF (small (by simp;omega)) ?_;refine ax ?_;rw[show((i:Int)).toNat=i by omega,show((i:Int)+1).toNat=i+1 by omega];rw[<- Dc VW,B0,B0,map_take,map_drop]at k;exact k
theorem Cq{f:Addr}{fd:FuncData}(F:jI K "first_sums" "first_sums" (top 9) (.ref 130) 136 f fd)(T:iE K mg)(vH:cR P w K mg base 1 "one_more" ["counts","heap"] Ba):aX P w K mg base di 7 f fd ["heaps","start","gone","most"] (cw K (wz P w K mg base)):=by
 refine VD F ["heaps","start","gone","most","told","known","done","counts","heap","there"] (λ A outer s H E ds M Q nd hr h=>?_)
 ·obtain⟨α,_,enc,t,S,F,s0,h,m,f,L,ps,fv,sp,cs,C,rfl,Z8,Z7,inj,Ds,CM,EF,hh,hL,UM,Yu,k⟩:=h;refine⟨_,(aa (aE 4 (cC (bS (aU (eT (bq eN (aU (bS ag)) (ao 0)) (ao 1))))))
 (aa (aE 5 (wm hr.units (ao 1) kY))
 (aa (aE 6 ag)
 (aa (gf (uk (aQ Cv (ao 6) (bo ku T.len (bS (ao 4)))) (qo (As (aQ Py (ao 3) wj) (uj (aQ Cv (bo ku T.len (bS (ao 4))) (ao 3)))).pt)).pt
 (aa (aE 7 (aO (dj hr.units) (aO (dj hr.units) (ao 4) (ao 6)) ag))
 (aa (fj (b_ T.range (bS (ao 0))) (bj 8)
 (aa (aE 9 (Fd (k:=5) (i:=2) (hr.mono (by decide)) (by rfl) (by first|exact Or.inl rfl|exact Or.inr (Or.inl rfl)|exact Or.inr (Or.inr rfl)) (eT (aO (dj hr.units) (aO (dj hr.units) (ao 4) (ao 6)) ag) (ao 8))))
 (ai (cG (aQ (m_ hr.units) (ao 9) (ao 5))
 (aa (df kY (fk (ao 5) (ao 9) (uE hr.units)))
 (ai (cX (mB i9 i6 i8 cI (ao 4) (bS (aU (eT (bC vH (eT (ao 7) (ao 8))) (ao 9))))))))
 bA))))
 (ai (E_ 6 ag)))))
 (ai (aJ (iV sf (ao 4) iU (AA (ao 3))))))))),?_⟩
  walk_at "rx";refine gA (by omega) (by omega) ?_;rw[x4];walk_at "rx";intro p hp;have Wg:Ext M (af M p (.lst [.tup [.tup (List.replicate h (.int 0)),enc s0]])):=Ext.new Ext.rfl hp _;have VZ:af M p (.lst [.tup [.tup (List.replicate h (.int 0)),enc s0]]) p=some (.lst ([(jN h,s0)].map (eO enc))):=by rw[ae];show _=some (MO.lst [.tup [tN (jN h),enc s0]]);unfold tN jN;rw[map_replicate];rfl
  generalize af M p (.lst [.tup [.tup (List.replicate h (.int 0)),enc s0]])=M0 at*;walk_at "rx";refine sE t λ q hq=>?_;have Sa:M q=none:=Wg.free hq;have ud:p≠q:=aZ VZ hq;walk_at "rx";refine⟨ae,Ds s0,?_⟩;rw[cD];have YU:Ext M (af M0 q (.bI t [(enc s0,.bl true)])):=Wg.new hq _;have oE:af M0 q (.bI t [(enc s0,.bl true)]) p=some (.lst ([(jN h,s0)].map (eO enc))):=by rw[ak ud];exact VZ
  have Yb:af M0 q (.bI t [(enc s0,.bl true)]) q=some (.bI t (jM enc ([(jN h,s0)].map λ e=>(e.2,.bl true)))):=ae;generalize af M0 q (.bI t [(enc s0,.bl true)])=M1 at*;have Yr:∀{told:List (Cs×α)},(jM enc (told.map λ e=>(e.2,D.bl true))).length=told.length:=λ{told}=>by simp[jM]
  have UA:∀{told:List (Cs×α)},(told.map λ e=>(e.2,D.bl true)).map (·.1)=told.map (·.2):=λ{told}=>by rw[D1];rfl
  have hS:∀{told:List (Cs×α)},NJ F s0 h told->∀e∈told,S e.2:=λ{told} hi e he=>by have:=hi.ent e he;rw[<- this.2];exact CM.iq e.1 0 s0 (by rw[this.1.1];omega) EF
  walk_at "rx";refine gz ⟨λ m' δ M'=>∃(v7 v8 v9:Option D) (told:List (Cs×α)) (d:Nat),δ=[some (.int h),some (enc s0),some (.ref f),some (Mh (some m)),some (.ref p),some (.ref q),some (.int d),v7,v8,v9]/\Ext M M'/\M' p=some (.lst (told.map (eO enc)))/\M' q=some (.bI t (jM enc (told.map λ e=>(e.2,.bl true))))/\rL F s0 h told d 0/\d<=told.length/\told.length<=m+h/\m'=m+h+1 - d,⟨_,none,none,none,_,0,rfl,YU,oE,Yb,rL.start F s0 h,by omega,by show 1<=_;omega,rfl⟩,?_⟩;rintro m' δ M' ⟨v7,v8,v9,told,d,rfl,hE,iJ,NQ,hB,Ic,hlen,rfl⟩;have fin:iQ F s0 h m told->∀(r:Addr),M' r=none->fin2 Q (.ref r) (af M' r (.lst ((told.take m).map (eO enc)))):=λ hf r hr=>ax (k r told _ (hE.free hr) ae hf (hE.new hr _));walk_at "rx";refine je (jd iJ ?_);rw[A8];walk_at "rx";refine bH (λ ig=>?_) (λ NX=>?_)
  ·refine yJ rfl rfl iJ (m:=m) (.inl rfl) ?_;rw[A8];refine bH (λ Qs=>?_) (λ hgm=>?_)
   ·obtain⟨⟨a,s⟩,hs⟩:∃e,told[d]?=some e:=⟨_,i7 (by omega)⟩;have Sj:f' (told.map (eO enc)) (d:Int)=some (.tup [tN a,enc s]):=bt (by rw[x3,hs];rfl);refine⟨λ δ' M'=>∃(v7 v8 v9:Option D) (told:List (Cs×α)),δ'=[some (.int h),some (enc s0),some (.ref f),some (Mh (some m)),some (.ref p),some (.ref q),some (.int ((d:Int)+1)),v7,v8,v9]/\Ext M M'/\M' p=some (.lst (told.map (eO enc)))/\M' q=some (.bI t (jM enc (told.map λ e=>(e.2,.bl true))))/\rL F s0 h told (d+1) 0/\d+1<=told.length/\told.length<=m+h,?_,?_⟩
    ·rintro δ' M2 ⟨v7,v8,v9,Oa,rfl,a1,a2,a3,a4,a5,a6⟩;exact⟨_,by omega,v7,v8,v9,Oa,d+1,rfl,a1,a2,a3,a4,a5,a6,rfl⟩
    ·walk_at "rx";refine bT (bV iJ Sj ?_);walk_at "rx";refine bT (bM (d:=tN a) rfl ?_);walk_at "rx";refine⟨fH (by omega) (by omega),?_⟩;rw[x4];refine iL (λ i δ M2=>∃(v8 v9:Option D) (told:List (Cs×α)),δ=[some (.int h),some (enc s0),some (.ref f),some (Mh (some m)),some (.ref p),some (.ref q),some (.int d),some (tN a),v8,v9]/\Ext M M2/\M2 p=some (.lst (told.map (eO enc)))/\M2 q=some (.bI t (jM enc (told.map λ e=>(e.2,.bl true))))/\rL F s0 h told d i/\told[d]?=some (a,s)/\told.length < m+i) ⟨v8,v9,told,rfl,hE,iJ,NQ,hB,hs,by omega⟩ (λ i y δ M2 hd2 Qx=>?_) (λ δ M2 Qx=>?_)
     ·clear iJ NQ hE hB hs Sj fin ig Qs hlen Ic;obtain⟨v8,v9,told,rfl,hE,iJ,NQ,hB,hs,hlen⟩:=Qx;obtain⟨hi,rfl⟩:=dF hd2;have Sj:f' (told.map (eO enc)) (d:Int)=some (.tup [tN a,enc s]):=bt (by rw[x3,hs];rfl);have YL:S s:=hS hB.gI _ (m8 hs);have Sk:a.length=h:=(hB.gI.ent _ (m8 hs)).1.1;have NY:M2 f=M2 f:=rfl;walk_at "rx";have MT:=CP UM hE;obtain⟨cl,jL,_⟩:=MT.ex;refine OC rfl ⟨L,cl,jL⟩ ?_;walk_at "rx";refine bT (bV iJ Sj ?_);walk_at "rx";refine bT (bM (d:=enc s) rfl ?_);walk_at "rx";refine⟨L,ps,fv,sp,cs,C,hL,MT,?_⟩;rw[C6];refine Yu M2 s i _ hE YL hi λ M3 YT=>?_;have UO:=Ext.xX MT.xX YT;have VY:=UO _ _ iJ;have Uq:=UO _ _ NQ;have Wf:=hE.trans UO;generalize iy M3 C=M4 at*;walk_at "rx";refine jV Uq (Ds _) ?_;by_cases oG:F i s∈told.map (·.2)
      ·rw[show(!(cj (jM enc (told.map λ e=>(e.2,D.bl true))) (enc (F i s))).isSome)=false by
        obtain⟨e,he,ee⟩:=C9.mp oG;rw[<- ee,jZ (x:=e.2) (d:=.bl true) inj (by rw[UA];exact hB.gI.nd) (C9.mpr ⟨e,he,rfl⟩)];rfl]
       walk_at "rx";exact⟨_,_,told,rfl,Wf,VY,Uq,hB.old CM EF hi hs oG,hs,by omega⟩
      ·rw[show(!(cj (jM enc (told.map λ e=>(e.2,D.bl true))) (enc (F i s))).isSome)=true by
        rw[ia inj (by rw[UA];exact oG)];rfl]
       walk_at "rx";refine qy Uq (Ds _) (by rw[Yr];exact u0 (show told.length<=1000 by omega) (by decide)) ?_;rw[qE inj _ (by rw[UA];exact oG)];have Sb:af M4 q (.bI t (jM enc (told.map (λ e=>(e.2,D.bl true))++[(F i s,.bl true)]))) p=some (.lst (told.map (eO enc))):=by rw[ak ud];exact VY
       have Ya:af M4 q (.bI t (jM enc (told.map (λ e=>(e.2,D.bl true))++[(F i s,.bl true)]))) q=some (.bI t (jM enc ((told++[(inc a i,F i s)]).map λ e=>(e.2,.bl true)))):=by rw[ae,B0];rfl
       have YS:Ext M (af M4 q (.bI t (jM enc (told.map (λ e=>(e.2,D.bl true))++[(F i s,.bl true)])))):=Wf.own Sa;generalize af M4 q (.bI t (jM enc (told.map (λ e=>(e.2,D.bl true))++[(F i s,.bl true)])))=M5 at*;walk_at "rx";refine⟨⟨rfl,_,Sb⟩,?_⟩;walk_at "rx";refine⟨a,i,rfl,by omega,by omega,?_⟩;walk_at "rx";refine fz Sb (by rw[A8];exact u0 (show told.length<=1000 by omega) (by decide)) ?_;refine⟨_,_,told++[(inc a i,F i s)],rfl,YS.own hp,?_,?_,hB.new CM EF hi hs oG,?_,by rw[r6,l0];omega⟩
       ·rw[ae,B0];rfl
       ·rw[ak (H9 ud)];exact Ya
       ·rw[h8 (i4.mp hs).1];exact hs
     ·obtain⟨v8,v9,told,rfl,hE,iJ,NQ,hB,hs,hlen⟩:=Qx;rw[bN]at hB hlen;have:=(i4.mp hs).1;walk_at "rx";exact⟨1,rfl,_,_,_,told,rfl,hE,iJ,NQ,hB.turn,by omega,by omega⟩
   ·with_reducible refine uK ?_
    refine pH rfl rfl iJ (m:=m) (.inl rfl) λ r hr=>?_;rw[<- map_take];exact fin ⟨hB.gI,.inl (by omega)⟩ r hr
  ·with_reducible refine wM ?_
   with_reducible refine uK ?_
   refine pH rfl rfl iJ (m:=m) (.inl rfl) λ r hr=>?_;rw[<- map_take];exact fin ⟨hB.gI,.inr λ x hx=>hB.all CM EF (by omega) _ x (Nat.lt_succ_self _) hx⟩ r hr
end
def rY:gc:=λ ds M Q=>∃(m h:Nat) (rows:List Row) (x i n:Nat),ds=[.tup (rows.map row),.int x,.int i,.int n]/\Tb m h rows/\x < m/\i < h/\∀M',Ext M M'->Q (.int (jK (a_ rows i) n x:Nat)) M'
def Jd:gc:=λ ds M Q=>∃(m h:Nat) (rows:List Row) (ls cs:Row),ds=[fu rows ls,row cs]/\Tb m h rows/\cs.length=h/\(∀x∈cs,0<=x)/\∀M',Ext M M'->Q (.int (EA rows 0 0 cs:Nat)) M'
theorem mQ{m h:Nat}{rows:List Row}(G:Tb m h rows){x i:Nat}(hx:x < m)(hi:i < h):f' ((rows.getD x []).map D.int) (i:Int)=some (nD (a_ rows i x)):=by obtain⟨e1,e2,e3⟩:=G.at hx hi;refine bt ?_;rw[x3,i7 (by omega)];rw[c6 (l:=rows.getD x []),i7 (by omega)]at e2;exact G8 (λ z=>some (D.int z)) e2
theorem tx{cs:Row}{i:Nat}{d:D}(h:(e_ (cs.map D.int))[i]?=some d):i < cs.length/\cs[i]?=some (cs.getD i 0)/\cs.take (i+1)=cs.take i++[cs.getD i 0]/\d=.tup [.int (i:Int),.int (cs.getD i 0)]:=by
 obtain⟨hi,e⟩:=xI h;rw[A8]at hi;have e1:cs[i]?=some (cs.getD i 0):=by rw[c6,i7 hi];rfl
 refine⟨hi,e1,by rw[take_add_one,e1];rfl,?_⟩;rw[e,c6,x3,e1];rfl
def rM(f:Nat->Nat)(x k:Nat):List Nat:=(List.range k).map λ j=>jK f j x
theorem uP{f:Nat->Nat}{x k j:Nat}(h:j < k):(rM f x k)[j]?=some (jK f j x):=by unfold rM;rw[x3,getElem?_range h];rfl
theorem jh(f:Nat->Nat)(x k:Nat):(rM f x k).length=k:=by simp[rM]
theorem sM(f:Nat->Nat)(x k:Nat):rM f x (k+1)=rM f x k++[jK f k x]:=by unfold rM;rw[range_succ,B0];rfl
section
variable {P:Program}{w:World}{K:J8}{mg:Str->Option Value}{base:Heap}
theorem Hv{f:Addr}{fd:FuncData}(F:fg K "gone_by" "gone_by" (top 11) f fd)(T:iE K mg):aX P w K mg base di 1 f fd ["steps","thing","heap","many"] (cw K rY):=by
 refine oC F ["steps","thing","heap","many","path","start"] (λ bQ A outer s H E ds M Q nd hr h=>?_)
 ·obtain⟨m,h,rows,x,i,n,rfl,G,hx,hi,k⟩:=h;have hm:=G.dY;refine⟨_,(aa (aE 4 (cC bg))
 (aa (gf (aQ (ng hr.units) (ao 1) (ao 4))
 (aa (cX (mB i9 i6 i8 cI (ao 4) (bS (ao 1))))
 (ai (aE 1 (aO aM (aO aM (ao 0) (ao 1)) (ao 2))))))
 (aa (cG (aQ Cv (ao 3) (bo dW T.len (bS (ao 4))))
 (ai (aJ (aO aM (ao 4) (ao 3))))
 bA)
 (aa (aE 5 (mB i9 PySem.F.slot_list_index PySem.F.type_list_index (xk hr.units) (ao 4) (bS (ao 1))))
 (ai (aJ (aO aM (ao 4) (bq bw (ao 5) (bq gC (bq Jq (ao 3) (ao 5)) (bq Jq (bo dW T.len (bS (ao 4))) (ao 5))))))))))),?_⟩
  walk_at "rx";intro p hp;have E1:Ext M (af M p (.lst [])):=Ext.new Ext.rfl hp _;have h1:af M p (.lst []) p=some (.lst ((rM (a_ rows i) x 0).map nD)):=ae;generalize af M p (.lst [])=M1 at*;walk_at "rx";have fl:=vj (G.gi hi);refine gz ⟨λ me δ M'=>∃j:Nat,δ=[some (.tup (rows.map row)),some (.int (jK (a_ rows i) j x:Nat)),some (.int i),some (.int n),some (.ref p),none]/\M' p=some (.lst ((rM (a_ rows i) x j).map nD))/\(rM (a_ rows i) x j).Nodup/\Ext M M'/\me=m+1 - j,⟨_,0,rfl,h1,nodup_nil,E1,rfl⟩,?_⟩;clear E1 h1 M1;rintro me δ M1 ⟨j,rfl,h1,HA,E1,rfl⟩;have jm:j<=m:=by
   have:=List.Nodup.length_le_of_subset HA (l₂:=List.range m) λ y hy=>by obtain⟨a,_,rfl⟩:=C9.mp hy;exact mem_range.mpr (fl a x hx)
   rwa [jh,y0]at this
  walk_at "rx";refine mT (k:=0) (b:=decide (jK (a_ rows i) j x∈rM (a_ rows i) x j)) (ds:=(rM (a_ rows i) x j).map nD) (dR h1) (dg.pl _) (jX λ x _=>dg.pl x) (by decide) (by rw[decide_eq_true_iff];exact(qL dg.inj _).symm) ?_;refine lO (λ hn=>?_) (λ hn=>?_)
  ·have hn:jK (a_ rows i) j x∉rM (a_ rows i) x j:=by simpa using hn
   have Xn:(rM (a_ rows i) x (j+1)).Nodup:=by rw[sM];exact nodup_append.mpr ⟨HA,by simp,λ a ha b hb z=>hn (by rw[<- u4.mp hb,<- z];exact ha)⟩
   refine⟨λ δ' M'=>δ'=[some (.tup (rows.map row)),some (.int (jK (a_ rows i) (j+1) x:Nat)),some (.int i),some (.int n),some (.ref p),none]/\M' p=some (.lst ((rM (a_ rows i) x (j+1)).map nD))/\Ext M M',?_,?_⟩
   ·rintro δ' M' ⟨rfl,a1,a2⟩;exact⟨_,by omega,j+1,rfl,a1,Xn,a2,rfl⟩
   obtain⟨r1,r2,r3⟩:=iH G (fl j x hx);walk_at "rx";refine⟨⟨rfl,_,h1⟩,?_⟩;walk_at "rx";refine fz h1 (by rw[A8,jh];exact u0 (show j<=300 by omega) (by decide)) ?_;walk_at "rx";refine bM r1 ?_;walk_at "rx";refine bM (mQ G (fl j x hx) hi) ?_;walk_at "rx";refine⟨?_,by rw[ae,sM,B0];rfl,E1.own hp⟩;rw[CY];rfl
  ·have hn:jK (a_ rows i) j x∈rM (a_ rows i) x j:=by simpa using hn
   walk_at "rx";rw[A8,jh];refine bH (λ ig=>?_) (λ NX=>?_)
   ·walk_at "rx";refine bV h1 (bt (by rw[x3,uP (by omega)];rfl)) ?_;exact ax (k _ E1)
   ·have ha:=Dl hn;have la:=(i4.mp ha).1;rw[jh]at la;walk_at "rx";refine⟨⟨rfl,_,h1⟩,?_⟩;walk_at "rx";refine sA nD dg.inj h1 hn dg.pl (by decide) ?_;generalize(rM (a_ rows i) x j).idxOf (jK (a_ rows i) j x)=a at*;rw[uP la]at ha;have er:=zo la (A6 ha).symm (n:=n) (by omega);walk_at "rx";rw[A8,jh];have em:((n:Int) - (a:Int)) % ((j:Int) - (a:Int))=(((n - a) % (j - a):Nat):Int):=by rw[show(n:Int) - (a:Int)=((n - a:Nat):Int) by omega,show(j:Int) - (a:Int)=((j - a:Nat):Int) by omega];exact(Int.natCast_emod _ _).symm
    have lb:=Nat.mod_lt (n - a) (show 0 < j - a by omega);generalize hb:(n - a) % (j - a)=b at*;refine qA (by omega) ?_;rw[em];walk_at "rx";refine bV h1 (d:=nD (jK (a_ rows i) (a+b) x)) ?_ ?_
    ·have:=bt (xs:=(rM (a_ rows i) x j).map nD) (j:=a+b) (v:=nD (jK (a_ rows i) (a+b) x)) (by rw[x3,uP (by omega)];rfl)
     rwa [show((a+b:Nat):Int)=(a:Int)+(b:Int) by omega]at this
    ·rw[er];exact ax (k _ E1)
theorem LZ{f:Addr}{fd:FuncData}(F:fg K "thing_of" "thing_of" (top 12) f fd)(T:iE K mg)(zC:cR P w K mg base 1 "gone_by" ["steps","thing","heap","many"] rY):aX P w K mg base di 2 f fd ["table","counts"] (cw K Jd):=by
 refine oC F ["table","counts","thing","heap","many"] (λ bQ A outer s H E ds M Q nd hr h=>?_)
 ·obtain⟨m,h,rows,ls,cs,rfl,G,hc,hp,k⟩:=h;have vw:fu rows ls=.tup [.tup (rows.map row),row ls]:=rfl;rw[vw];have hh:=G.DM;refine⟨_,(aa (aE 2 ag)
 (aa (fj (qp T.enumerate (bS (ao 1))) (jO (n:=2) (bB (bj 3) (bB (bj 4) gX)))
 (ai (aE 2 (bC zC (aA (aO aM (ao 0) ag) (aA (ao 2) (aA (ao 3) (aA (ao 4) bg))))))))
 (ai (aJ (ao 2))))),?_⟩
  walk_at "rx";refine iL (λ i δ M'=>∃(v3 v4:Option D),δ=[some (.tup [.tup (rows.map row),row ls]),some (row cs),some (.int (EA rows 0 0 (cs.take i):Nat)),v3,v4]/\Ext M M') ⟨none,none,rfl,Ext.rfl⟩ (λ i d δ M' hd h=>?_) (λ δ M' h=>?_)
  ·obtain⟨v3,v4,rfl,E1⟩:=h;obtain⟨hi,e,ex,rfl⟩:=tx hd;have hx:=hp _ (m8 e);obtain⟨n,en⟩:∃n:Nat,cs.getD i 0=(n:Int):=⟨(cs.getD i 0).toNat,by omega⟩;rw[en];walk_at "rx";refine⟨m,h,rows,_,i,n,rfl,G,AM G _ 0 0 (by rw[z7];omega) G.pos,by omega,λ M2 E2=>?_⟩;walk_at "rx";have et:EA rows 0 0 (cs.take (i+1))=jK (a_ rows i) n (EA rows 0 0 (cs.take i)):=by rw[ex,en,rT,z7,Nat.min_eq_left (D7 hi),D4];rfl
   rw[et];exact⟨_,_,rfl,E1.trans E2⟩
  ·obtain⟨v3,v4,rfl,E1⟩:=h;rw[dM,A8,z4];walk_at "rx";exact ax (k _ E1)
end
abbrev nE(kv:List (Nat×Nat)):List (D×D):=jM nD (kv.map λ e=>(e.1,nD e.2))
theorem HQ(kv:List (Nat×Nat)):(nE kv).length=kv.length:=by simp[jM]
theorem vh(kv:List (Nat×Nat)):(kv.map λ e=>(e.1,nD e.2)).map (·.1)=kv.map (·.1):=by rw[D1];rfl
theorem vg{kv:List (Nat×Nat)}{y v:Nat}(HA:(kv.map (·.1)).Nodup)(h:(y,v)∈kv):cj (nE kv) (nD y)=some (nD v):=jZ dg.inj (by rw[vh];exact HA) (C9.mpr ⟨_,h,rfl⟩)
theorem PV{kv:List (Nat×Nat)}{y:Nat}(h:y∉kv.map (·.1)):cj (nE kv) (nD y)=none:=ia dg.inj (by rw[vh];exact h)
theorem Mn{kv:List (Nat×Nat)}{y v:Nat}(h:y∉kv.map (·.1)):putD (nE kv) (nD y) (nD v)=nE (kv++[(y,v)]):=by unfold nE;rw[qE dg.inj _ (by rw[vh];exact h),B0];rfl
def Bb:gc:=λ ds M Q=>∃(m h m2 x:Nat) (r q:List Row),ds=[.tup (r.map row),.tup (q.map row),.int x]/\lD m h r/\Tb m2 h q/\x < m2/\∀(p:Addr) (kv:List (Nat×Nat)) (M':Mem),M p=none->M' p=some (.bI false (nE kv))->SJ m r q h x kv->Ext M M'->Q (.ref p) M'
def wx:gc:=λ ds M Q=>∃(m h x:Nat) (r:List Row),ds=[.tup (r.map row),.int x]/\lD m h r/\x < m/\∀(p:Addr) (kv:List (Nat×Nat)) (M':Mem),M p=none->M' p=some (.bI false (nE kv))->SJ m r r h x kv->Ext M M'->Q (.ref p) M'
section
variable {P:Program}{w:World}{K:J8}{mg:Str->Option Value}{base:Heap}
theorem Hx{f:Addr}{fd:FuncData}(F:fg K "carried" "carried" (top 13) f fd)(T:iE K mg):aX P w K mg base di 1 f fd ["steps","others","start"] (cw K Bb):=by
 refine oC F ["steps","others","start","told","waiting","thing","heap","later"] (λ bQ A outer s H E ds M Q nd hr h=>?_)
 ·obtain⟨m,h,m2,x,r,q,rfl,G,T2,hx,k⟩:=h;have hm:=G.tb.dY;have hh:=G.tb.DM;refine⟨_,(aa (aE 3 (wm hr.units ag (ao 2)))
 (aa (aE 4 (cC (bS ag)))
 (aa (gf (aQ (pL hr.units) (ao 4) (cC bg))
 (aa (aE 5 (IY i9 PySem.F.slot_list_pop PySem.F.type_list_pop Js (ao 4)))
 (ai (fj (qp T.enumerate (bS (aO (dj hr.units) (ao 0) (ao 5)))) (jO (n:=2) (bB (bj 6) (bB (bj 7) gX)))
 (ai (cG (aQ (m_ hr.units) (ao 7) (ao 3))
 (aa (df (aO (dj hr.units) (aO (dj hr.units) (ao 1) (aO (dj hr.units) (ao 3) (ao 5))) (ao 6)) (fk (ao 3) (ao 7) (uE hr.units)))
 (ai (cX (mB i9 i6 i8 cI (ao 4) (bS (ao 7))))))
 bA))))))
 (ai (aJ (ao 3)))))),?_⟩
  walk_at "rx";refine sE false λ p hp=>?_;walk_at "rx";refine⟨ae,nG 0,?_⟩;rw[cD];have E1:Ext M (af M p (.bI false [(.int 0,.int x)])):=Ext.new Ext.rfl hp _;have h1:af M p (.bI false [(.int 0,.int x)]) p=some (.bI false (nE [(0,x)])):=ae;generalize af M p (.bI false [(.int 0,.int x)])=M1 at*;walk_at "rx";intro w hw;have VS:=E1.free hw;have pw:p≠w:=aZ h1 hw;have E2:=E1.new hw (.lst [.int 0]);have h2:af M1 w (.lst [.int 0]) p=some (.bI false (nE [(0,x)])):=by rw[ak pw];exact h1
  have w2:af M1 w (.lst [.int 0]) w=some (.lst ([0].map nD)):=ae;generalize af M1 w (.lst [.int 0])=M2 at*;clear E1 h1 M1 hw;walk_at "rx";refine gz ⟨λ me δ M'=>∃(v5 v6 v7:Option D) (kv:List (Nat×Nat)) (ws:List Nat),δ=[some (.tup (r.map row)),some (.tup (q.map row)),some (.int x),some (.ref p),some (.ref w),v5,v6,v7]/\M' p=some (.bI false (nE kv))/\M' w=some (.lst (ws.map nD))/\yf r q h x kv ws/\Ext M M'/\ws.length<=kv.length/\me=2*(m - kv.length)+ws.length,⟨_,none,none,none,[(0,x)],[0],rfl,h2,w2,yf.start r q h x,E2,D8 _,rfl⟩,?_⟩;clear h2 w2 E2 M2;rintro me δ M1 ⟨v5,v6,v7,kv,ws,rfl,h1,w1,C,E1,lw,rfl⟩;have kf:=C.dY G T2 hx;walk_at "rx";intro e he;refine wK (k:=0) (b:=decide (ws=[])) (by rw[ak (aZ w1 he)];exact w1) ae (jX λ x _=>fB 0 _) (λ e he=>by cases he) (by decide) (Mf (by rw[decide_eq_true_iff])) ?_;have h1:af M1 e (.lst []) p=some (.bI false (nE kv)):=by rw[ak (aZ h1 he)];exact h1
  have w1:af M1 e (.lst []) w=some (.lst (ws.map nD)):=by rw[ak (aZ w1 he)];exact w1
  have E1:=E1.new he (.lst []);generalize af M1 e (.lst [])=M2 at*;refine lO (λ hn=>?_) (λ hn=>?_)
  ·have hn:ws≠[]:=by simpa using hn
   obtain⟨Az,y,rfl⟩:∃Az y,ws=Az++[y]:=⟨_,_,(dropLast_concat_getLast hn).symm⟩;obtain⟨v,CI⟩:=C.pop;have hy:=BW G T2 hx (C.pr _ CI.at');refine⟨λ δ' M'=>∃(v5 v6 v7:Option D) (kR:List (Nat×Nat)) (ua:List Nat),δ'=[some (.tup (r.map row)),some (.tup (q.map row)),some (.int x),some (.ref p),some (.ref w),v5,v6,v7]/\M' p=some (.bI false (nE kR))/\M' w=some (.lst (ua.map nD))/\yf r q h x kR ua/\Ext M M'/\kv.length+ua.length=kR.length+Az.length/\kv.length<=kR.length,?_,?_⟩
   ·rintro δ' M' ⟨v5,v6,v7,kR,ua,rfl,a1,a2,a3,a4,a5,a6⟩;have:=a3.dY G T2 hx;rw[r6,l0]at lw;exact⟨_,by rw[r6,l0];omega,v5,v6,v7,kR,ua,rfl,a1,a2,a3,a4,by omega,rfl⟩
   walk_at "rx";refine⟨⟨rfl,_,w1⟩,?_⟩;walk_at "rx";refine Bw (ds:=Az.map nD) (y:=nD y) (by rw[w1,B0];rfl) ?_;have h1:af M2 w (.lst (Az.map nD)) p=some (.bI false (nE kv)):=by rw[ak pw];exact h1
   have w1:af M2 w (.lst (Az.map nD)) w=some (.lst (Az.map nD)):=ae;have E1:Ext M (af M2 w (.lst (Az.map nD))):=E1.own VS;generalize af M2 w (.lst (Az.map nD))=M3 at*;obtain⟨r1,r2,r3⟩:=iH G.tb hy.1;obtain⟨q1,q2,q3⟩:=iH T2 hy.2;walk_at "rx";refine bT (bM r1 ?_);walk_at "rx";refine iL (λ i δ M'=>∃(v6 v7:Option D) (kR:List (Nat×Nat)) (ua:List Nat),δ=[some (.tup (r.map row)),some (.tup (q.map row)),some (.int x),some (.ref p),some (.ref w),some (nD y),v6,v7]/\M' p=some (.bI false (nE kR))/\M' w=some (.lst (ua.map nD))/\oX r q h x kR ua y v i/\Ext M M'/\kv.length+ua.length=kR.length+Az.length/\kv.length<=kR.length/\kR.length<=m) ⟨v6,v7,kv,Az,rfl,h1,w1,CI,E1,rfl,D8 _,kf⟩ (λ i d δ M' hd hI=>?_) (λ δ M' hI=>?_)
   ·clear h1 w1 CI E1;obtain⟨v6,v7,kR,ua,rfl,h1,w1,CI,E1,l1,l2,l3⟩:=hI;obtain⟨hi,e1,_,rfl⟩:=tx hd;rw[r2]at hi;have ex:(r.getD y []).getD i 0=(a_ r i y:Int):=(G.tb.at hy.1 hi).2.1;rw[ex];have ez:D.int (a_ r i y:Int)=nD (a_ r i y):=rfl;rw[ez];walk_at "rx";refine jV h1 (nG _) ?_;by_cases oG:a_ r i y∈kR.map (·.1)
    ·obtain⟨en,he,ee⟩:=C9.mp oG;rw[show(!(cj (nE kR) (nD (a_ r i y))).isSome)=false by rw[<- ee,vg CI.nd (v:=en.2) he];rfl];walk_at "rx";exact⟨_,_,kR,ua,rfl,h1,w1,CI.old oG,E1,l1,l2,l3⟩
    ·rw[show(!(cj (nE kR) (nD (a_ r i y))).isSome)=true by rw[PV oG];rfl];walk_at "rx";refine BA h1 (nG _) (vg CI.nd CI.at') ?_;walk_at "rx";refine bT (bM q1 ?_);walk_at "rx";refine bT (bM (d:=nD (a_ q i v)) ?_ ?_)
     ·exact(JX T2 hy.2 hi).2
     walk_at "rx";refine qy h1 (nG _) (by rw[HQ];exact u0 (show kR.length<=300 by omega) (by decide)) ?_;rw[Mn oG];have w2:af M' p (.bI false (nE (kR++[(a_ r i y,a_ q i v)]))) w=some (.lst (ua.map nD)):=by rw[ak (H9 pw)];exact w1
     have h2:af M' p (.bI false (nE (kR++[(a_ r i y,a_ q i v)]))) p=some (.bI false (nE (kR++[(a_ r i y,a_ q i v)]))):=ae;have E2:Ext M (af M' p (.bI false (nE (kR++[(a_ r i y,a_ q i v)])))):=E1.own hp;generalize af M' p (.bI false (nE (kR++[(a_ r i y,a_ q i v)])))=M4 at*;have CN:=CI.new hi oG;have nf:=CN.nd;have l4:(kR++[(a_ r i y,a_ q i v)]).length<=m:=by
      have:=List.Nodup.length_le_of_subset nf (l₂:=List.range m) λ z hz=>by obtain⟨e,he,rfl⟩:=C9.mp hz;exact mem_range.mpr (BW G T2 hx (CN.pr e he)).1
      rwa [A8,y0]at this
     walk_at "rx";refine⟨⟨rfl,_,w2⟩,?_⟩;walk_at "rx";refine fz w2 (by rw[A8];exact u0 (show ua.length<=700 by rw[r6,l0]at lw;omega) (by decide)) ?_;refine⟨_,_,_,ua++[a_ r i y],rfl,by rw[ak pw];exact h2,by rw[ae,B0];rfl,CN,E2.own VS,?_,?_,l4⟩
     ·rw[r6,r6,l0,l0];omega
     ·rw[r6];omega
   ·obtain⟨v6,v7,kR,ua,rfl,h1,w1,CI,E1,l1,l2,l3⟩:=hI;rw[dM,A8,r2]at CI;exact⟨_,_,_,kR,ua,rfl,h1,w1,CI.done,E1,l1,l2⟩
  ·have hn:ws=[]:=by simpa using hn
   subst hn;walk_at "rx";exact ax (k p kv _ hp h1 (C.ZE G T2 hx) E1)
theorem Cp{f:Addr}{fd:FuncData}(F:fg K "put_to" "put_to" (top 14) f fd)(T:iE K mg)(zE:cR P w K mg base 1 "carried" ["steps","others","start"] Bb):aX P w K mg base di 2 f fd ["steps","x"] (cw K wx):=by
 refine oC F ["steps","x"] (λ bQ A outer s H E ds M Q nd hr h=>?_)
 ·obtain⟨m,h,x,r,rfl,G,hx,k⟩:=h;refine⟨_,(ai (aJ (bC zE (yu (ao 0) (ao 0) (ao 1))))),?_⟩;walk_at "rx";refine⟨m,h,m,x,r,r,rfl,G,G.tb,hx,λ p kv M' hp h1 C E1=>?_⟩;exact ax (k p kv M' hp h1 C E1)
end
def LL(M:Mem)(p:Addr)(zs:List (Addr×List Nat)):Prop:=M p=some (.lst (zs.map λ e=>.ref e.1))/\∀e∈zs,M e.1=some (.lst (e.2.map nD))
def NI(M:Mem)(p:Addr)(ws:List (Addr×List (Addr×List Nat))):Prop:=M p=some (.lst (ws.map λ e=>.ref e.1))/\∀e∈ws,LL M e.1 e.2
theorem LL.ext {M M':Mem}{p:Addr}{zs:List (Addr×List Nat)}(h:LL M p zs)(e:Ext M M'):LL M' p zs:=⟨e _ _ h.1,λ x hx=>e _ _ (h.2 x hx)⟩
theorem NI.ext {M M':Mem}{p:Addr}{ws:List (Addr×List (Addr×List Nat))}(h:NI M p ws)(e:Ext M M'):NI M' p ws:=⟨e _ _ h.1,λ x hx=>(h.2 x hx).ext e⟩
abbrev Gs:=List (Str×Nat)
def oJ(gs:Gs):D:=.tup (gs.map λ e=>.tup [.str e.1,.tup (List.replicate e.2 (row (List.replicate gs.length 0)))])
theorem wo(rows:List Row):∀(n i x:Nat),EA rows i x (List.replicate n 0)=x
 |0,_,_=>rfl
 |n+1,i,x=>wo rows n (i+1) x
theorem Bt{α:Type}{n i:Nat}{a b:α}(h:(List.replicate n a)[i]?=some b):i < n/\b=a:=by
 rw[j0]at h;split at h
 ·exact⟨by assumption,(A6 h).symm⟩
 ·cases h
def AY:gc:=λ ds M Q=>∃(m:Nat) (rows:List Row) (ls:Row) (gs:Gs),ds=[oJ gs,fu rows ls]/\Tb m gs.length rows/\(∀e∈gs,e.2<=1)/\∀(p:Addr) (zs:List (Addr×List Nat)) (M':Mem),M p=none->LL M' p zs->zs.map (·.2)=gs.map (λ e=>List.replicate e.2 0)->Ext M M'->Q (.ref p) M'
def AW:gc:=λ ds M Q=>∃(m h x:Nat) (r:List Row) (b t:Addr) (kv:List (Nat×Nat)) (n:Nat),ds=[.ref b,.ref t]/\M b=some (.bI false (nE kv))/\SJ m r r h x kv/\M t=some (.lst ((List.replicate n 0).map nD))/\n<=1/\∀(p:Addr),M p=none->Q (.ref p) (af M p (.lst ((List.replicate n x).map nD)))
def MV(gs:Gs)(x:Nat):List (List Nat):=gs.map λ e=>List.replicate e.2 x
def AV:gc:=λ ds M Q=>∃(m:Nat) (rows:List Row) (ls:Row) (gs:Gs),ds=[oJ gs,fu rows ls]/\lD m gs.length rows/\(∀e∈gs,e.2<=1)/\∀(p:Addr) (ws:List (Addr×List (Addr×List Nat))) (M':Mem),M p=none->NI M' p ws->ws.map (λ e=>e.2.map (·.2))=(List.range m).map (MV gs)->Ext M M'->Q (.ref p) M'
section
variable {P:Program}{w:World}{K:J8}{mg:Str->Option Value}{base:Heap}
theorem Hr{f:Addr}{fd:FuncData}(F:fg K "option_things" "option_things" (top 17) f fd)(T:iE K mg)(vE:cR P w K mg base 2 "thing_of" ["table","counts"] Jd):aX P w K mg base di 3 f fd ["game","table"] (cw K AY):=by
 refine oC F ["game","table","told","heap"] (λ bQ A outer s H E ds M Q nd hr h=>?_)
 ·obtain⟨m,rows,ls,gs,rfl,T,h1,k⟩:=h;have hg:=T.DM;refine⟨_,(aa (aE 2 (cC bg))
 (aa (fj (dO (ao 0)) (bj 3)
 (ai (cX (mB i9 i6 i8 cI (ao 2) (bS (iF (yr [1] (dO (aO aM (ao 3) ag)) cp (bC vE (eT (ao 1) (ao 0))))))))))
 (ai (aJ (ao 2))))),?_⟩
  unfold oJ;walk_at "rx";intro p hp;have E0:Ext M (af M p (.lst [])):=Ext.new Ext.rfl hp _;have p0:af M p (.lst []) p=some (.lst (([]:List (Addr×List Nat)).map λ e=>.ref e.1)):=ae;generalize af M p (.lst [])=M0 at*;walk_at "rx";refine iL (λ i δ M'=>∃(v3:Option D) (zs:List (Addr×List Nat)),δ=[some (.tup (gs.map λ e=>.tup [.str e.1,.tup (List.replicate e.2 (row (List.replicate gs.length 0)))])),some (fu rows ls),some (.ref p),v3]/\M' p=some (.lst (zs.map λ e=>.ref e.1))/\(∀e∈zs,e.1≠p/\M' e.1=some (.lst (e.2.map nD)))/\zs.map (·.2)=(gs.take i).map (λ e=>List.replicate e.2 0)/\zs.length=i/\Ext M M') ⟨none,[],rfl,p0,λ e he=>(by cases he),rfl,rfl,E0⟩ (λ i d δ M1 hd h=>?_) (λ δ M1 h=>?_)
  ·clear E0 p0 M0;obtain⟨v3,zs,rfl,oE,hz,ez,lz,E1⟩:=h;rw[x3]at hd;obtain⟨g,QC,rfl⟩:=Option.map_eq_some_iff.mp hd;have g1:=h1 g (m8 QC);have hi:i < gs.length:=(i4.mp QC).1;walk_at "rx";refine⟨⟨rfl,_,oE⟩,?_⟩;walk_at "rx";refine fL (λ j acc M2=>acc=(List.replicate j 0).map nD/\Ext M1 M2) ⟨rfl,Ext.rfl⟩ (λ j acc M2 hj h=>?_) (λ j d acc M2 hd h=>?_) (λ acc M2 h=>?_)
   ·rw[h.1,A8,l8];rw[l8]at hj;exact small (by omega)
   ·obtain⟨rfl,E2⟩:=h;obtain⟨hj,rfl⟩:=Bt hd;walk_at "rx";refine⟨m,gs.length,rows,ls,List.replicate gs.length 0,rfl,T,by simp,λ x hx=>by rw[eq_of_mem_replicate hx];decide,λ M3 E3=>?_⟩;rw[wo];exact⟨by rw[replicate_succ',B0];rfl,E2.trans E3⟩
   ·obtain⟨rfl,E2⟩:=h;rw[l8];intro q hq;have E3:=E2.new hq (.lst ((List.replicate g.2 0).map nD));have q3:af M2 q (.lst ((List.replicate g.2 0).map nD)) q=some (.lst ((List.replicate g.2 0).map nD)):=ae;have qM:M1 q=none:=E2.free hq;generalize af M2 q (.lst ((List.replicate g.2 0).map nD))=M3 at*;have MD:q≠p:=(aZ oE qM).symm;walk_at "rx";refine fz (E3 _ _ oE) (by rw[A8,lz];exact u0 (show i<=12 by omega) (by decide)) ?_;refine⟨_,zs++[(q,List.replicate g.2 0)],rfl,by rw[ae,B0];rfl,λ e he=>?_,?_,by rw[r6,lz];rfl,(E1.trans E3).own hp⟩
    ·rcases A9.mp he with he|he
     ·exact⟨(hz e he).1,by rw[ak (hz e he).1];exact E3 _ _ (hz e he).2⟩
     ·rw[u4.mp he];exact⟨MD,by rw[ak MD];exact q3⟩
    ·rw[B0,ez,take_add_one,QC,B0];rfl
  ·obtain⟨v3,zs,rfl,oE,hz,ez,lz,E1⟩:=h;rw[A8,z4]at ez;walk_at "rx";exact ax (k p zs _ hp ⟨oE,λ e he=>(hz e he).2⟩ ez E1)
theorem Hn{f:Addr}{fd:FuncData}(F:fg K "put_each" "put_each" (top 18) f fd)(T:iE K mg):aX P w K mg base di 1 f fd ["beside","things"] (cw K AW):=by
 refine oC F ["beside","things"] (λ bQ A outer s H E ds M Q nd hr h=>?_)
 ·obtain⟨m,h,x,r,b,t,kv,n,rfl,hb,C,ht,hn,k⟩:=h;refine⟨_,(ai (aJ (iF (yr [0] (dO (ao 1)) cp (aO (dj hr.units) (ao 1) (ao 0)))))),?_⟩;walk_at "rx";refine Eb (a:=t) (ds:=(List.replicate n 0).map nD) (λ j acc M2=>acc=(List.replicate j x).map nD/\M2=M) ⟨rfl,rfl⟩ (λ j acc M2 hj h=>?_) (λ j acc M2 hj h=>?_) (λ j d acc M2 hd h=>?_) (λ acc M2 h=>?_)
  ·rw[h.2];exact ht
  ·rw[h.1,A8,l8];rw[A8,l8]at hj;exact small (by omega)
  ·obtain⟨rfl,rfl⟩:=h;rw[x3]at hd;obtain⟨y,hy,rfl⟩:=Option.map_eq_some_iff.mp hd;obtain⟨_,rfl⟩:=Bt hy;walk_at "rx";refine BA hb (nG _) (vg C.nd C.iS) ?_;exact⟨by rw[replicate_succ',B0];rfl,rfl⟩
  ·obtain⟨rfl,rfl⟩:=h;rw[A8,l8];intro p hp;walk_at "rx";exact ax (k p hp)
theorem Hm{f:Addr}{fd:FuncData}(F:fg K "put_options" "put_options" (top 19) f fd)(T:iE K mg)(lx:cR P w K mg base 3 "option_things" ["game","table"] AY)(DY:cR P w K mg base 2 "put_to" ["steps","x"] wx)(vF:cR P w K mg base 1 "put_each" ["beside","things"] AW):aX P w K mg base di 4 f fd ["game","table"] (cw K AV):=by
 refine oC F ["game","table","things","told","x","beside"] (λ bQ A outer s H E ds M Q nd hr h=>?_)
 ·obtain⟨m,rows,ls,gs,rfl,G,h1,k⟩:=h;have hg:=G.tb.DM;have hm:=G.tb.dY;have X9:=G.tb.len;have vw:fu rows ls=.tup [.tup (rows.map row),row ls]:=rfl;refine⟨_,(aa (aE 2 (bC lx (eT (ao 0) (ao 1))))
 (aa (aE 3 (cC bg))
 (aa (fj (b_ T.range (bS (bo dW T.len (bS (aO aM (ao 1) ag))))) (bj 4)
 (aa (aE 5 (bC DY (eT (aO aM (ao 1) ag) (ao 4))))
 (ai (cX (mB i9 i6 i8 cI (ao 3) (bS (iF (yr [5] (dO (ao 2)) cp (bC vF (eT (ao 1) (ao 0)))))))))))
 (ai (aJ (ao 3)))))),?_⟩
  walk_at "rx";refine⟨m,rows,ls,gs,rfl,G.tb,h1,λ a zs M1 ha hz ez E1=>?_⟩;have lz:zs.length=gs.length:=by have:=G8 List.length ez;simpa using this
  have ht:∀e∈zs,∃n,n<=1/\e.2=List.replicate n 0:=λ e he=>by
   have:e.2∈gs.map (λ e=>List.replicate e.2 0):=by rw[<- ez];exact C9.mpr ⟨e,he,rfl⟩
   obtain⟨g,hg,q⟩:=C9.mp this;exact⟨g.2,h1 g hg,q.symm⟩
  walk_at "rx";intro p hp;have VX:=E1.free hp;have E2:=E1.new hp (.lst []);have z2:=hz.ext (Ext.new Ext.rfl hp (.lst []));have p2:af M1 p (.lst []) p=some (.lst (([]:List (Addr×List (Addr×List Nat))).map λ e=>.ref e.1)):=ae;generalize af M1 p (.lst [])=M2 at*;have az:a≠p:=aZ hz.1 hp;have zz:∀y∈zs,y.1≠p:=λ y hy=>aZ (hz.2 y hy) hp;clear hz E1 hp M1;rw[vw];walk_at "rx";rw[A8,X9];refine⟨fH (by omega) (by omega),?_⟩;rw[x4];refine iL (λ i δ M'=>∃(v4 v5:Option D) (ws:List (Addr×List (Addr×List Nat))),δ=[some (oJ gs),some (.tup [.tup (rows.map row),row ls]),some (.ref a),some (.ref p),v4,v5]/\M' p=some (.lst (ws.map λ e=>.ref e.1))/\(∀e∈ws,e.1≠p/\(∀y∈e.2,y.1≠p)/\LL M' e.1 e.2)/\ws.map (λ e=>e.2.map (·.2))=(List.range i).map (MV gs)/\LL M' a zs/\Ext M M') ⟨none,none,[],rfl,p2,λ e he=>(by cases he),rfl,z2,E2⟩ (λ i d δ M3 hd h=>?_) (λ δ M3 h=>?_)
  ·clear E2 p2 z2 M2;obtain⟨v4,v5,ws,rfl,oE,hw,ew,hz,E1⟩:=h;obtain⟨hi,rfl⟩:=dF hd;have lw:ws.length=i:=by have:=G8 List.length ew;simpa using this
   walk_at "rx";rw[C6];refine⟨m,gs.length,i,rows,rfl,G,hi,λ b kv M4 hb h4 C E4=>?_⟩;walk_at "rx";refine⟨⟨rfl,_,E4 _ _ oE⟩,?_⟩;have a4:=E4 _ _ hz.1;walk_at "rx";refine Eb (a:=a) (ds:=zs.map λ e=>.ref e.1) (λ j acc M5=>∃ys:List (Addr×List Nat),acc=ys.map (λ e=>.ref e.1)/\ys.length=j/\ys.map (·.2)=(zs.take j).map (λ e=>e.2.map λ _=>i)/\(∀e∈ys,e.1≠p/\M5 e.1=some (.lst (e.2.map nD)))/\Ext M4 M5) ⟨[],rfl,rfl,rfl,λ e he=>(by cases he),Ext.rfl⟩ (λ j acc M5 hj h=>?_) (λ j acc M5 hj h=>?_) (λ j d acc M5 hd h=>?_) (λ acc M5 h=>?_)
   ·obtain⟨ys,_,_,_,_,E5⟩:=h;exact E5 _ _ (E4 _ _ hz.1)
   ·obtain⟨ys,rfl,ly,_⟩:=h;rw[A8]at hj ⊢;exact small (by omega)
   ·obtain⟨ys,rfl,ly,ey,hy,E5⟩:=h;rw[x3]at hd;obtain⟨e,he,rfl⟩:=Option.map_eq_some_iff.mp hd;obtain⟨n,hn,en⟩:=ht e (m8 he);have et:=hz.2 e (m8 he);rw[en]at et;walk_at "rx";refine⟨m,gs.length,i,rows,b,e.1,kv,n,rfl,E5 _ _ h4,C,E5 _ _ (E4 _ _ et),hn,λ q hq=>?_⟩;have MD:q≠p:=(aZ (E5 _ _ (E4 _ _ oE)) hq).symm;refine⟨ys++[(q,List.replicate n i)],by rw[B0];rfl,by rw[r6,ly];rfl,?_,λ y HY=>?_,E5.new hq _⟩
    ·rw[B0,ey,take_add_one,he,B0];show _=_++[e.2.map λ _=>i];rw[en,map_replicate];rfl
    ·rcases A9.mp HY with z|z
     ·exact⟨(hy y z).1,by rw[ak (aZ (hy y z).2 hq)];exact(hy y z).2⟩
     ·rw[u4.mp z];exact⟨MD,ae⟩
   ·obtain⟨ys,rfl,ly,ey,hy,E5⟩:=h;rw[A8,z4]at ey;intro q hq;have Sb:=E5 _ _ (E4 _ _ oE);have MD:q≠p:=(aZ Sb hq).symm;have E6:=(E4.trans E5).new hq (.lst (ys.map λ e=>.ref e.1));have l6:LL (af M5 q (.lst (ys.map λ e=>.ref e.1))) q ys:=⟨ae,λ y z=>by rw[ak (aZ (hy y z).2 hq)];exact(hy y z).2⟩;generalize af M5 q (.lst (ys.map λ e=>.ref e.1))=M6 at*;have own:∀{r:Addr} {xs:List (Addr×List Nat)} {o:MO},r≠p->(∀y∈xs,y.1≠p)->LL M6 r xs->LL (af M6 p o) r xs:=λ{r xs o} h1 h2 h=>⟨by rw[ak h1];exact h.1,λ y hy=>by rw[ak (h2 y hy)];exact h.2 y hy⟩;walk_at "rx";refine fz (E6 _ _ oE) (by rw[A8,lw];exact u0 (show i<=300 by omega) (by decide)) ?_;refine⟨_,_,ws++[(q,ys)],rfl,by rw[ae,B0];rfl,λ e he=>?_,?_,?_,(E1.trans E6).own VX⟩
    ·rcases A9.mp he with z|z
     ·obtain⟨a1,a2,a3⟩:=hw e z;exact⟨a1,a2,own a1 a2 (a3.ext E6)⟩
     ·rw[u4.mp z];exact⟨MD,λ y z=>(hy y z).1,own MD (λ y z=>(hy y z).1) l6⟩
    ·rw[B0,ew,range_succ,B0];show _++[ys.map (·.2)]=_++[MV gs i];rw[ey,show zs.map (λ e=>e.2.map λ _=>i)=(zs.map (·.2)).map (λ l=>l.map λ _=>i) by rw[D1];rfl,ez,D1];unfold MV;congr 2;refine map_congr_left λ g _=>?_;show(List.replicate g.2 0).map (λ _=>i)=_;rw[map_replicate]
    ·exact own az zz (hz.ext E6)
  ·obtain⟨v4,v5,ws,rfl,oE,hw,ew,hz,E1⟩:=h;rw[bN]at ew;walk_at "rx";exact ax (k p ws _ VX ⟨oE,λ e he=>(hw e he).2.2⟩ ew E1)
end
abbrev Pa:=Nat×List Nat
def eM(p:Pa):D:=.tup [.int p.1,.tup (p.2.map nD)]
def cn(m:Nat)(l:List Nat):List Nat:=(List.range m).filter λ y=>decide (y∈l)
theorem fF{m y:Nat}{l:List Nat}:y∈cn m l↔y < m/\y∈l:=by unfold cn;rw[mem_filter,mem_range,decide_eq_true_iff]
theorem JK{m:Nat}{l k:List Nat}(h:∀y,y < m->(y∈l↔y∈k)):cn m l=cn m k:=filter_congr λ y hy=>by rw[decide_eq_decide];exact h y (mem_range.mp hy)
theorem Ri(m:Nat)(l:List Nat):cn m (cn m l)=cn m l:=JK λ y hy=>by rw[fF];exact⟨λ h=>h.2,λ h=>⟨hy,h⟩⟩
theorem vP(m:Nat):cn m []=[]:=by unfold cn;simp
theorem D'(m:Nat)(l:List Nat):(cn m l).length<=m:=by
 have:=length_filter_le (λ y=>decide (y∈l)) (List.range m)
 rwa [y0]at this
theorem Nm(m:Nat)(l:List Nat):(cn m l).Pairwise (· < ·):=List.Pairwise.filter _ pairwise_lt_range
theorem wq:∀{a b:List Int},a.Pairwise (· < ·)->b.Pairwise (· < ·)->(∀y,y∈a↔y∈b)->a=b
 |[],[],_,_,_=>rfl
 |[],y::b,_,_,h=>absurd ((h y).mpr (.head _)) (by simp)
 |x::a,[],_,_,h=>absurd ((h x).mp (.head _)) (by simp)
 |x::a,y::b,ha,hb,h=>by
  obtain⟨a1,a2⟩:=pairwise_cons.mp ha;obtain⟨b1,b2⟩:=pairwise_cons.mp hb;have e:x=y:=by
   rcases C3.mp ((h x).mp (.head _))with z|z
   ·exact z
   ·rcases C3.mp ((h y).mpr (.head _))with w|w
    ·exact w.symm
    ·have:=a1 y w;have:=b1 x z;omega
  subst e;rw[wq a2 b2 λ y=>?_];have:=h y;rw[C3,C3]at this;constructor
  ·intro q;rcases this.mp (.inr q)with z|z
   ·have:=a1 y q;omega
   ·exact z
  ·intro q;rcases this.mpr (.inr q)with z|z
   ·have:=b1 y q;omega
   ·exact z
def dU(rows:List Row)(m:Nat)(gs:Gs)(i:Nat)(p:Pa):Pa:=(a_ rows i p.1,cn m (p.2.map (a_ rows i)++List.replicate (gs.getD i default).2 p.1))
def Al(m:Nat)(p:Pa):Prop:=p.1 < m/\p.2=cn m p.2
theorem Al.lt {m:Nat}{p:Pa}(h:Al m p){y:Nat}(hy:y∈p.2):y < m:=by rw[h.2]at hy;exact(fF.mp hy).1
theorem fE{n x y:Nat}:y∈List.replicate n x↔n≠0/\y=x:=mem_replicate
theorem eA{m h:Nat}{rows:List Row}{gs:Gs}(G:lD m h rows):mr (Al m) h (dU rows m gs):=by
 refine⟨λ s i hi hs=>⟨G.tb.gi hi _ hs.1,(Ri m _).symm⟩,λ s i j hi hj hs=>?_⟩;unfold dU;have cm:∀x,x < m->a_ rows i (a_ rows j x)=a_ rows j (a_ rows i x):=λ x hx=>G.Wu.cm x i j hi hj hx;rw[cm _ hs.1];congr 1;refine JK λ y hy=>?_;have key:∀{i j:Nat},i < h->j < h->(∀x,x < m->a_ rows i (a_ rows j x)=a_ rows j (a_ rows i x))->(y∈(cn m (s.2.map (a_ rows j)++List.replicate (gs.getD j default).2 s.1)).map (a_ rows i)++List.replicate (gs.getD i default).2 (a_ rows j s.1)↔(∃u∈s.2,a_ rows i (a_ rows j u)=y)\/((gs.getD j default).2≠0/\y=a_ rows i s.1)\/((gs.getD i default).2≠0/\y=a_ rows j s.1)):=λ{i j} hi hj _=>by
  rw[A9,C9,fE];constructor
  ·rintro(⟨z,hz,rfl⟩|q)
   ·rw[fF,A9,C9,fE]at hz;rcases hz.2 with⟨u,hu,rfl⟩|⟨q,rfl⟩
    ·exact .inl ⟨u,hu,rfl⟩
    ·exact .inr (.inl ⟨q,rfl⟩)
   ·exact .inr (.inr q)
  ·rintro(⟨u,hu,rfl⟩|⟨q,rfl⟩|q)
   ·exact .inl ⟨_,fF.mpr ⟨G.tb.gi hj _ (hs.lt hu),m9 _ (C9.mpr ⟨u,hu,rfl⟩)⟩,rfl⟩
   ·exact .inl ⟨_,fF.mpr ⟨hs.1,k9 _ (fE.mpr ⟨q,rfl⟩)⟩,rfl⟩
   ·exact .inr q
 rw[key hi hj cm,key hj hi λ x hx=>(cm x hx).symm];constructor
 ·rintro(⟨u,hu,rfl⟩|q|q)
  ·exact .inl ⟨u,hu,(cm u (hs.lt hu)).symm⟩
  ·exact .inr (.inr q)
  ·exact .inr (.inl q)
 ·rintro(⟨u,hu,rfl⟩|q|q)
  ·exact .inl ⟨u,hu,cm u (hs.lt hu)⟩
  ·exact .inr (.inr q)
  ·exact .inr (.inl q)
theorem HB{a b:List Nat}(h:a.map nD=b.map nD):a=b:=by
 induction a generalizing b with
 |nil=>cases b with
  |nil=>rfl
  |cons=>cases h
 |cons x a ih=>cases b with
  |nil=>cases h
  |cons y b=>rw[C2,C2,List.cons.injEq]at h;rw[dg.inj _ _ h.1,ih h.2]
theorem lS(a b:Pa)(h:eM a=eM b):a=b:=by unfold eM at h;rw[D.tup.injEq,List.cons.injEq,List.cons.injEq,D.tup.injEq]at h;exact Prod.ext (dg.inj _ _ h.1) (HB h.2.1)
theorem qQ(p:Pa):fW true (eM p):=by
 have e:(p.2.map nD)=(p.2.map λ(x:Nat)=>(x:Int)).map D.int:=by rw[D1];rfl
 refine⟨[.i p.1,.t ((p.2.map λ(x:Nat)=>(x:Int)).map IK.i)],?_,?_⟩
 ·unfold eM;rw[e,<- De];rfl
 ·unfold IK.dep IK.iu IK.iu;unfold IK.dep;rw[Dh];decide
theorem AQ{m:Nat}{l:List Nat}{ns:List Int}(hl:∀y∈l,y < m)(h1:ns.Pairwise (· < ·))(h2:∀k,k∈ns↔k∈l.map λ(x:Nat)=>(x:Int)):ns.map D.int=(cn m l).map nD:=by
 have e:ns=(cn m l).map λ(x:Nat)=>(x:Int):=wq h1 (pairwise_map.mpr ((Nm m l).imp λ h=>by omega)) λ y=>by
  rw[h2,C9,C9];constructor
  ·rintro⟨x,hx,rfl⟩;exact⟨x,fF.mpr ⟨hl x hx,hx⟩,rfl⟩
  ·rintro⟨x,hx,rfl⟩;exact⟨x,(fF.mp hx).2,rfl⟩
 rw[e,D1];rfl
def Jg:tW:=λ ds cs M Q=>∃(m:Nat) (rows:List Row) (gs:Gs) (p:Pa) (i:Nat) (b:Addr) (ws:List (Addr×List (Addr×List Nat))),ds=[eM p,.int i]/\cs=[.ref b,.tup (rows.map row)]/\Tb m gs.length rows/\m<=30/\Al m p/\i < gs.length/\(∀e∈gs,e.2<=1)/\NI M b ws/\ws.map (λ e=>e.2.map (·.2))=(List.range m).map (MV gs)/\∀M',Ext M M'->Q (eM (dU rows m gs i p)) M'
theorem NI.at {M:Mem}{b:Addr}{ws:List (Addr×List (Addr×List Nat))}{m:Nat}{gs:Gs}(h:NI M b ws)(e:ws.map (λ e=>e.2.map (·.2))=(List.range m).map (MV gs)){x i:Nat}(hx:x < m)(hi:i < gs.length):∃(q r:Addr) (ds es:List D),M b=some (.lst ds)/\f' ds (x:Int)=some (.ref q)/\M q=some (.lst es)/\f' es (i:Int)=some (.ref r)/\M r=some (.lst ((List.replicate (gs.getD i default).2 x).map nD)):=by have e1:=G8 (λ l=>l[x]?) e;simp only[x3,getElem?_range hx]at e1;obtain⟨w,hw,ew⟩:=Option.map_eq_some_iff.mp e1;have e2:=G8 (λ l=>l[i]?) ew;unfold MV at e2;simp only[x3,i7 hi]at e2;obtain⟨z,hz,ez⟩:=Option.map_eq_some_iff.mp e2;have lw:=h.2 w (m8 hw);refine⟨w.1,z.1,_,_,h.1,bt (by rw[x3,hw];rfl),lw.1,bt (by rw[x3,hz];rfl),?_⟩;rw[lw.2 z (m8 hz),ez,c6,i7 hi];rfl
def Ak(M:Mem):Prop:=M 183=some (.hX (.lM "first_pairs.<locals>.gone"))
def Ki:gc:=λ ds M Q=>∃(m k:Nat) (rows:List Row) (ls:Row) (gs:Gs),ds=[oJ gs,fu rows ls,.int k]/\Ak M/\lD m gs.length rows/\m<=30/\0 < k/\k<=900/\(∀e∈gs,e.2<=1)/\∀(p:Addr) (told:List (Cs×Pa)) (M':Mem),M p=none->M' p=some (.lst ((told.take k).map (eO eM)))->iQ (dU rows m gs) (0,[]) gs.length k told->Ext M M'->Q (.ref p) M'
section
variable {P:Program}{w:World}{K:J8}{mg:Str->Option Value}{base:Heap}
theorem HL(T:iE K mg):zY P w K mg base 1 (vD (top 20) 2 "first_pairs.<locals>.gone" mg) ["pair","heap"] ["by_options","steps"] Jg:=by
 have nd:(["pair","heap","by_options","steps","leads"]:List Str).Nodup:=by decide+kernel
 refine Q3 ["leads"] (Q1 (by kernel_rfl) nd) (λ ds cs M Q h=>?_) (λ _ _ _ _=>ln2 λ _ _=>rfl) (λ A outer s H f c cl ds cs M Q hr h=>?_)
 ·obtain⟨m,rows,gs,p,i,b,ws,rfl,_⟩:=h;rfl
 ·obtain⟨m,rows,gs,p,i,b,ws,rfl,rfl,G,hm,hp,hi,h1,hw,ew,k⟩:=h;obtain⟨q,r,ds,es,a1,a2,a3,a4,a5⟩:=hw.at ew hp.1 hi;have hl:p.2.length<=30:=by have:=D' m p.2;rw[<- hp.2]at this;omega
  have vw:eM p=.tup [.int p.1,.tup (p.2.map nD)]:=rfl;rw[vw];refine⟨_,(aa (aE 4 (bq bw (iF (yr [3,1] (dO (aO aM (ao 0) ag)) cp (aO aM (aO aM (ao 1) (ao 0)) (ao 2)))) (aO aM (aO aM (ao 2) (aO aM (ao 0) ag)) (ao 1))))
 (ai (aJ (aU (eT (aO aM (aO aM (ao 3) (aO aM (ao 0) ag)) (ao 1)) (dA eE T.tuple (bS (AE rfl (by rfl) T.sorted (by rfl) T.set (bS (ao 4)))))))))),?_⟩
  walk_at "rx";refine fL (λ j acc M2=>acc=((p.2.take j).map (a_ rows i)).map nD/\M2=M) ⟨rfl,rfl⟩ (λ j acc M2 hj h=>?_) (λ j d acc M2 hd h=>?_) (λ acc M2 h=>?_)
  ·rw[h.1,A8,A8,z7];exact small (by omega)
  ·obtain⟨rfl,rfl⟩:=h;rw[x3]at hd;obtain⟨y,hy,rfl⟩:=Option.map_eq_some_iff.mp hd;have P':=hp.lt (m8 hy);obtain⟨r1,_⟩:=iH G P';walk_at "rx";refine bM r1 ?_;walk_at "rx";refine bM (mQ G P' hi) ?_;exact⟨by rw[take_add_one,hy,B0,B0];rfl,rfl⟩
  ·obtain⟨rfl,rfl⟩:=h;rw[A8,z4];intro n hn;have E1:Ext M2 (af M2 n (.lst ((p.2.map (a_ rows i)).map nD))):=Ext.new Ext.rfl hn _;have n1:af M2 n (.lst ((p.2.map (a_ rows i)).map nD)) n=some (.lst ((p.2.map (a_ rows i)).map nD)):=ae;generalize af M2 n (.lst ((p.2.map (a_ rows i)).map nD))=M3 at*;walk_at "rx";refine bV (E1 _ _ a1) a2 ?_;walk_at "rx";refine bV (E1 _ _ a3) a4 ?_;have g1:(gs.getD i default).2<=1:=by rw[c6,i7 hi];exact h1 _ (z8 hi)
   have hsz:(p.2.map (a_ rows i)++List.replicate (gs.getD i default).2 p.1).length<=31:=by rw[r6,A8,l8];omega
   refine mU n1 (E1 _ _ a5) (by rw[<- r6,<- B0,A8];exact small (by omega)) λ a ha=>?_;rw[<- B0];generalize hL:p.2.map (a_ rows i)++List.replicate (gs.getD i default).2 p.1=l at*;have Qs:∀y∈l,y < m:=λ y hy=>by
    rw[<- hL,A9,C9,fE]at hy;rcases hy with⟨u,hu,rfl⟩|⟨_,rfl⟩
    ·exact G.gi hi _ (hp.lt hu)
    ·exact hp.1
   have E2:=E1.new ha (.lst (l.map nD));have n2:af M3 a (.lst (l.map nD)) a=some (.lst (l.map nD)):=ae;generalize af M3 a (.lst (l.map nD))=M4 at*;obtain⟨r1,_⟩:=iH G hp.1;walk_at "rx";refine bM r1 ?_;walk_at "rx";refine bM (mQ G hp.1 hi) ?_;walk_at "rx";refine⟨_,l.map λ(x:Nat)=>(x:Int),rfl,by rw[dR n2,D1];rfl,by rw[A8];omega,λ ns b h1 h2 hb=>?_⟩;rw[AQ Qs h1 h2];walk_at "rx";refine eY ae ?_;walk_at "rx";have:=k _ (E2.new hb (.lst ((cn m l).map nD)));unfold dU eM at this;rw[hL]at this;exact ax this
theorem Pp{f:Addr}{fd:FuncData}(F:jI K "first_pairs" "first_pairs" (top 20) (.ref 181) 187 f fd)(T:iE K mg)(B:EL mg base 187 183)(oK:cR P w K mg base 4 "put_options" ["game","table"] AV)(q_:cR P w K mg base 7 "first_sums" ["heaps","start","gone","most"] (wz P w K mg base)):aX P w K mg base di 8 f fd ["game","table","most"] (cw K Ki):=by
 refine VD F ["game","table","most","steps","by_options","gone"] (λ A outer s H E ds M Q nd hr h=>?_)
 ·obtain⟨m,k,rows,ls,gs,rfl,hT,G,hm,MJ,Yt,h1,kk⟩:=h;have hg:=G.tb.DM;have Dv:jC ["pair","heap"] ["by_options","steps"] ((vD (top 20) 2 "first_pairs.<locals>.gone" mg)).scope=true:=by kernel_rfl
  have UL:=(HL (P:=P) (w:=w) (base:=base) T).mono (show 1<=5 by decide);have vw:fu rows ls=.tup [.tup (rows.map row),row ls]:=rfl;refine⟨_,(aa (aE 3 (aO aM (ao 1) ag))
 (aa (aE 4 (bC oK (eT (ao 0) (ao 1))))
 (aa (EZ 5 (L:=vD (top 20) 2 "first_pairs.<locals>.gone" mg) rfl B rfl rfl rfl rfl (by kernel_rfl) (QV (by kernel_rfl)) rfl rfl nd (Or.inl rfl) (.inl rfl))
 (ai (aJ (Fe (cn:=[("by_options",4),("steps",3)]) q_ (hr.mono (by decide)) (by rfl) (Rh (by kernel_rfl)) nd (aA (bo dW T.len (bS (ao 0))) (aA (aU (eT ag (aU bg))) (aA (ao 5) (aA (ao 2) bg)))))))))),?_⟩
  walk_at "rx";rw[vw];walk_at "rx";refine⟨m,rows,ls,gs,rfl,G,h1,λ b ws M1 hb hw ew E1=>?_⟩;walk_at "rx";refine KR (E1 _ _ hT) λ lf Qt jL=>?_;have Yw:oJ gs=.tup (gs.map λ e=>.tup [.str e.1,.tup (List.replicate e.2 (row (List.replicate gs.length 0)))]):=rfl;walk_at "rx";rw[Yw];walk_at "rx";rw[A8];refine⟨λ x j hx=>?_,λ C hC hn=>?_⟩
  ·rcases C3.mp hx with hx|hx
   ·cases hx;exact⟨_,rfl⟩
   ·rw[u4]at hx;cases hx;exact⟨_,rfl⟩
  have UM:=CO (cs:=[.ref b,.tup (rows.map row)]) Dv rfl rfl (λ i x j d h1 h2=>?_) hC ae hn
  ·refine⟨Pa,inferInstance,eM,true,Al m,dU rows m gs,(0,[]),gs.length,k,lf,_,_,_,Jg,[.ref b,.tup (rows.map row)],C,rfl,MJ,Yt,lS,qQ,eA G,⟨G.tb.pos,(vP m).symm⟩,hg,UL,UM,λ M2 s i Q' hE hs hi hq=>?_,λ p told M' hp iJ hF hE=>?_⟩
   ·have e2:=Ext.IZ hE hn;exact⟨m,rows,gs,s,i,b,ws,rfl,rfl,G.tb,hm,hs,hi,h1,hw.ext ((Ext.new Ext.rfl Qt _).trans e2),ew,hq⟩
   ·have Wh:C p=none:=by
     rcases cM C p with z|⟨d,z⟩
     ·exact z
     ·rw[mn z]at hp;cases hp
    rw[jG Wh]at hp;exact ax (kk p told _ ((E1.new Qt _).free hp) (Nd iJ Wh) hF ((E1.new Qt _).trans (Ext.IZ hE hn)))
  ·match i with
   |0=>cases h1;cases h2;rfl
   |1=>cases h1;cases h2;rfl
   |i+2=>cases h1
end
theorem tR{α:Type}(p:α->Bool):∀xs:List α,lC (xs.map λ x=>D.bl (p x))=some (xs.map p)
 |[]=>rfl
 |x::xs=>by rw[C2,C2];unfold lC;rw[tR p xs];rfl
theorem Gi{α:Type}{xs:List α}{p:α->Bool}{M:Mem}{Q:bu}(q:Q (.bl (xs.all p)) M):xT (xs.map λ x=>D.bl (p x)) M Q:=by
 unfold xT;rw[tR];have e:(xs.map p).all id=xs.all p:=by rw[List.all_map];rfl
 rw[<- e]at q;exact q
theorem Gf{α:Type}{xs:List α}{p:α->Bool}{M:Mem}{Q:bu}(q:Q (.bl (xs.any p)) M):JJ (xs.map λ x=>D.bl (p x)) M Q:=
 ⟨xs.map p,by rw[D1];rfl,by rw[List.any_map];exact q⟩
def cZ(w:Bool):Str:=if w then Str.ofString "wins" else Str.ofString "loses"
def oF(w:Bool)(ls:Row)(p:Pa):Bool:=if p.2=[]then decide (lq ls p.1=w)else !decide (lq ls p.1=p.2.any (lq ls))
theorem xw{x:Nat}{ls:Row}{M:Mem}{Q:bu}(q:Q (.bl (lq ls x)) M):Nk (.int (x:Int)) (row ls) M Q:=FZ (k:=0) (b:=lq ls x) (ds:=ls.map D.int) rfl (fB 0 _) (jX λ x _=>fB 0 _) (by decide) (by unfold lq;rw[decide_eq_true_iff];exact(qL (enc:=D.int) (λ a b z=>D.int.inj z) _).symm) q
def wA:gc:=λ ds M Q=>∃(l:List Nat) (ls:Row),ds=[.tup (l.map nD),row ls]/\l.length<=30/\Q (.bl (l.any (lq ls))) M
def Jf:gc:=λ ds M Q=>∃(w:Bool) (ls:Row) (p:Pa),ds=[.str (cZ w),row ls,eM p]/\p.2.length<=30/\Q (.bl (oF w ls p)) M
def Ih(w:Bool)(ls:Row)(l:List (Cs×Pa)):D:=match l.find? (λ e=>!oF w ls e.2)with
 |some e=>tN e.1
 |none=>.aY
def Ox:gc:=λ ds M Q=>∃(w:Bool) (ls:Row) (f:Addr) (l:List (Cs×Pa)),ds=[.str (cZ w),row ls,.ref f]/\M f=some (.lst (l.map (eO eM)))/\(∀e∈l,e.2.2.length<=30)/\Q (Ih w ls l) M
section
variable {P:Program}{w:World}{K:J8}{mg:Str->Option Value}{base:Heap}
theorem Cr{f:Addr}{fd:FuncData}(F:fg K "any_losing" "any_losing" (top 23) f fd)(T:iE K mg):aX P w K mg base di 1 f fd ["things","losing"] (cw K wA):=by
 refine oC F ["things","losing"] (λ bQ A outer s H E ds M Q nd hr h=>?_)
 ·obtain⟨l,ls,rfl,hl,k⟩:=h;refine⟨_,(ai (aJ (AD (Rl rfl) Fg T.any (yr [1] (dO (ao 0)) cp (fS (xh hr.units) (ao 0) (ao 1)))))),?_⟩;walk_at "rx";refine fL (λ j acc M2=>acc=(l.take j).map (λ x=>D.bl (lq ls x))/\M2=M) ⟨rfl,rfl⟩ (λ j acc M2 hj h=>?_) (λ j d acc M2 hd h=>?_) (λ acc M2 h=>?_)
  ·rw[h.1,A8,z7];exact small (by omega)
  ·obtain⟨rfl,rfl⟩:=h;rw[x3]at hd;obtain⟨y,hy,rfl⟩:=Option.map_eq_some_iff.mp hd;walk_at "rx";refine xw ?_;exact⟨by rw[take_add_one,hy,B0];rfl,rfl⟩
  ·obtain⟨rfl,rfl⟩:=h;rw[A8,z4];refine Gf ?_;exact ax k
theorem L_{f:Addr}{fd:FuncData}(F:fg K "holds" "holds" (top 24) f fd)(T:iE K mg)(rf:cR P w K mg base 1 "any_losing" ["things","losing"] wA):aX P w K mg base di 2 f fd ["last","losing","pair"] (cw K Jf):=by
 refine oC F ["last","losing","pair"] (λ bQ A outer s H E ds M Q nd hr h=>?_)
 ·obtain⟨w,ls,p,rfl,hl,k⟩:=h;have vw:eM p=.tup [.int p.1,.tup (p.2.map nD)]:=rfl;rw[vw];refine⟨_,(aa (cG (aQ (fU hr.units) (aO aM (ao 2) ag) (aU bg))
 (ai (aJ (fS (fU hr.units) (fS (xh hr.units) (aO aM (ao 2) ag) (ao 1)) (fS (fU hr.units) (ao 0) gh))))
 bA)
 (ai (aJ (fS (pL hr.units) (fS (xh hr.units) (aO aM (ao 2) ag) (ao 1)) (bC rf (eT (aO aM (ao 2) ag) (ao 1))))))),?_⟩
  walk_at "rx";refine wN (k:=1) (b:=decide (p.2=[])) ?_ ?_ (by decide) (by rw[decide_eq_true_iff,D.tup.injEq,map_eq_nil_iff]) ?_
  ·exact eL (jX λ x _=>fB 0 _)
  ·exact eL λ e he=>(by cases he)
  refine bH (λ hn=>?_) (λ hn=>?_)
  ·walk_at "rx";refine xw ?_;walk_at "rx";rw[show decide (cZ w=Str.ofString "wins")=w by cases w <;> decide+kernel];unfold oF at k;rw[J0 hn]at k;exact ax k
  ·walk_at "rx";refine xw ?_;walk_at "rx";refine⟨p.2,ls,rfl,hl,?_⟩;walk_at "rx";unfold oF at k;rw[J7 hn]at k;exact ax k
theorem Po{f:Addr}{fd:FuncData}(F:fg K "first_wrong" "first_wrong" (top 25) f fd)(T:iE K mg)(Iw:cR P w K mg base 2 "holds" ["last","losing","pair"] Jf):aX P w K mg base di 3 f fd ["last","losing","found"] (cw K Ox):=by
 refine oC F ["last","losing","found","counts","pair"] (λ bQ A outer s H E ds M Q nd hr h=>?_)
 ·obtain⟨w,ls,f,l,rfl,hf,hl,k⟩:=h;refine⟨_,(aa (fj (dO (ao 2)) (jO (n:=2) (bB (bj 3) (bB (bj 4) gX)))
 (ai (cG (Ax (Aw (bC Iw (yu (ao 0) (ao 1) (ao 4)))))
 (ai (aJ (ao 3)))
 bA)))
 (ai (aJ wj))),?_⟩
  walk_at "rx";refine JB (ds:=l.map (eO eM)) (λ i δ M'=>∃(v3 v4:Option D),δ=[some (.str (cZ w)),some (row ls),some (.ref f),v3,v4]/\M'=M/\∀e∈l.take i,oF w ls e.2=true) ⟨none,none,rfl,rfl,λ e he=>(by cases he)⟩ (λ i δ M' _ h=>?_) (λ i d δ M' hd h=>?_) (λ δ M' h=>?_)
  ·obtain⟨_,_,_,rfl,_⟩:=h;exact hf
  ·obtain⟨v3,v4,rfl,rfl,ha⟩:=h;rw[x3]at hd;obtain⟨e,he,rfl⟩:=Option.map_eq_some_iff.mp hd;have vw:eO eM e=.tup [tN e.1,eM e.2]:=rfl;rw[vw];walk_at "rx";refine⟨w,ls,e.2,rfl,hl e (m8 he),?_⟩;walk_at "rx";refine lO (λ hn=>?_) (λ hn=>?_)
   ·have hn:oF w ls e.2=false:=by simpa using hn
    walk_at "rx";have q:Ih w ls l=tN e.1:=by unfold Ih;rw[show l.find? (λ e=>!oF w ls e.2)=some e from ?_];have hi:=(i4.mp he).1;rw[<- take_append_drop i l,find?_append,find?_eq_none.mpr λ x hx=>by simp[ha x hx],drop_eq_getElem_cons hi,(i4.mp he).2];simp[hn]
    rw[q]at k;exact ax k
   ·have hn:oF w ls e.2=true:=by simpa using hn
    walk_at "rx";refine⟨_,_,rfl,rfl,λ x hx=>?_⟩;rw[take_add_one,he]at hx;rcases A9.mp hx with z|z
    ·exact ha x z
    ·rw[u4.mp z];exact hn
  ·obtain⟨v3,v4,rfl,rfl,ha⟩:=h;rw[A8,z4]at ha;walk_at "rx";have q:Ih w ls l=.aY:=by unfold Ih;rw[find?_eq_none.mpr λ x hx=>by simp[ha x hx]]
   rw[q]at k;exact ax k
end
def uf(rows:List Row)(m h:Nat)(gs:Gs)(p:Pa):Prop:=∃cs:Cs,cs.length=h/\iq (dU rows m gs) 0 (0,[]) cs=p
theorem wF{m h:Nat}{rows:List Row}(G:lD m h rows):Al m (0,[]):=⟨G.tb.pos,(vP m).symm⟩
theorem uf.zero (rows:List Row)(m h:Nat)(gs:Gs):uf rows m h gs (0,[]):=⟨jN h,by simp[jN],qW _ _ h 0⟩
theorem uf.Tt {m h:Nat}{rows:List Row}{gs:Gs}(G:lD m h rows){p:Pa}(r:uf rows m h gs p):Al m p:=by obtain⟨cs,hl,rfl⟩:=r;exact(eA (gs:=gs) G).iq cs 0 _ (by omega) (wF G)
theorem uf.next {m h:Nat}{rows:List Row}{gs:Gs}(G:lD m h rows){p:Pa}(r:uf rows m h gs p){i:Nat}(hi:i < h):uf rows m h gs (dU rows m gs i p):=by obtain⟨cs,hl,rfl⟩:=r;refine⟨inc cs i,by rw[ju];exact hl,?_⟩;rw[(eA (gs:=gs) G).inc cs 0 i _ (by omega) (by omega) (wF G),D4]
theorem KA{m h:Nat}{rows:List Row}{gs:Gs}(G:lD m h rows){A:List Pa}(h0:(0,[])∈A)(hc:∀p∈A,∀i,i < h->dU rows m gs i p∈A){p:Pa}(r:uf rows m h gs p):p∈A:=by obtain⟨cs,hl,rfl⟩:=r;have C:mr (λ p=>p∈A/\Al m p) h (dU rows m gs):=⟨λ s i hi q=>⟨hc s q.1 i hi,(eA (gs:=gs) G).cl s i hi q.2⟩,λ s i j hi hj q=>(eA (gs:=gs) G).cm s i j hi hj q.2⟩;exact(C.iq cs 0 _ (by omega) ⟨h0,wF G⟩).1
theorem Ff{m h k:Nat}{rows:List Row}{gs:Gs}{told:List (Cs×Pa)}(F:iQ (dU rows m gs) (0,[]) h k told)(hl:told.length < k){p:Pa}(r:uf rows m h gs p):p∈told.map (·.2):=by
 obtain⟨cs,hc,rfl⟩:=r;obtain⟨q,hq,e,_⟩:=oh.ex (dU rows m gs) (0,[]) h hc;rcases F.U0 with z|z
 ·omega
 ·obtain⟨x,hx,rfl⟩:=C9.mp (z q hq);rw[<- e,(F.gI.ent x hx).2];exact C9.mpr ⟨x,hx,rfl⟩
theorem rR{m h k:Nat}{rows:List Row}{gs:Gs}{told:List (Cs×Pa)}(F:iQ (dU rows m gs) (0,[]) h k told){p:Pa}(hp:p∈told.map (·.2)):uf rows m h gs p:=by obtain⟨x,hx,rfl⟩:=C9.mp hp;have:=F.gI.ent x hx;exact⟨x.1,this.1.1,this.2⟩
theorem Nl{A B:List Pa}{R:Pa->Prop}(hA:A.Nodup)(hB:B.Nodup)(rA:∀p∈A,R p)(rB:∀p∈B,R p)(cA:A.length<=400->∀p,R p->p∈A)(cB:B.length<=400->∀p,R p->p∈B):(A.length<=400↔B.length<=400)/\(A.length<=400->B.length=A.length):=by have f:A.length<=400->B.length<=A.length:=λ h=>List.Nodup.length_le_of_subset hB λ p hp=>cA h p (rB p hp);have g:B.length<=400->A.length<=B.length:=λ h=>List.Nodup.length_le_of_subset hA λ p hp=>cB h p (rA p hp);refine⟨⟨λ h=>by have:=f h;omega,λ h=>by have:=g h;omega⟩,λ h=>?_⟩;have:=f h;have:=g (by omega);omega
def SA(m h:Nat)(rows:List Row)(gs:Gs)(ls:Row)(w:Bool):Prop:=∃nu:Nat->Nat,nu 0=0/\(∀x,x < m->nu x < 2)/\(∀x i,x < m->i < h->nu (a_ rows i x)=(nu x+(gs.getD i default).2) % 2)/\∀x,x < m->lq ls x=decide (nu x=if w then 0 else 1)
set_option tactic.hygienic true in
theorem G'{m h:Nat}{rows:List Row}{gs:Gs}{ls:Row}{w:Bool}(G:lD m h rows)(h1:∀e∈gs,e.2<=1)(hg:h=gs.length)(P:SA m h rows gs ls w){p:Pa}(r:uf rows m h gs p):oF w ls p=true:=by
 obtain⟨nu,n0,n2,ns,nl⟩:=P;obtain⟨cs,hl,rfl⟩:=r;have C:mr (λ p:Pa=>Al m p/\(∀y∈p.2,nu y≠nu p.1)/\(p.2=[]->nu p.1=0)) h (dU rows m gs):=by
  refine⟨λ s i hi q=>⟨(eA (gs:=gs) G).cl s i hi q.1,λ y hy=>?_,λ hn=>?_⟩,λ s i j hi hj q=>(eA (gs:=gs) G).cm s i j hi hj q.1⟩
  ·have g1:(gs.getD i default).2<=1:=by rw[c6,i7 (by omega)];exact h1 _ (z8 (by omega))
   unfold dU at hy ⊢;dsimp only at hy ⊢;rw[fF,A9,C9,fE]at hy;have a:=n2 _ q.1.1;rw[ns _ i q.1.1 hi];rcases hy.2 with⟨u,hu,rfl⟩|⟨gn,rfl⟩
   ·have b:=n2 _ (q.1.lt hu);rw[ns _ i (q.1.lt hu) hi];have:=q.2.1 u hu;omega
   ·omega
  ·unfold dU at hn ⊢;dsimp only at hn ⊢;rw[ns _ i q.1.1 hi];have em:∀y,y < m->y∉s.2.map (a_ rows i)++List.replicate (gs.getD i default).2 s.1:=λ y hy z=>by have:y∈cn m (s.2.map (a_ rows i)++List.replicate (gs.getD i default).2 s.1):=fF.mpr ⟨hy,z⟩;rw[hn]at this;cases this
   have g0:(gs.getD i default).2=0:=by
    by_cases z:(gs.getD i default).2=0
    ·exact z
    ·exact absurd (k9 _ (fE.mpr ⟨z,rfl⟩)) (em s.1 q.1.1)
   have e2:s.2=[]:=by
    cases z:s.2 with
    |nil=>rfl
    |cons u l=>exact absurd (m9 _ (by rw[z];exact .head _)) (em (a_ rows i u) (G.tb.gi hi _ (q.1.lt (by rw[z];exact .head _))))
   rw[q.2.2 e2,g0]
 obtain⟨hp,ha,hb⟩:=C.iq cs 0 (0,[]) (by omega) ⟨wF G,λ y hy=>(by cases hy),λ _=>n0⟩;generalize iq (dU rows m gs) 0 (0,[]) cs=p at*;unfold oF;split
 ·rename_i z;rw[nl _ hp.1,hb z];cases w <;> rfl
 ·rename_i z;have a:=n2 _ hp.1;have e:p.2.any (lq ls)=!lq ls p.1:=by
   rw[nl _ hp.1];have each:∀y∈p.2,lq ls y=!decide (nu p.1=if w then 0 else 1):=λ y hy=>by rw[nl _ (hp.lt hy),<- decide_not,decide_eq_decide];have:=ha y hy;have:=n2 _ (hp.lt hy);cases w <;> simp <;> omega
   obtain⟨y,l,q⟩:∃y l,p.2=y::l:=by
    cases q:p.2 with
    |nil=>exact absurd q z
    |cons y l=>exact⟨y,l,rfl⟩
   cases b:(!decide (nu p.1=if w then 0 else 1))with
   |true=>exact List.any_eq_true.mpr ⟨y,by rw[q];exact .head _,by rw[each y (by rw[q];exact .head _),b]⟩
   |false=>exact List.any_eq_false.mpr λ y hy=>by rw[each y hy,b];decide
  rw[e];cases lq ls p.1 <;> rfl
def Ke(gs:Gs)(ws:Cs)(w i:Nat)(s:Nat×Nat):Nat×Nat:=((s.1+(gs.getD i default).2) % 2,(s.2+ws.getD i 0) % w)
theorem Fu{gs:Gs}{ws:Cs}{w:Nat}(h:Nat)(hw:0 < w):mr (λ s=>s∈zN 2 w) h (Ke gs ws w):=by
 refine⟨λ s i hi hs=>?_,λ s i j hi hj hs=>?_⟩
 ·rw[qN];exact⟨Nat.mod_lt _ (by decide),Nat.mod_lt _ hw⟩
 ·refine Prod.ext ?_ ?_
  ·show((s.1+_) % 2+_) % 2=((s.1+_) % 2+_) % 2;rw[Nat.mod_add_mod,Nat.mod_add_mod,Nat.add_right_comm]
  ·show((s.2+ws.getD j 0) % w+ws.getD i 0) % w=((s.2+ws.getD i 0) % w+ws.getD j 0) % w;rw[Nat.mod_add_mod,Nat.mod_add_mod,Nat.add_right_comm]
def Ot:gc:=λ ds M Q=>∃(pg pw:Addr) (w:Nat) (wn:Bool) (gs:Gs) (ws:Cs),ds=[.ref pg,.ref pw,.int w,.str (cZ wn)]/\M pg=some (.lst (gs.map λ e=>nD e.2))/\M pw=some (.lst (ws.map nD))/\ws.length=gs.length/\gs.length<=6/\0 < w/\w<=10/\∀(m:Nat) (rows:List Row) (ls:Row) (M':Mem),lD m gs.length rows->m<=20->zV m ls->SA m gs.length rows gs ls wn->Ext M M'->Q (fu rows ls) M'
theorem Ik{gs:Gs}{ws:Cs}{w:Nat}{wn:Bool}{U:List (Nat×Nat)}{aL:List (Nat×Nat)}{rows:List Row}{ls:Row}(hU:∀s∈U,s.1 < 2)(e:tZ (Ke gs ws w) (0,0) gs.length U aL rows)(el:rows.length=aL.length)(L:zW aL (λ x=>decide (x.1=if wn then 0 else 1)) aL.length ls):SA rows.length gs.length rows gs ls wn:=by
 have at':∀x,x < rows.length->∃s,aL[x]?=some s/\(aL.getD x (0,0))=s:=λ x hx=>⟨_,i7 (by omega),by rw[c6,i7 (by omega)];rfl⟩;refine⟨λ x=>(aL.getD x (0,0)).1,?_,λ x hx=>?_,λ x i hx hi=>?_,λ x hx=>?_⟩
 ·show(aL.getD 0 (0,0)).1=0;rw[c6,e.iS];rfl
 ·obtain⟨s,hs,q⟩:=at' x hx;dsimp only;rw[q];exact hU s (e.sub s (m8 hs))
 ·obtain⟨s,hs,q⟩:=at' x hx;dsimp only;rw[q,c6,e.at el hs hi];rfl
 ·obtain⟨s,hs,q⟩:=at' x hx;rw[L.is x s (by omega) hs,<- q]
section
variable {P:Program}{w:World}{K:J8}{mg:Str->Option Value}{base:Heap}
theorem Pj{f:Addr}{fd:FuncData}(F:fg K "_law_wide_table" "_law_wide_table" (top 35) f fd)(T:iE K mg):aX P w K mg base di 1 f fd ["_law_goes","_law_weights","_law_wide","_law_last"] (cw K Ot):=by
 refine oC F ["_law_goes","_law_weights","_law_wide","_law_last","_law_states","_law_steps","_law_step","_law_h","_law_number","_law_count","_law_then"] (λ bQ A outer s H E ds M Q nd hr h=>?_)
 ·obtain⟨pg,Ts,w,wn,gs,ws,rfl,hg,Ue,hl,hh,R8,VT,k⟩:=h;refine⟨_,(aa (aE 4 (cC (bS (aU (eT ag ag)))))
 (aa (aE 5 (cC bg))
 (aa (gf (aQ Cv (bo dW T.len (bS (ao 5))) (bo dW T.len (bS (ao 4))))
 (aa (df (aO aM (ao 4) (bo dW T.len (bS (ao 5)))) (jO (n:=2) (bB (bj 8) (bB (bj 9) gX))))
 (aa (aE 6 (cC bg))
 (aa (fj (b_ T.range (bS (bo dW T.len (bS (ao 0))))) (bj 7)
 (aa (aE 10 (aU (eT (bq gC (bq bw (ao 8) (aO aM (ao 0) (ao 7))) ag) (bq gC (bq bw (ao 9) (aO aM (ao 1) (ao 7))) (ao 2)))))
 (aa (cG (aQ (ng hr.units) (ao 10) (ao 4))
 (ai (cX (mB i9 i6 i8 cI (ao 4) (bS (ao 10)))))
 bA)
 (ai (cX (mB i9 i6 i8 cI (ao 6) (bS (mB i9 PySem.F.slot_list_index PySem.F.type_list_index (xk hr.units) (ao 4) (bS (ao 10))))))))))
 (ai (cX (mB i9 i6 i8 cI (ao 5) (bS (dA eE T.tuple (bS (ao 6)))))))))))
 (ai (aJ (aU (eT (dA eE T.tuple (bS (ao 5))) (uo eE jP T.tuple (WN [3] (qp T.enumerate (bS (ao 4))) (wg (aQ (fU hr.units) (aO aM (ao 1) ag) (dA vW T.int (bS (fS (fU hr.units) (ao 2) gh))))) (ao 0)))))))))),?_⟩
  have C:=Fu (gs:=gs) (ws:=ws) gs.length R8;have hz:((0,0):Nat×Nat)∈zN 2 w:=qN.mpr ⟨by decide,R8⟩;have hbl:(zN 2 w).length<=20:=by rw[IG];omega
  walk_at "rx";intro p hp;walk_at "rx";intro q hq;have X0:Sx pD (Ke gs ws w) (0,0) gs.length (zN 2 w) p q [(0,0)] [] M (af (af M p (.lst [.tup [.int 0,.int 0]])) q (.lst [])):=by have ud:p≠q:=aZ (show af M p (.lst [.tup [.int 0,.int 0]]) p=some _ from ae) hq;refine⟨Ext.new (Ext.new Ext.rfl hp _) hq _,hp,Ext.free (Ext.new Ext.rfl hp _) hq,ud,?_,ae,tZ.start hz,by simp⟩;rw[ak ud,ae];rfl
  generalize af (af M p (.lst [.tup [.int 0,.int 0]])) q (.lst [])=M6 at*;walk_at "rx";refine gz ⟨λ m' δ M'=>∃(v6 v7 v8 v9 v10:Option D) (aL:List (Nat×Nat)) (rows:List Row),δ=[some (.ref pg),some (.ref Ts),some (.int w),some (.str (cZ wn)),some (.ref p),some (.ref q),v6,v7,v8,v9,v10]/\Sx pD (Ke gs ws w) (0,0) gs.length (zN 2 w) p q aL rows M M'/\m'=21 - rows.length,⟨_,none,none,none,none,none,_,[],rfl,X0,rfl⟩,?_⟩;clear X0 M6;rintro m' δ M' ⟨v6,v7,v8,v9,v10,aL,rows,rfl,X,rfl⟩;have hfew:=X.dY;have hst:=X.st;have R_:=X.kZ;walk_at "rx";rw[A8,A8];refine bH (λ ig=>?_) (λ NX=>?_)
  ·obtain⟨s,hs⟩:∃s,aL[rows.length]?=some s:=⟨_,i7 (by omega)⟩;have Um:s∈zN 2 w:=X.ex.sub s (m8 hs);refine⟨λ δ' og=>∃(v6 v7 v8 v9 v10:Option D) (aL:List (Nat×Nat)) (r:Row),δ'=[some (.ref pg),some (.ref Ts),some (.int w),some (.str (cZ wn)),some (.ref p),some (.ref q),v6,v7,v8,v9,v10]/\Sx pD (Ke gs ws w) (0,0) gs.length (zN 2 w) p q aL (rows++[r]) M og,?_,?_⟩
   ·rintro δ' og ⟨v6,v7,v8,v9,v10,aL,r,rfl,X⟩;exact⟨_,by rw[r6,l0];omega,v6,v7,v8,v9,v10,aL,_,rfl,X,rfl⟩
   ·walk_at "rx";rw[A8];refine bV X.st (d:=.tup [.int (s.1:Int),.int (s.2:Int)]) (bt (by rw[x3,hs];rfl)) ?_;walk_at "rx";intro pw MF;have fw:=X.free MF;have X1:=X.new MF (.lst []);have XN:af M' pw (.lst []) pw=some (.lst (([]:Row).map D.int)):=ae;generalize af M' pw (.lst [])=M7 at*;have hg7:=X1.ext _ _ hg;walk_at "rx";rw[A8];refine⟨fH (by omega) (by omega),?_⟩;rw[x4];refine iL (λ i δ M8=>∃(v7 v10:Option D) (aL:List (Nat×Nat)) (r:Row),δ=[some (.ref pg),some (.ref Ts),some (.int w),some (.str (cZ wn)),some (.ref p),some (.ref q),some (.ref pw),v7,some (.int (s.1:Int)),some (.int (s.2:Int)),v10]/\Sx pD (Ke gs ws w) (0,0) gs.length (zN 2 w) p q aL rows M M8/\M8 pw=some (.lst (r.map D.int))/\du (Ke gs ws w) aL s i r/\aL[rows.length]?=some s) ⟨v7,v10,aL,[],rfl,X1,XN,du.nil _ _ _,hs⟩ (λ i d δ M8 hd h=>?_) (λ δ M8 h=>?_)
    ·obtain⟨v7,v10,aL,r,rfl,X,hw,hr,hs⟩:=h;obtain⟨hi,rfl⟩:=dF hd;walk_at "rx";rw[C6];refine bV (X.ext _ _ hg) (d:=.int ((gs.getD i default).2:Nat)) (bt (by rw[x3,i7 (by omega),c6,i7 (by omega)];rfl)) ?_;have h2:(0:Int) < 2:=by decide
     walk_at "rx";refine bV (X.ext _ _ Ue) (d:=.int (ws.getD i 0:Nat)) (bt (by rw[x3,i7 (by omega),c6,i7 (by omega)];rfl)) ?_;have Uh:(0:Int) < (w:Int):=by omega
     refine sG (dS rfl (qA Uh (iI ⟨by show 2<=sizeLine;decide,qz ?_⟩)));have YY:(1:Nat)<=60:=by decide
     have XY:(zN 2 w).length<=300:=by omega
     have UB:gs.length<=12:=by omega
     have YQ:=C.cl s i hi Um
     with_reducible refine Ft Na YY X XY UB fw hw hr hs hi YQ ?_ ?_ ?_ (λ jQ r' M' X' XQ Qc jv=>?_)
     ·show some (some (D.tup [.int (((s.1:Int)+((gs.getD i default).2:Nat)) % 2),.int (((s.2:Int)+(ws.getD i 0:Nat)) % (w:Int))]))=some (some (D.tup [.int (((s.1+(gs.getD i default).2) % 2:Nat):Int),.int (((s.2+ws.getD i 0) % w:Nat):Int)]));rw[Int.natCast_emod,Int.natCast_add,Int.natCast_emod,Int.natCast_add];rfl
     ·rfl
     ·rfl
     ·exact⟨_,_,jQ,r',rfl,X',XQ,Qc,jv⟩
    ·obtain⟨v7,v10,aL,r,rfl,X,hw,hr,hs⟩:=h;rw[bN]at hr;have hfew:=X.dY;have R_:=X.kZ;walk_at "rx";refine⟨⟨rfl,_,R_⟩,?_⟩;walk_at "rx";refine eY hw ?_;walk_at "rx";refine fz R_ (by rw[A8];exact u0 (show rows.length<=300 by omega) (by decide)) ?_;exact⟨_,_,_,_,_,aL,r,rfl,X.next hs hr⟩
  ·have el:rows.length=aL.length:=by have:=X.le;omega
   have TG:=X.ex.tb C hz el (by omega) (by omega);walk_at "rx";refine eY R_ ?_;walk_at "rx";refine Nq (ds:=e_ (aL.map pD)) (λ i acc M7=>M7=M'/\∃ls:Row,acc=ls.map D.int/\zW aL (λ x=>decide (x.1=if wn then 0 else 1)) i ls) ⟨rfl,[],rfl,zW.nil _ _⟩ (λ i acc M7 _ h=>?_) (λ i acc M7 hi h=>?_) (λ i d acc M7 hd h=>?_) (λ acc M7 h=>?_)
   ·obtain⟨rfl,_⟩:=h;show kS (.ref p) M7=_;unfold kS;rw[dR hst];rfl
   ·obtain⟨rfl,ls,rfl,L⟩:=h;rw[dM,A8]at hi;have:=L.PM.dY;rw[A8];exact small (by omega)
   ·obtain⟨rfl,ls,rfl,L⟩:=h;obtain⟨hi,rfl⟩:=xI hd;rw[A8]at hi;obtain⟨x,hx⟩:∃x,aL[i]?=some x:=⟨_,i7 hi⟩;rw[show(aL.map pD).getD i .aY=.tup [.int (x.1:Int),.int (x.2:Int)] by rw[c6,x3,hx];rfl];walk_at "rx";rw[show decide (cZ wn=Str.ofString "loses")=!wn by cases wn <;> decide+kernel];refine bH (λ hz=>?_) (λ hz=>?_)
    ·walk_at "rx";refine⟨rfl,ls++[(i:Int)],by rw[B0];rfl,L.yes hx (B5 ?_)⟩;cases wn <;> simp at hz ⊢ <;> omega
    ·refine⟨rfl,ls,rfl,L.no hx (A4 ?_)⟩;cases wn <;> simp at hz ⊢ <;> omega
   ·obtain⟨rfl,ls,rfl,L⟩:=h;rw[dM,A8]at L;walk_at "rx";exact ax (k _ rows ls _ TG (by omega) (by rw[el];exact L.PM) (Ik (λ s hs=>(qN.mp hs).1) X.ex el L) X.ext)
end
section
variable {P:Program}{w:World}{K:J8}{mg:Str->Option Value}{base:Heap}
theorem uC:cu ["self"] ["self"] (aq (qT 2)):=⟨rfl,rfl,rfl,by decide+kernel,rfl,by decide+kernel,by decide+kernel⟩
theorem uY{fd:FuncData}(F:fg K "__init__" "TooMany.__init__" (qT 2) 41 fd)(T:iE K mg):aX P w K mg base di 1 41 fd ["self"] (Kh 44):=by
 refine F.ok uC (λ vs H Q E h=>?_) (λ bQ A outer s H vs Q E hr h=>?_)
 ·obtain⟨e,t,rfl,_⟩:=h;rfl
 ·obtain⟨e,t,rfl,he,k⟩:=h;refine⟨_,jj (qF (sO (by rfl) T.gE T.jB (bU (pv 0) gB))),?_⟩;exact⟨.ref e,rfl,e,_,_,t,[],rfl,he,T.bR.ec,by simp,λ t1=>k t1⟩
theorem nN(T:iE K mg):Ep P w K mg base 1 "TooMany" 44:=by obtain⟨fd,F⟩:=T.bR.F;exact⟨T.bR.m,_,fd,_,T.bR.ec,uY F T,F.binds λ _ _ _ _ _ _=>TY λ _=>rfl⟩
theorem Bf:cu ["self","counts"] ["self","counts"] (aq (qT 5)):=⟨rfl,rfl,rfl,by decide+kernel,rfl,by decide+kernel,by decide+kernel⟩
theorem Ct{fd:FuncData}(F:fg K "__init__" "Wrong.__init__" (qT 5) 98 fd)(T:iE K mg):aX P w K mg base di 1 98 fd ["self","counts"] (S9 101 [Str.ofString "counts"]):=by
 refine F.ok Bf (λ vs H Q E h=>?_) (λ bQ A outer s H vs Q E hr h=>?_)
 ·obtain⟨e,t,us,rfl,hl,_⟩:=h;rw[y9,hl];rfl
 ·obtain⟨e,t,us,rfl,hl,he,k⟩:=h;obtain⟨u,rfl⟩:=WR hl;refine⟨_,sN (qF (sO (by rfl) T.gE T.jB (bU (pv 0) (bU (pv 1) gB)))) (jj (O1 (pv 0) (pv 1))),?_⟩;refine⟨.ref e,rfl,u,rfl,e,_,_,t,[u],rfl,he,T.cO.ec,by simp,λ t1=>?_⟩;refine⟨u,rfl,.ref e,rfl,e,_,_,t1,rfl,T.cO.ec,T.cO.VG (by simp),.inl ⟨aD,λ dx hd ne=>?_⟩⟩;have z:=k t1 dx (by rw[ar ne]at hd;exact hd) ne;rw[lK];exact z
theorem DO(T:iE K mg):JN P w K mg base 1 "Wrong" 101 [Str.ofString "counts"]:=by obtain⟨fd,F⟩:=T.cO.F;exact⟨T.cO.m,_,fd,_,T.cO.ec,Ct F T,F.binds λ _ _ _ _ _ _=>ln2 λ _ _=>rfl⟩
end
def rW:tX:=λ ds M Q E=>∃(m:Nat) (rows:List Row) (ls:Row) (gs:Gs) (w:Bool),ds=[oJ gs,.str (cZ w),fu rows ls]/\Ak M/\lD m gs.length rows/\m<=30/\(∀e∈gs,e.2<=1)/\∀(told:List (Cs×Pa)) (M':Mem),iQ (dU rows m gs) (0,[]) gs.length 401 told->Ext M M'->
 (∀e,(told.take 400).find? (λ e=>!oF w ls e.2)=some e->E 101 [(Str.ofString "counts",tN e.1)] M')/\((told.take 400).find? (λ e=>!oF w ls e.2)=none->(400 < told.length->E 44 [] M')/\(told.length<=400->Q (.bl true) M'))
def AX:tX:=λ ds M Q E=>∃(m:Nat) (rows:List Row) (ls:Row) (gs:Gs),ds=[oJ gs,fu rows ls]/\Ak M/\lD m gs.length rows/\m<=30/\(∀e∈gs,e.2<=1)/\∀(told:List (Cs×Pa)) (M':Mem),iQ (dU rows m gs) (0,[]) gs.length 401 told->Ext M M'->
 (400 < told.length->E 44 [] M')/\(told.length<=400->∀p,M p=none->M' p=some (.lst (told.map (eO eM)))->Q (.ref p) M')
def Je:tX:=λ ds M Q E=>∃(m:Nat) (rows:List Row) (ls:Row) (gs:Gs) (w:Bool),ds=[oJ gs,.str (cZ w),fu rows ls]/\Ak M/\lD m gs.length rows/\m<=30/\(∀e∈gs,e.2<=1)/\(∀(told:List (Cs×Pa)),iQ (dU rows m gs) (0,[]) gs.length 401 told->400 < told.length/\(told.take 400).find? (λ e=>!oF w ls e.2)=none)/\∀M',Ext M M'->E 44 [] M'
theorem iQ.Tt {m h k:Nat}{rows:List Row}{gs:Gs}{told:List (Cs×Pa)}(G:lD m h rows)(F:iQ (dU rows m gs) (0,[]) h k told):∀e∈told,Al m e.2:=λ e he=>by have:=F.gI.ent e he;rw[<- this.2];exact(eA (gs:=gs) G).iq e.1 0 (0,[]) (by rw[this.1.1];omega) ⟨G.tb.pos,(vP m).symm⟩
theorem FW{ds:List D}{M:Mem}{Q:bu}(q:Q (.bl true) M):vM true (.tup ds) .aY M Q:=q
theorem FX{M:Mem}{Q:bu}(q:Q (.bl false) M):vM true .aY .aY M Q:=q
theorem Al.len {m:Nat}{p:Pa}(h:Al m p):p.2.length<=m:=by rw[h.2];exact D' m p.2
section
variable {P:Program}{w:World}{K:J8}{mg:Str->Option Value}{base:Heap}
theorem L8{f:Addr}{fd:FuncData}(F:fg K "let_by" "let_by" (top 26) f fd)(T:iE K mg)(eQ:cR P w K mg base 8 "first_pairs" ["game","table","most"] Ki)(oN:cR P w K mg base 3 "first_wrong" ["last","losing","found"] Ox):aX P w K mg base (ow P w) 9 f fd ["game","last","table"] (kI K rW):=by
 have Im:=DO (P:=P) (w:=w) (base:=base) T;have kh:=nN (P:=P) (w:=w) (base:=base) T;refine Tw F ["game","last","table","found","wrong"] (λ bQ A outer s H E ds M Q E2 nd hr h kx=>?_)
 ·obtain⟨m,rows,ls,gs,w,rfl,hT,G,hm,h1,k⟩:=h;have R':bf 2 _:=hr.mono (by decide);have vw:fu rows ls=.tup [.tup (rows.map row),row ls]:=rfl;refine⟨_,(aa (aE 3 (iW (bC eQ (yu (ao 0) (ao 2) (bq bw (mz T.cK) ag)))))
 (aa (aE 4 (iW (bC oN (yu (ao 1) (aO aM (ao 2) ag) (iV sf (ao 3) iU (lH (mz T.cK)))))))
 (aa (cG (um (aQ Ma (ao 4) wj))
 (ai (Ay kq kx rfl (by rfl) Im R' (bS (iW (ao 4)))))
 bA)
 (aa (cG (um (aQ yY (bo dW T.len (bS (ao 3))) (mz T.cK)))
 (ai (o_ kq kx rfl (by rfl) kh R'))
 bA)
 (ai (aJ (iW kY))))))),?_⟩
  walk_at "rx";refine⟨m,401,rows,ls,gs,rfl,hT,G,hm,by decide,by decide,h1,λ p told M1 hp oE hF E1=>?_⟩;have Ur:=λ e he=>(hF.Tt G e he).len;have k:=λ M'=>k told M' hF;walk_at "rx";rw[vw];walk_at "rx";refine jU oE (by decide) λ q hq=>?_;rw[<- map_take,take_take,show min (Int.toNat 400) 401=400 from rfl];have E2:=E1.new hq (.lst ((told.take 400).map (eO eM)));have q2:af M1 q (.lst ((told.take 400).map (eO eM))) q=some (.lst ((told.take 400).map (eO eM))):=ae;have p2:af M1 q (.lst ((told.take 400).map (eO eM))) p=some (.lst ((told.take 401).map (eO eM))):=by rw[ak (aZ oE hq)];exact oE
  generalize af M1 q (.lst ((told.take 400).map (eO eM)))=M2 at*;walk_at "rx";refine⟨w,ls,q,told.take 400,rfl,q2,λ e he=>D3 (Ur e (mem_of_mem_take he)) hm,?_⟩;obtain⟨k1,k2⟩:=k M2 E2;have TV:(told.take 401).length=min 401 told.length:=z7;cases hf:(told.take 400).find? (λ e=>!oF w ls e.2)with
  |some e=>rw[show Ih w ls (told.take 400)=.tup (e.1.map nD) by unfold Ih;rw[hf];rfl];walk_at "rx";refine FW ?_;walk_at "rx";exact⟨rfl,by decide,k1 e hf⟩
  |none=>
   rw[show Ih w ls (told.take 400)=.aY by unfold Ih;rw[hf]];obtain⟨k3,k4⟩:=k2 hf;walk_at "rx";refine FX ?_;walk_at "rx";rw[A8,TV];refine bH (λ hz=>?_) (λ hz=>?_)
   ·walk_at "rx";exact k3 (by omega)
   ·walk_at "rx";exact ax (k4 (by omega))
theorem L6{f:Addr}{fd:FuncData}(F:fg K "pairs" "pairs" (top 21) f fd)(T:iE K mg)(eQ:cR P w K mg base 8 "first_pairs" ["game","table","most"] Ki):aX P w K mg base (ow P w) 9 f fd ["game","table"] (kI K AX):=by
 have kh:=nN (P:=P) (w:=w) (base:=base) T;refine Tw F ["game","table","told"] (λ bQ A outer s H E ds M Q E2 nd hr h kx=>?_)
 ·obtain⟨m,rows,ls,gs,rfl,hT,G,hm,h1,k⟩:=h;have R':bf 2 _:=hr.mono (by decide);refine⟨_,(aa (aE 2 (iW (bC eQ (yu (ao 0) (ao 1) (bq bw (mz T.cK) ag)))))
 (aa (cG (um (aQ yY (bo dW T.len (bS (ao 2))) (mz T.cK)))
 (ai (o_ kq kx rfl (by rfl) kh R'))
 bA)
 (ai (aJ (iW (ao 2)))))),?_⟩
  walk_at "rx";refine⟨m,401,rows,ls,gs,rfl,hT,G,hm,by decide,by decide,h1,λ p told M1 hp oE hF E1=>?_⟩;obtain⟨k1,k2⟩:=k told M1 hF E1;have TV:(told.take 401).length=min 401 told.length:=z7;walk_at "rx";rw[A8,TV];refine bH (λ hz=>?_) (λ hz=>?_)
  ·walk_at "rx";exact k1 (by omega)
  ·walk_at "rx";refine ax (k2 (by omega) p hp ?_);rw[j6 (by omega)]at oE;exact oE
theorem L7{f:Addr}{fd:FuncData}(F:fg K "paper_of" "paper_of" (top 28) f fd)(T:iE K mg)(c_:gU P w K mg base 9 "let_by" ["game","last","table"] rW):aX P w K mg base (ow P w) 10 f fd ["game","last","table"] (kI K Je):=by
 refine Tw F ["game","last","table"] (λ bQ A outer s H E ds M Q E2 nd hr h kx=>?_)
 ·obtain⟨m,rows,ls,gs,w,rfl,hT,G,hm,h1,vy,k⟩:=h;refine⟨_,(aa (cX (AF D_ kx c_ (yu (iW (ao 0)) (iW (ao 1)) (iW (ao 2)))))
 yq),?_⟩
  walk_at "rx";refine⟨m,rows,ls,gs,w,rfl,hT,G,hm,h1,λ told M1 hF E1=>?_⟩;obtain⟨a,b⟩:=vy told hF;exact⟨λ e he=>(by rw[b]at he;cases he),λ _=>⟨λ _=>k M1 E1,λ z=>absurd a (by omega)⟩⟩
end
def Oy:gc:=λ ds M Q=>∃(pg:Addr) (m:Nat) (rows:List Row) (ls:Row) (gs:Gs),ds=[.ref pg,fu rows ls]/\M pg=some (.lst (gs.map λ e=>nD e.2))/\lD m gs.length rows/\m<=30/\gs.length<=6/\(∀e∈gs,e.2<=1)/\∀(A:List Pa) (M':Mem),A.Nodup->(∀p∈A,uf rows m gs.length gs p)->(A.length<=400->∀p,uf rows m gs.length gs p->p∈A)->Ext M M'->Q (.int (A.length:Nat)) M'
abbrev Cn(A:List Pa):List (D×D):=jM eM (A.map λ e=>(e,.bl true))
theorem lR(A:List Pa):(Cn A).length=A.length:=by simp[jM]
theorem qI(A:List Pa):(A.map λ e=>(e,D.bl true)).map (·.1)=A:=by rw[D1];exact List.map_id A
structure N5(rows:List Row)(m h:Nat)(gs:Gs)(A B:List Pa):Prop where
 nd:A.Nodup
 Jh:∀p∈A,uf rows m h gs p
 sub:∀p∈B,p∈A
 iS:(0,[])∈A
 cl:∀p∈A,p∉B->∀i,i < h->dU rows m gs i p∈A
structure oV(rows:List Row)(m h:Nat)(gs:Gs)(A B:List Pa)(p:Pa)(j:Nat):Prop where
 nd:A.Nodup
 Jh:∀p∈A,uf rows m h gs p
 sub:∀p∈B,p∈A
 iS:(0,[])∈A
 mem:p∈A
 cl:∀q∈A,q∉B->q≠p->∀i,i < h->dU rows m gs i q∈A
 own:∀i,i < j->dU rows m gs i p∈A
theorem N5.pop {rows:List Row}{m h:Nat}{gs:Gs}{A B:List Pa}{p:Pa}(d:N5 rows m h gs A (B++[p])):oV rows m h gs A B p 0:=
 ⟨d.nd,d.Jh,λ q hq=>d.sub q (m9 _ hq),d.iS,d.sub p (by simp),λ q hq hn ne i hi=>d.cl q hq (by simp[hn,ne]) i hi,λ i hi=>absurd hi (by omega)⟩
theorem oV.old {rows:List Row}{m h:Nat}{gs:Gs}{A B:List Pa}{p:Pa}{j:Nat}(d:oV rows m h gs A B p j)(oG:dU rows m gs j p∈A):oV rows m h gs A B p (j+1):=
 ⟨d.nd,d.Jh,d.sub,d.iS,d.mem,d.cl,λ i hi=>if e:i=j then by rw[e];exact oG else d.own i (by omega)⟩
theorem oV.new {rows:List Row}{m h:Nat}{gs:Gs}{A B:List Pa}{p:Pa}{j:Nat}(G:lD m h rows)(d:oV rows m h gs A B p j)(hj:j < h)(oG:dU rows m gs j p∉A):oV rows m h gs (A++[dU rows m gs j p]) (B++[dU rows m gs j p]) p (j+1):=by
 have up:∀{q},q∈A->q∈A++[dU rows m gs j p]:=λ h=>m9 _ h;refine⟨nodup_append.mpr ⟨d.nd,by simp,λ a ha b hb z=>oG (by rw[<- u4.mp hb,<- z];exact ha)⟩,λ q hq=>?_,λ q hq=>?_,up d.iS,up d.mem,λ q hq hn ne i hi=>?_,λ i hi=>?_⟩
 ·rcases A9.mp hq with z|z
  ·exact d.Jh q z
  ·rw[u4.mp z];exact(d.Jh p d.mem).next G hj
 ·rcases A9.mp hq with z|z
  ·exact up (d.sub q z)
  ·rw[u4.mp z];simp
 ·rcases A9.mp hq with z|z
  ·exact up (d.cl q z (λ w=>hn (m9 _ w)) ne i hi)
  ·exact absurd (k9 B z) hn
 ·by_cases e:i=j
  ·rw[e];simp
  ·exact up (d.own i (by omega))
theorem oV.done {rows:List Row}{m h:Nat}{gs:Gs}{A B:List Pa}{p:Pa}(d:oV rows m h gs A B p h):N5 rows m h gs A B:=
 ⟨d.nd,d.Jh,d.sub,d.iS,λ q hq hn i hi=>if e:q=p then by rw[e];exact d.own i hi else d.cl q hq hn e i hi⟩
section
variable {P:Program}{w:World}{K:J8}{mg:Str->Option Value}{base:Heap}
theorem Pq{f:Addr}{fd:FuncData}(F:fg K "_law_counted_pairs" "_law_counted_pairs" (top 36) f fd)(T:iE K mg):aX P w K mg base di 1 f fd ["_law_goes","_law_table"] (cw K Oy):=by
 refine oC F ["_law_goes","_law_table","_law_found","_law_left","_law_h","_law_x","_law_leads","_law_later","_law_pair"] (λ bQ A outer s H E ds M Q nd hr h=>?_)
 ·obtain⟨pg,m,rows,ls,gs,rfl,hg,G,hm,hh,h1,k⟩:=h;have vw:fu rows ls=.tup [.tup (rows.map row),row ls]:=rfl;rw[vw];refine⟨_,(aa (aE 2 (Fc hr.units (aU (eT ag (aU bg))) kY))
 (aa (aE 3 (cC (bS (aU (eT ag (aU bg))))))
 (aa (gf (uk (aQ yY (bo ku T.len (bS (ao 3))) ag) (qo (aQ TC (bo ku T.len (bS (ao 2))) ag))).pt
 (aa (df (IY i9 PySem.F.slot_list_pop PySem.F.type_list_pop Js (ao 3)) (jO (n:=2) (bB (bj 5) (bB (bj 6) gX))))
 (ai (fj (b_ T.range (bS (bo ku T.len (bS (ao 0))))) (bj 4)
 (aa (aE 7 (bq bw (iF (yr [1,4] (dO (ao 6)) cp (aO (dj hr.units) (aO (dj hr.units) (aO (dj hr.units) (ao 1) ag) (ao 0)) (ao 2)))) (bq eN (cC (bS (ao 5))) (aO (dj hr.units) (ao 0) (ao 4)))))
 (aa (aE 8 (aU (eT (aO (dj hr.units) (aO (dj hr.units) (aO (dj hr.units) (ao 1) ag) (ao 5)) (ao 4)) (dA eE T.tuple (bS (AE rfl (by rfl) T.sorted (by rfl) T.set (bS (ao 7))))))))
 (ai (cG (aQ (m_ hr.units) (ao 8) (ao 2))
 (aa (df kY (fk (ao 2) (ao 8) (uE hr.units)))
 (ai (cX (mB i9 i6 i8 cI (ao 3) (bS (ao 8))))))
 bA))))))))
 (ai (aJ (bo ku T.len (bS (ao 2)))))))),?_⟩
  walk_at "rx";intro p hp;walk_at "rx";refine⟨ae,qQ (0,[]),?_⟩;rw[cD];have E1:Ext M (af M p (.bI true [(.tup [.int 0,.tup []],.bl true)])):=Ext.new Ext.rfl hp _;have p1:af M p (.bI true [(.tup [.int 0,.tup []],.bl true)]) p=some (.bI true (Cn [(0,[])])):=ae;generalize af M p (.bI true [(.tup [.int 0,.tup []],.bl true)])=M1 at*;walk_at "rx";intro q hq;have Sa:=E1.free hq;have pq:p≠q:=aZ p1 hq;have E2:=E1.new hq (.lst [.tup [.int 0,.tup []]]);have p2:af M1 q (.lst [.tup [.int 0,.tup []]]) p=some (.bI true (Cn [(0,[])])):=by rw[ak pq];exact p1
  have q2:af M1 q (.lst [.tup [.int 0,.tup []]]) q=some (.lst ([((0,[]):Pa)].map eM)):=ae;generalize af M1 q (.lst [.tup [.int 0,.tup []]])=M2 at*;clear E1 p1 hq M1;have D0:N5 rows m gs.length gs [(0,[])] [(0,[])]:=⟨by simp,λ p hp=>(by rw[u4.mp hp];exact uf.zero _ _ _ _),λ p hp=>hp,by simp,λ p hp hn=>absurd hp hn⟩;walk_at "rx";refine gz ⟨λ me δ M'=>∃(v4 v5 v6 v7 v8:Option D) (A B:List Pa),δ=[some (.ref pg),some (.tup [.tup (rows.map row),row ls]),some (.ref p),some (.ref q),v4,v5,v6,v7,v8]/\M' p=some (.bI true (Cn A))/\M' q=some (.lst (B.map eM))/\N5 rows m gs.length gs A B/\A.length<=406/\B.length<=A.length/\Ext M M'/\me=2*(410 - A.length)+B.length,⟨_,none,none,none,none,none,_,_,rfl,p2,q2,D0,by decide,by decide,E2,rfl⟩,?_⟩;clear E2 p2 q2 D0 M2;rintro me δ M1 ⟨v4,v5,v6,v7,v8,A,B,rfl,p1,q1,DD,la,lb,E1,rfl⟩;walk_at "rx";refine je (jd q1 ?_);rw[A8];walk_at "rx";have stop:(B=[]\/400 < A.length)->fin2 Q (.int (A.length:Nat)) M1:=λ hs=>ax (k A M1 DD.nd DD.Jh (λ hl p hp=>by
   rcases hs with rfl|z
   ·exact KA G DD.iS (λ p hp i hi=>DD.cl p hp (by simp) i hi) hp
   ·omega) E1)
  refine bH (λ hB=>?_) (λ hB=>?_)
  ·refine jc (sv (BI (hG (dS rfl (iI (qB p1 ?_))))));rw[lR];walk_at "rx";refine bH (λ hA=>?_) (λ hA=>?_)
   ·obtain⟨B',c,rfl⟩:∃B' c,B=B'++[c]:=⟨_,_,(dropLast_concat_getLast (λ z=>by rw[z]at hB;simp at hB)).symm⟩;rw[r6,l0]at lb;refine⟨λ δ' M'=>∃(v4 v5 v6 v7 v8:Option D) (A2 B2:List Pa),δ'=[some (.ref pg),some (.tup [.tup (rows.map row),row ls]),some (.ref p),some (.ref q),v4,v5,v6,v7,v8]/\M' p=some (.bI true (Cn A2))/\M' q=some (.lst (B2.map eM))/\N5 rows m gs.length gs A2 B2/\A2.length<=406/\A.length+B2.length=A2.length+B'.length/\A.length<=A2.length/\Ext M M',?_,?_⟩
    ·rintro δ' M' ⟨v4,v5,v6,v7,v8,A2,B2,rfl,a1,a2,a3,a4,a5,a6,a7⟩;exact⟨_,by rw[r6,l0];omega,v4,v5,v6,v7,v8,A2,B2,rfl,a1,a2,a3,a4,by omega,a7,rfl⟩
    have DI:=DD.pop;have cS:=(DI.Jh c DI.mem).Tt G;have hl:c.2.length<=30:=D3 cS.len hm;walk_at "rx";refine⟨⟨rfl,_,q1⟩,?_⟩;walk_at "rx";refine Bw (ds:=B'.map eM) (y:=.tup [.int c.1,.tup (c.2.map nD)]) (by rw[q1,B0];rfl) ?_;have p1:af M1 q (.lst (B'.map eM)) p=some (.bI true (Cn A)):=by rw[ak pq];exact p1
    have q1:af M1 q (.lst (B'.map eM)) q=some (.lst (B'.map eM)):=ae;have E1:Ext M (af M1 q (.lst (B'.map eM))):=E1.own Sa;generalize af M1 q (.lst (B'.map eM))=M3 at*;have g3:=E1 _ _ hg;walk_at "rx";refine je (jd g3 ?_);rw[A8];walk_at "rx";refine⟨fH (by omega) (by omega),?_⟩;rw[x4];refine iL (λ i δ M'=>∃(v4 v7 v8:Option D) (A2 B2:List Pa),δ=[some (.ref pg),some (.tup [.tup (rows.map row),row ls]),some (.ref p),some (.ref q),v4,some (.int c.1),some (.tup (c.2.map nD)),v7,v8]/\M' p=some (.bI true (Cn A2))/\M' q=some (.lst (B2.map eM))/\oV rows m gs.length gs A2 B2 c i/\A2.length<=400+i/\A.length+B2.length=A2.length+B'.length/\A.length<=A2.length/\Ext M M') ⟨v4,v7,v8,A,B',rfl,p1,q1,DI,by omega,rfl,D8 _,E1⟩ (λ i d δ M4 hd h=>?_) (λ δ M4 h=>?_)
    ·clear p1 q1 E1 DI g3 DD;obtain⟨v4,v7,v8,A2,B2,rfl,p1,q1,DI,VN,l1,l2,E1⟩:=h;obtain⟨hi,rfl⟩:=dF hd;rw[C6];have g3:=E1 _ _ hg;walk_at "rx";refine fL (λ j acc M5=>acc=((c.2.take j).map (a_ rows i)).map nD/\M5=M4) ⟨rfl,rfl⟩ (λ j acc M5 hj h=>?_) (λ j d acc M5 hd h=>?_) (λ acc M5 h=>?_)
     ·rw[h.1,A8,A8,z7];exact small (by omega)
     ·obtain⟨rfl,rfl⟩:=h;rw[x3]at hd;obtain⟨y,hy,rfl⟩:=Option.map_eq_some_iff.mp hd;have P':=cS.lt (m8 hy);obtain⟨r1,_⟩:=iH G.tb P';walk_at "rx";refine bT (bM (d:=.tup (rows.map row)) rfl ?_);walk_at "rx";refine bT (bM r1 ?_);walk_at "rx";refine bT (bM (mQ G.tb P' hi) ?_);exact⟨by rw[take_add_one,hy,B0,B0];rfl,rfl⟩
     ·obtain⟨rfl,rfl⟩:=h;rw[A8,z4];intro n hn;have E2:=E1.new hn (.lst ((c.2.map (a_ rows i)).map nD));have X2:Ext M5 (af M5 n (.lst ((c.2.map (a_ rows i)).map nD))):=Ext.new Ext.rfl hn _;have n2:af M5 n (.lst ((c.2.map (a_ rows i)).map nD)) n=some (.lst ((c.2.map (a_ rows i)).map nD)):=ae;generalize af M5 n (.lst ((c.2.map (a_ rows i)).map nD))=M6 at*;walk_at "rx";intro a ha;have X3:=X2.new ha (.lst [.int c.1]);have n3:af M6 a (.lst [.int c.1]) n=some (.lst ((c.2.map (a_ rows i)).map nD)):=by rw[ak (aZ n2 ha)];exact n2
      have a3:af M6 a (.lst [.int c.1]) a=some (.lst [.int c.1]):=ae;have E3:=E2.new ha (.lst [.int c.1]);generalize af M6 a (.lst [.int c.1])=M7 at*;have ge:(gs.getD i default)=gs[i]:=by rw[c6,i7 hi];rfl
      have g1:(gs.getD i default).2<=1:=by rw[ge];exact h1 _ (z8 hi)
      walk_at "rx";refine bT (bV (X3 _ _ g3) (d:=.int ((gs.getD i default).2:Nat)) (bt (by rw[x3,i7 hi,ge];rfl)) ?_);refine sx a3 (by omega) (by omega) λ b hb=>?_;rw[x4];have X4:=X3.new hb (.lst ((List.replicate (gs.getD i default).2 c.1).map nD));have n4:af M7 b (.lst ((List.replicate (gs.getD i default).2 c.1).map nD)) n=some (.lst ((c.2.map (a_ rows i)).map nD)):=by rw[ak (aZ n3 hb)];exact n3
      have b4:af M7 b (.lst ((List.replicate (gs.getD i default).2 c.1).map nD)) b=some (.lst ((List.replicate (gs.getD i default).2 c.1).map nD)):=ae;have E4:=E3.new hb (.lst ((List.replicate (gs.getD i default).2 c.1).map nD));rw[show List.replicate (gs.getD i default).2 (D.int (c.1:Nat))=(List.replicate (gs.getD i default).2 c.1).map nD by rw[map_replicate]];generalize af M7 b (.lst ((List.replicate (gs.getD i default).2 c.1).map nD))=M8 at*;have hsz:(c.2.map (a_ rows i)++List.replicate (gs.getD i default).2 c.1).length<=31:=by rw[r6,A8,l8];omega
      refine mU n4 b4 (by rw[<- r6,<- B0,A8];exact small (by omega)) λ e he=>?_;rw[<- B0];have hP:dU rows m gs i c=(a_ rows i c.1,cn m (c.2.map (a_ rows i)++List.replicate (gs.getD i default).2 c.1)):=rfl;have Qs:∀y∈c.2.map (a_ rows i)++List.replicate (gs.getD i default).2 c.1,y < m:=λ y hy=>by
       rw[A9,C9,fE]at hy;rcases hy with⟨u,hu,rfl⟩|⟨_,rfl⟩
       ·exact G.tb.gi hi _ (cS.lt hu)
       ·exact cS.1
      generalize c.2.map (a_ rows i)++List.replicate (gs.getD i default).2 c.1=l at*;have X5:=X4.new he (.lst (l.map nD));have E5:=E4.new he (.lst (l.map nD));have e5:af M8 e (.lst (l.map nD)) e=some (.lst (l.map nD)):=ae;generalize af M8 e (.lst (l.map nD))=M9 at*;obtain⟨r1,_⟩:=iH G.tb cS.1;walk_at "rx";refine bT (bM (d:=.tup (rows.map row)) rfl ?_);walk_at "rx";refine bT (bM r1 ?_);walk_at "rx";refine bT (bM (mQ G.tb cS.1 hi) ?_);walk_at "rx";refine⟨_,l.map λ(x:Nat)=>(x:Int),rfl,by rw[dR e5,D1];rfl,by rw[A8];omega,λ ns g h1 h2 V9=>?_⟩;rw[AQ Qs h1 h2];have X6:=X5.new V9 (.lst ((cn m l).map nD));have E6:=E5.new V9 (.lst ((cn m l).map nD));have g6:af M9 g (.lst ((cn m l).map nD)) g=some (.lst ((cn m l).map nD)):=ae;generalize af M9 g (.lst ((cn m l).map nD))=EM at*;walk_at "rx";refine eY g6 ?_;walk_at "rx";have ep:D.tup [D.int ((a_ rows i c.1:Nat):Int),D.tup ((cn m l).map nD)]=eM (dU rows m gs i c):=by rw[hP];rfl
      rw[ep];have p6:=X6 _ _ p1;have q6:=X6 _ _ q1;walk_at "rx";refine jV p6 (qQ _) ?_;by_cases oG:dU rows m gs i c∈A2
      ·rw[show(!(cj (Cn A2) (eM (dU rows m gs i c))).isSome)=false by
        rw[jZ (x:=dU rows m gs i c) (d:=.bl true) lS (by rw[qI];exact DI.nd) (C9.mpr ⟨_,oG,rfl⟩)];rfl]
       walk_at "rx";exact⟨_,_,_,A2,B2,rfl,p6,q6,DI.old oG,by omega,l1,l2,E6⟩
      ·rw[show(!(cj (Cn A2) (eM (dU rows m gs i c))).isSome)=true by
        rw[ia lS (by rw[qI];exact oG)];rfl]
       walk_at "rx";refine qy p6 (qQ _) (by rw[lR];exact u0 (show A2.length<=1000 by omega) (by decide)) ?_;rw[qE lS _ (by rw[qI];exact oG)];have E7:Ext M (af EM p (.bI true (jM eM (A2.map (λ e=>(e,D.bl true))++[(dU rows m gs i c,.bl true)])))):=E6.own hp;have p7:af EM p (.bI true (jM eM (A2.map (λ e=>(e,D.bl true))++[(dU rows m gs i c,.bl true)]))) p=some (.bI true (Cn (A2++[dU rows m gs i c]))):=by rw[ae];unfold Cn;rw[B0];rfl
       have q7:af EM p (.bI true (jM eM (A2.map (λ e=>(e,D.bl true))++[(dU rows m gs i c,.bl true)]))) q=some (.lst (B2.map eM)):=by rw[ak (H9 pq)];exact q6
       generalize af EM p (.bI true (jM eM (A2.map (λ e=>(e,D.bl true))++[(dU rows m gs i c,.bl true)])))=WJ at*;walk_at "rx";refine⟨⟨rfl,_,q7⟩,?_⟩;walk_at "rx";refine fz q7 (by rw[A8];exact u0 (show B2.length<=1000 by omega) (by decide)) ?_;refine⟨_,_,_,A2++[dU rows m gs i c],B2++[dU rows m gs i c],rfl,by rw[ak pq];exact p7,by rw[ae,B0];rfl,DI.new G hi oG,?_,?_,?_,E7.own Sa⟩
       ·rw[r6,l0];omega
       ·rw[r6,r6,l0];omega
       ·rw[r6];omega
    ·obtain⟨v4,v7,v8,A2,B2,rfl,p1,q1,DI,VN,l1,l2,E1⟩:=h;rw[bN]at DI VN;exact⟨_,_,_,_,_,A2,B2,rfl,p1,q1,DI.done,by omega,l1,l2,E1⟩
   ·walk_at "rx";refine qB p1 ?_;rw[lR];exact stop (.inr (by omega))
  ·walk_at "rx";refine qB p1 ?_;rw[lR];exact stop (.inl (by cases B with|nil=>rfl|cons=>simp at hB))
end
def AZ:gc:=λ ds M Q=>∃(f:Addr) (n:Nat),ds=[.ref f,.int n]/\n<=12/\∀(p:Addr) (zs:List Str),zs.length=n->M p=none->Q (.ref p) (af M p (.lst (zs.map D.str)))
def WG(M':Mem)(f:Addr)(gs:Gs)(pg pw:Addr)(ws:Cs)(w:Nat):Prop:=4<=gs.length/\gs.length<=6/\(∀e∈gs,e.2<=1)/\M' pg=some (.lst (gs.map λ e=>nD e.2))/\M' pw=some (.lst (ws.map nD))/\ws.length=gs.length/\0 < w/\w<=10
def A_:gc:=λ ds M Q=>∃(f c p:Addr) (zs:List Str),ds=[.ref f,.ref p]/\Flow M f c/\M p=some (.lst (zs.map D.str))/\4<=zs.length/\zs.length<=6/\∀(gs:Gs) (pg pw:Addr) (ws:Cs) (w:Nat) (M':Mem),WG M' f gs pg pw ws w->Fl f c M M'->Q (.tup [oJ gs,.ref pg,.ref pw,.int w]) M'
def Ou:gc:=λ ds M Q=>∃(f c:Addr),ds=[.ref f]/\Flow M f c/\∀(gs:Gs) (pg pw:Addr) (ws:Cs) (w:Nat) (M':Mem),WG M' f gs pg pw ws w->Fl f c M M'->Q (.tup [oJ gs,.ref pg,.ref pw,.int w]) M'
theorem mX{f c:Addr}{m:Int}{M:Mem}{Q:bu}(hF:Flow M f c)(h:0 < m)(h':m < 1073741824)(k:∀(d:Nat) M1,(d:Int) < m->Fl f c M M1->Q (.int d) M1):qt [.ref f,.int m] M Q:=⟨f,c,m,rfl,hF,h,h',λ d o h0 h1 YR=>by
 obtain⟨n,rfl⟩:∃n:Nat,d=(n:Int):=⟨d.toNat,by omega⟩;exact k n _ h1 (Fl.pick YR)⟩
section
variable {P:Program}{w:World}{K:J8}{mg:Str->Option Value}{base:Heap}
theorem Hs{f:Addr}{fd:FuncData}(F:fg K "_law_names" "_law_names" (top 32) f fd)(T:iE K mg):aX P w K mg base di 1 f fd ["_law_flow_here","_law_many"] (cw K AZ):=by
 refine oC F ["_law_flow_here","_law_many"] (λ bQ A outer s H E ds M Q nd hr h=>?_)
 ·obtain⟨f,n,rfl,hn,k⟩:=h;refine⟨_,(ai (aJ (iF (yr [] (b_ T.range (bS (ao 1))) cp (bq bw gh (aO aM gh (ao 0))))))),?_⟩;walk_at "rx";refine⟨fH (by omega) (by omega),?_⟩;rw[x4];refine fL (λ i acc M2=>∃zs:List Str,acc=zs.map D.str/\zs.length=i/\M2=M) ⟨[],rfl,rfl,rfl⟩ (λ i acc M2 hi h=>?_) (λ i d acc M2 hd h=>?_) (λ acc M2 h=>?_)
  ·obtain⟨zs,rfl,hz,_⟩:=h;rw[bN]at hi;rw[A8];exact small (by omega)
  ·obtain⟨zs,rfl,hz,rfl⟩:=h;obtain⟨hi,rfl⟩:=dF hd;rw[C6];have e12:(Str.ofString "abcdefghijkl").cps.toList.length=12:=by decide+kernel
   obtain⟨x,hx⟩:∃x,f' (Str.ofString "abcdefghijkl").cps.toList (i:Int)=some x:=⟨_,bt (i7 (by omega))⟩;walk_at "rx";refine KS (by decide+kernel) hx ?_;refine BJ (small (by show 1+1<=10000;decide)) ?_;exact⟨zs++[_],by rw[B0];rfl,by rw[r6,hz];rfl,rfl⟩
  ·obtain⟨zs,rfl,hz,rfl⟩:=h;rw[bN]at hz;intro p hp;walk_at "rx";exact ax (k p zs hz hp)
theorem Ht{f:Addr}{fd:FuncData}(F:fg K "_law_near_the_bound" "_law_near_the_bound" (top 33) f fd)(T:iE K mg)(bX:cR P w K mg base 1 "_law_pick" ["_law_flow_here","_law_many"] qt):aX P w K mg base di 2 f fd ["_law_flow_here","_law_names_here"] (cw K A_):=by
 refine oC F ["_law_flow_here","_law_names_here","_law_game"] (λ bQ A outer s H E ds M Q nd hr h=>?_)
 ·obtain⟨f,c,p,zs,rfl,hF,hp,h4,h6,k⟩:=h;refine⟨_,(aa (aE 1 (iV sf (bq bw (ao 1) (cC (bS gh))) iU (lH ag)))
 (aa (aE 2 (uo eE jP T.tuple (yr [] (dO (ao 1)) cp (aU (eT (ao 0) (aU (bS (bq eN (aU (bS ag)) ag))))))))
 (ai (aJ (aU (aA (ao 2) (aA (bq eN (cC (bS ag)) ag) (aA (aO aM (cC (eT (cC (aA ag (aA ag (aA ag (aA ag (aA ag bg)))))) (cC (aA ag (aA ag (aA ag (aA ag (aA ag bg)))))))) (bC bX (eT (ao 0) ag))) (aA ag bg))))))))),?_⟩
  walk_at "rx";intro a ha;have F1:=Fl.put (o:=.lst [.str (Str.ofString "five")]) hF ha;have p1:af M a (.lst [.str (Str.ofString "five")]) p=some (.lst (zs.map D.str)):=by rw[ak (aZ hp ha)];exact hp
  have a1:af M a (.lst [.str (Str.ofString "five")]) a=some (.lst ([Str.ofString "five"].map D.str)):=ae;generalize af M a (.lst [.str (Str.ofString "five")])=M1 at*;refine mU p1 a1 (by rw[A8];exact small (by simp;omega)) λ b hb=>?_;have F2:=F1.trans (Fl.put (o:=.lst (zs.map D.str++[Str.ofString "five"].map D.str)) F1.cU hb);have b2:af M1 b (.lst (zs.map D.str++[Str.ofString "five"].map D.str)) b=some (.lst (zs.map D.str++[Str.ofString "five"].map D.str)):=ae;generalize af M1 b (.lst (zs.map D.str++[Str.ofString "five"].map D.str))=M2 at*;walk_at "rx";refine jU b2 (by decide) λ d hd=>?_;rw[<- B0,<- map_take,show Int.toNat 5=5 from rfl];have l5:((zs++[Str.ofString "five"]).take 5).length=5:=by rw[z7,r6,l0];omega
  generalize(zs++[Str.ofString "five"]).take 5=ys at*;have F3:=F2.trans (Fl.put (o:=.lst (ys.map D.str)) F2.cU hd);have d3:af M2 d (.lst (ys.map D.str)) d=some (.lst (ys.map D.str)):=ae;generalize af M2 d (.lst (ys.map D.str))=M3 at*;clear hp p1 a1 b2 F1 F2;walk_at "rx";refine Eb (a:=d) (ds:=ys.map D.str) (λ i acc M4=>acc=(ys.take i).map (λ z=>.tup [.str z,.tup (List.replicate 1 (row (List.replicate 5 0)))])/\M4=M3) ⟨rfl,rfl⟩ (λ i acc M4 _ h=>?_) (λ i acc M4 hi h=>?_) (λ i e acc M4 he h=>?_) (λ acc M4 h=>?_)
  ·rw[h.2];exact d3
  ·rw[h.1,A8,z7];exact small (by omega)
  ·obtain⟨rfl,rfl⟩:=h;rw[x3]at he;obtain⟨z,hz,rfl⟩:=Option.map_eq_some_iff.mp he;walk_at "rx";refine gA (by decide) (by decide) ?_;walk_at "rx";exact⟨by rw[take_add_one,hz,B0];rfl,rfl⟩
  ·obtain⟨rfl,rfl⟩:=h;rw[A8,z4];have U2:D.tup (ys.map λ z=>.tup [.str z,.tup (List.replicate 1 (row (List.replicate 5 0)))])=oJ (ys.map λ z=>(z,1)):=by unfold oJ;rw[A8,l5,D1];rfl
   rw[U2];walk_at "rx";intro a2 YH;have F4:=F3.trans (Fl.put (o:=.lst [.int 1]) F3.cU YH);have a4:af M4 a2 (.lst [.int 1]) a2=some (.lst [.int 1]):=ae;generalize af M4 a2 (.lst [.int 1])=M5 at*;walk_at "rx";refine sx a4 (by decide) (by decide) λ pg NR=>?_;have F5:=F4.trans (Fl.put (o:=.lst (List.replicate (Int.toNat 5) (.int 1))) F4.cU NR);have g5:af M5 pg (.lst (List.replicate (Int.toNat 5) (.int 1))) pg=some (.lst ((ys.map λ z=>(z,1)).map λ e=>nD e.2)):=by rw[ae,D1];have:ys.map ((λ e:Str×Nat=>nD e.2)∘λ z=>(z,1))=ys.map λ _=>D.int 1:=rfl;rw[this,map_const',l5];rfl
   have gn:=(F4.cU.ne NR).1;generalize af M5 pg (.lst (List.replicate (Int.toNat 5) (.int 1)))=M6 at*;walk_at "rx";intro b1 UE;have F6:=F5.trans (Fl.put (o:=.lst [.int 0,.int 1,.int 2,.int 3,.int 6]) F5.cU UE);have g6:af M6 b1 (.lst [.int 0,.int 1,.int 2,.int 3,.int 6]) pg=some (.lst ((ys.map λ z=>(z,1)).map λ e=>nD e.2)):=by rw[ak (aZ g5 UE)];exact g5
   have b6:af M6 b1 (.lst [.int 0,.int 1,.int 2,.int 3,.int 6]) b1=some (.lst ([0,1,2,3,6].map nD)):=ae;generalize af M6 b1 (.lst [.int 0,.int 1,.int 2,.int 3,.int 6])=M7 at*;walk_at "rx";intro b2 Si;have F7:=F6.trans (Fl.put (o:=.lst [.int 0,.int 1,.int 3,.int 4,.int 5]) F6.cU Si);have g7:af M7 b2 (.lst [.int 0,.int 1,.int 3,.int 4,.int 5]) pg=some (.lst ((ys.map λ z=>(z,1)).map λ e=>nD e.2)):=by rw[ak (aZ g6 Si)];exact g6
   have b7:af M7 b2 (.lst [.int 0,.int 1,.int 3,.int 4,.int 5]) b1=some (.lst ([0,1,2,3,6].map nD)):=by rw[ak (aZ b6 Si)];exact b6
   have c7:af M7 b2 (.lst [.int 0,.int 1,.int 3,.int 4,.int 5]) b2=some (.lst ([0,1,3,4,5].map nD)):=ae;generalize af M7 b2 (.lst [.int 0,.int 1,.int 3,.int 4,.int 5])=M8 at*;walk_at "rx";intro b3 QP;have F8:=F7.trans (Fl.put (o:=.lst [.ref b1,.ref b2]) F7.cU QP);have g8:af M8 b3 (.lst [.ref b1,.ref b2]) pg=some (.lst ((ys.map λ z=>(z,1)).map λ e=>nD e.2)):=by rw[ak (aZ g7 QP)];exact g7
   have b8:af M8 b3 (.lst [.ref b1,.ref b2]) b1=some (.lst ([0,1,2,3,6].map nD)):=by rw[ak (aZ b7 QP)];exact b7
   have c8:af M8 b3 (.lst [.ref b1,.ref b2]) b2=some (.lst ([0,1,3,4,5].map nD)):=by rw[ak (aZ c7 QP)];exact c7
   have d8:af M8 b3 (.lst [.ref b1,.ref b2]) b3=some (.lst [.ref b1,.ref b2]):=ae;have bn:=(F5.cU.ne UE).1;have ZG:=(F6.cU.ne Si).1;have dn:=(F7.cU.ne QP).1;generalize af M8 b3 (.lst [.ref b1,.ref b2])=M9 at*;walk_at "rx";refine mX F8.cU (by decide) (by decide) λ k0 EM hk F9=>?_;have G9:=F8.trans F9;have fin:∀(q:Addr) (ws:Cs),EM q=some (.lst (ws.map nD))->ws.length=5->WG EM f (ys.map λ z=>(z,1)) pg q ws 8:=λ q ws h1 h2=>⟨by rw[A8];omega,by rw[A8];omega,λ e he=>by obtain⟨z,_,rfl⟩:=C9.mp he;exact D8 _,F9.mv _ _ gn g8,h1,by rw[h2,A8,l5],by decide,by decide⟩;have d9:=F9.mv _ _ dn d8
   match k0,hk with
   |0,_=>refine bV d9 (d:=.ref b1) rfl ?_;walk_at "rx";exact ax (k _ _ _ _ 8 _ (fin b1 [0,1,2,3,6] (F9.mv _ _ bn b8) rfl) G9)
   |1,_=>refine bV d9 (d:=.ref b2) rfl ?_;walk_at "rx";exact ax (k _ _ _ _ 8 _ (fin b2 [0,1,3,4,5] (F9.mv _ _ ZG c8) rfl) G9)
theorem Pk{f:Addr}{fd:FuncData}(F:fg K "_law_wide_game" "_law_wide_game" (top 34) f fd)(T:iE K mg)(bX:cR P w K mg base 1 "_law_pick" ["_law_flow_here","_law_many"] qt)(tJ:cR P w K mg base 1 "_law_names" ["_law_flow_here","_law_many"] AZ)(gP:cR P w K mg base 2 "_law_near_the_bound" ["_law_flow_here","_law_names_here"] A_):aX P w K mg base di 3 f fd ["_law_flow_here"] (cw K Ou):=by
 refine oC F ["_law_flow_here","_law_many","_law_names_here","_law_goes","_law_nothing_there","_law_game","_law_wide","_law_weights"] (λ bQ A outer s H E ds M Q nd hr h=>?_)
 ·obtain⟨f,c,rfl,hF,k⟩:=h;refine⟨_,(aa (aE 1 (bq bw ag (bC bX (eT (ao 0) ag))))
 (aa (aE 2 (bC tJ (eT (ao 0) (ao 1))))
 (aa (aE 3 (iF (yr [0] (b_ T.range (bS (ao 1))) cp (dA vW T.int (bS (fS yY (bC bX (eT (ao 1) ag)) ag))))))
 (aa (aE 4 (bq eN (aU (bS ag)) (ao 1)))
 (aa (aE 5 (uo eE jP T.tuple (yr [2,4,3] (b_ T.range (bS (ao 1))) cp (aU (eT (aO aM (ao 1) (ao 0)) (bq eN (aU (bS (ao 2))) (aO aM (ao 3) (ao 0))))))))
 (aa (aE 6 (bq bw ag (bC bX (eT (ao 0) ag))))
 (aa (mw 7 (yr [0,6] (b_ T.range (bS (ao 1))) cp (bq gC (aO aM (cC (eT (ao 0) (bC bX (eT (ao 1) (ao 2))))) (dA vW T.int (bS (fS (fU hr.units) (bC bX (eT (ao 1) ag)) ag)))) (ao 2))))
 (aa (cG (aQ (fU hr.units) (bC bX (eT (ao 0) ag)) ag)
 (ai (aJ (bC gP (eT (ao 0) (ao 2)))))
 bA)
 (ai (aJ (aU (aA (ao 5) (aA (ao 3) (aA (ao 7) (aA (ao 6) bg))))))))))))))),?_⟩
  walk_at "rx";refine mX hF (by decide) (by decide) λ d1 M1 hd1 F1=>?_;obtain⟨n,en⟩:∃n:Nat,4+(d1:Int)=(n:Int):=⟨4+d1,by omega⟩;walk_at "rx";rw[en];refine⟨f,n,rfl,by omega,λ p zs hz hp=>?_⟩;have F2:=F1.trans (Fl.put (o:=.lst (zs.map D.str)) F1.cU hp);have p2:af M1 p (.lst (zs.map D.str)) p=some (.lst (zs.map D.str)):=ae;have pn:=(F1.cU.ne hp).1;generalize af M1 p (.lst (zs.map D.str))=M2 at*;walk_at "rx";refine⟨fH (by omega) (by omega),?_⟩;rw[pI];refine Ec nD (λ ys M'=>Fl f c M M'/\M' p=some (.lst (zs.map D.str))/\∀y∈ys,y<=1) (by rw[y0];omega) ⟨F2,p2,λ y h=>by cases h⟩ (λ i x ys M' N hx hl hI hN=>?_) (λ go M4 hl hI=>?_)
  ·walk_at "rx";refine mX hI.1.cU (by decide) (by decide) λ d M1 hd F=>?_;walk_at "rx";have:=hN (if 0 < d then 1 else 0) M1 ⟨hI.1.trans F,F.mv _ _ pn hI.2.1,λ y hy=>?_⟩
   ·have e:(D.int (if decide (((0:Int)) < (d:Int))=true then 1 else 0))=nD (if 0 < d then 1 else 0):=by
     by_cases z:0 < d
     ·rw[J0 (by rw[decide_eq_true_iff];omega),J0 z];rfl
     ·rw[J7 (by rw[decide_eq_true_iff];omega),J7 z];rfl
    rw[<- e]at this;exact this
   ·rcases A9.mp hy with e|e
    ·exact hI.2.2 y e
    ·rw[u4.mp e];split <;> omega
  ·obtain⟨F4,p4,g4⟩:=hI;rw[y0,x4]at hl;intro pg NR;have F5:=F4.trans (Fl.put (o:=.lst (go.map nD)) F4.cU NR);have g5:af M4 pg (.lst (go.map nD)) pg=some (.lst (go.map nD)):=ae;have p5:af M4 pg (.lst (go.map nD)) p=some (.lst (zs.map D.str)):=by rw[ak (aZ p4 NR)];exact p4
   have gn:=(F4.cU.ne NR).1;generalize af M4 pg (.lst (go.map nD))=M5 at*;obtain⟨gs,Se⟩:∃gs:Gs,gs=zs.zip go:=⟨_,rfl⟩;have lg:gs.length=n:=by rw[Se,length_zip,hz,hl,Nat.min_self]
   have gg:gs.map (λ e=>nD e.2)=go.map nD:=by
    have:(zs.zip go).map Prod.snd=go:=map_snd_zip (by omega);rw[Se]
    conv=>rhs;rw[<- this,D1]
    rfl
   walk_at "rx";refine gA (by omega) (by omega) ?_;rw[x4];walk_at "rx";refine⟨fH (by omega) (by omega),?_⟩;rw[x4];refine fL (λ i acc M6=>acc=(gs.take i).map (λ e=>.tup [.str e.1,.tup (List.replicate e.2 (row (List.replicate gs.length 0)))])/\M6=M5) ⟨rfl,rfl⟩ (λ i acc M6 hi h=>?_) (λ i d acc M6 hd h=>?_) (λ acc M6 h=>?_)
   ·rw[h.1,A8,z7];exact small (by omega)
   ·obtain⟨rfl,rfl⟩:=h;obtain⟨hi,rfl⟩:=dF hd;rw[C6];obtain⟨zi,VP⟩:∃z,zs[i]?=some z:=⟨_,i7 (by omega)⟩;obtain⟨oi,Uv⟩:∃z,go[i]?=some z:=⟨_,i7 (by omega)⟩;have QC:gs[i]?=some (zi,oi):=by rw[Se];exact getElem?_zip_eq_some.mpr ⟨VP,Uv⟩
    have o1:=g4 oi (m8 Uv);walk_at "rx";refine bV p5 (d:=.str zi) (bt (by rw[x3,VP];rfl)) ?_;walk_at "rx";refine bV g5 (d:=nD oi) (bt (by rw[x3,Uv];rfl)) ?_;refine gA (by omega) (by omega) ?_;rw[x4];walk_at "rx";refine⟨?_,rfl⟩;rw[take_add_one,QC,B0,lg];refine G8 (λ z=>_++[z]) ?_;show D.tup [.str zi,.tup (List.replicate oi (D.tup (List.replicate n (D.int 0))))]=D.tup [.str zi,.tup (List.replicate oi (D.tup ((List.replicate n 0).map D.int)))];rw[map_replicate]
   ·obtain⟨rfl,rfl⟩:=h;rw[bN,j6 (by omega)];have U2:D.tup (gs.map λ e=>.tup [.str e.1,.tup (List.replicate e.2 (row (List.replicate gs.length 0)))])=oJ gs:=rfl;rw[U2];walk_at "rx";refine mX F5.cU (by decide) (by decide) λ d2 M7 hd2 F6=>?_;obtain⟨w,ew⟩:∃w:Nat,4+(d2:Int)=(w:Int):=⟨4+d2,by omega⟩;have G6:=F5.trans F6;have p7:=F6.mv _ _ pn p5;have g7:=F6.mv _ _ gn g5;walk_at "rx";rw[ew];refine⟨fH (by omega) (by omega),?_⟩;rw[pI];refine Ec nD (λ ys M'=>Fl f c M M'/\M' p=some (.lst (zs.map D.str))/\M' pg=some (.lst (go.map nD))) (by rw[y0];omega) ⟨G6,p7,g7⟩ (λ i x ys M' N hx hl hI hN=>?_) (λ ws M8 Yo hI=>?_)
    ·obtain⟨hi,rfl⟩:i < n/\x=i:=by have:=i4.mp hx;obtain⟨a,b⟩:=this;rw[y0]at a;rw[getElem_range]at b;exact⟨by omega,b.symm⟩
     walk_at "rx";refine mX hI.1.cU (by omega) (by omega) λ d3 M9 hd3 F7=>?_;have H1:=hI.1.trans F7;walk_at "rx";intro a ha;have H2:=H1.trans (Fl.put (o:=.lst [EB x,.int d3]) H1.cU ha);have a2:af M9 a (.lst [EB x,.int d3]) a=some (.lst [nD x,nD d3]):=by rw[ae,show EB x=nD x by unfold EB;first|rfl|rw[C6]]
     have p9:af M9 a (.lst [EB x,.int d3]) p=some (.lst (zs.map D.str)):=by have z:=F7.mv _ _ pn hI.2.1;rw[ak (aZ z ha)];exact z
     have g9:af M9 a (.lst [EB x,.int d3]) pg=some (.lst (go.map nD)):=by have z:=F7.mv _ _ gn hI.2.2;rw[ak (aZ z ha)];exact z
     have an:=(H1.cU.ne ha).1;generalize af M9 a (.lst [EB x,.int d3])=EM at*;walk_at "rx";refine mX H2.cU (by decide) (by decide) λ d4 WJ hd4 F8=>?_;walk_at "rx";obtain⟨v,hv⟩:∃v:Nat,f' [nD x,nD d3] (if decide ((d4:Int)=0)=true then 1 else 0)=some (nD v):=by
      by_cases z:(d4:Int)=0
      ·rw[J0 (B5 z)];exact⟨d3,rfl⟩
      ·rw[J7 (by rw[decide_eq_true_iff];exact z)];exact⟨x,rfl⟩
     refine bV (F8.mv _ _ an a2) hv ?_;walk_at "rx";refine qA (by omega) ?_;have:=hN (v % w) WJ ⟨H2.trans F8,F8.mv _ _ pn p9,F8.mv _ _ gn g9⟩;rw[show nD (v % w)=D.int ((v:Int) % (w:Int)) by show D.int ((v % w:Nat):Int)=_;rw[Int.natCast_emod]]at this;exact this
    ·obtain⟨F8,p8,g8⟩:=hI;rw[y0,x4]at Yo;intro pw MF;have F9:=F8.trans (Fl.put (o:=.lst (ws.map nD)) F8.cU MF);have p9:af M8 pw (.lst (ws.map nD)) p=some (.lst (zs.map D.str)):=by rw[ak (aZ p8 MF)];exact p8
     have g9:af M8 pw (.lst (ws.map nD)) pg=some (.lst (go.map nD)):=by rw[ak (aZ g8 MF)];exact g8
     have w9:af M8 pw (.lst (ws.map nD)) pw=some (.lst (ws.map nD)):=ae;have wn:=(F8.cU.ne MF).1;generalize af M8 pw (.lst (ws.map nD))=M9 at*;walk_at "rx";refine mX F9.cU (by decide) (by decide) λ d5 EM hd5 SH=>?_;have Vh:=F9.trans SH;walk_at "rx";refine bH (λ _=>?_) (λ _=>?_)
     ·walk_at "rx";refine⟨f,c,p,zs,rfl,Vh.cU,SH.mv _ _ pn p9,by omega,by omega,λ gs pg pw ws w M' hW YO=>?_⟩;exact ax (k gs pg pw ws w M' hW (Vh.trans YO))
     ·walk_at "rx";refine ax (k gs pg pw ws w EM ⟨by omega,by omega,λ e he=>?_,?_,SH.mv _ _ wn w9,by omega,by omega,by omega⟩ Vh)
      ·rw[Se]at he;exact g4 _ (of_mem_zip he).2
      ·rw[gg];exact SH.mv _ _ gn g9
end
def zO:Nat->Str
 |0=>Str.ofString "let"
 |1=>Str.ofString "pairs"
 |_=>Str.ofString "paper"
def Ow:gc:=λ ds M Q=>∃(j m:Nat) (rows:List Row) (ls:Row) (gs:Gs) (w:Bool),ds=[.str (zO j),oJ gs,.str (cZ w),fu rows ls]/\Ak M/\lD m gs.length rows/\m<=30/\(∀e∈gs,e.2<=1)/\(∀(told:List (Cs×Pa)),iQ (dU rows m gs) (0,[]) gs.length 401 told->400 < told.length/\(told.take 400).find? (λ e=>!oF w ls e.2)=none)/\∀M',Ext M M'->Q (.bl true) M'
def Ov:gc:=λ ds M Q=>∃(m:Nat) (rows:List Row) (ls:Row) (gs:Gs) (w:Bool),ds=[oJ gs,.str (cZ w),fu rows ls]/\Ak M/\lD m gs.length rows/\m<=30/\(∀e∈gs,e.2<=1)/\oF w ls (0,[])=false/\∀M',Ext M M'->Q (tN (jN gs.length)) M'
theorem p_{m h:Nat}{rows:List Row}{gs:Gs}{told:List (Cs×Pa)}{w:Bool}{ls:Row}(F:iQ (dU rows m gs) (0,[]) h 401 told)(hf:oF w ls (0,[])=false):(told.take 400).find? (λ e=>!oF w ls e.2)=some (jN h,(0,[])):=by
 have z:=F.gI.iS;cases told with
 |nil=>cases z
 |cons e l=>cases z;simp[List.find?,hf]
section
variable {P:Program}{w:World}{K:J8}{mg:Str->Option Value}{base:Heap}
set_option tactic.hygienic true in
theorem Pm{f:Addr}{fd:FuncData}(F:fg K "_law_wrong_at" "_law_wrong_at" (top 38) f fd)(T:iE K mg)(c_:gU P w K mg base 9 "let_by" ["game","last","table"] rW):aX P w K mg base di 10 f fd ["_law_game","_law_last","_law_table"] (cw K Ov):=by
 refine oC F ["_law_game","_law_last","_law_table","e"] (λ bQ A outer s H E ds M Q nd hr h=>?_)
 ·obtain⟨m,rows,ls,gs,w,rfl,hT,G,hm,h1,hf,k⟩:=h;refine⟨_,aa (we (i:=3) (h2:=λ C fs D δ M=>∃v,C=101/\fs=[(Str.ofString "counts",v)]/\D.rt v M) ⟨rfl,rfl⟩ (by assumption) rfl rfl (lI (λ _ _ z=>z) c_ (yu (ao 0) (ao 1) (ao 2))) (by rfl) T.cO.m T.cO.cat ?suite) (ai (aJ wj)),?_⟩
  ·refine⟨_,λ a=>jj (uS (O3 (pv 3))),?_⟩;intro a C od ds D D2 σ H' δ M' hσ h1 h2 sr rm hh ct;obtain⟨v,rfl,rfl,q⟩:=hh;obtain⟨dx,fs,rfl,hx,fr⟩:=h2.sm;obtain⟨u,rfl,hu⟩:∃u,fs=[(Str.ofString "counts",u)]/\Dat K H' v u:=by
    cases fr with
    |cons p r=>cases r with
     |nil=>rename_i q;obtain⟨n,u⟩:=q;obtain⟨e,z⟩:=p;cases e;exact⟨u,rfl,z⟩
   exact⟨.ref a,hσ,a,101,dx,_,u,rfl,h1,hx,T.cO.eg (by simp),by simp[List.lookup],ct.rt u H' v M' hu rm (ah.refl H') q⟩
  ·walk_at "rx";refine wH (Nat.lt_succ_self 3) (jf ?_);walk_at "rx";refine⟨m,rows,ls,gs,w,rfl,hT,G,hm,h1,λ told M' hF E1=>⟨λ e he=>⟨T.cO.cat,T.sW,_,rfl,rfl,?_⟩,λ z=>?_⟩⟩
   ·rw[p_ hF hf]at he;cases he;exact ax (k M' E1)
   ·rw[p_ hF hf]at z;cases z
theorem Pn{f:Addr}{fd:FuncData}(F:fg K "_law_is_many" "_law_is_many" (top 37) f fd)(T:iE K mg)(c_:gU P w K mg base 9 "let_by" ["game","last","table"] rW)(mf:gU P w K mg base 9 "pairs" ["game","table"] AX)(vG:gU P w K mg base 10 "paper_of" ["game","last","table"] Je):aX P w K mg base di 11 f fd ["_law_ask","_law_game","_law_last","_law_table"] (cw K Ow):=by
 refine oC F ["_law_ask","_law_game","_law_last","_law_table","e"] (λ bQ A outer s H E ds M Q nd hr h=>?_)
 ·obtain⟨j,m,rows,ls,gs,w,rfl,hT,G,hm,h1,vy,k⟩:=h;refine⟨_,aa (we (i:=4) (h2:=λ C fs D δ M=>C=44/\fs=[]/\D.rt (.bl true) M) ⟨rfl,rfl⟩ (by assumption) rfl rfl
   (IW (λ _ _ z=>z) (aQ (fU hr.units) (ao 0) gh) (lI (λ _ _ z=>z) c_ (yu (ao 1) (ao 2) (ao 3)))
    (IW (λ _ _ z=>z) (aQ (fU hr.units) (ao 0) gh) (lI (λ _ _ z=>z) mf (eT (ao 1) (ao 3))) (lI (λ _ _ z=>z) vG (yu (ao 1) (ao 2) (ao 3))))) (by rfl) T.gE T.oQ ?suite) (ai (aJ kY)),?_⟩
  ·refine⟨_,λ a=>jj (uS (LI (jn zI (by rfl) T.isinstance (by decide+kernel) (bU (pv 4) (bU (mZ (by rfl) T.bR.m) gB))) (LA (LB (jn vV (by rfl) T.isinstance (by decide+kernel) (bU (pv 4) (bU (Ce (bU (mZ (by rfl) T.Ee.m) (bU (mZ (by rfl) T.zM.m) (bU (mZ (by rfl) T.zL.m) (bU (mZ (by rfl) T.cO.m) gB))))) gB))))))),?_⟩;intro a C od ds D D2 σ H' δ M' hσ h1 h2 sr rm hh ct;obtain⟨rfl,rfl,q⟩:=hh;have hv:=h2.v;refine⟨.ref a,hσ,a,_,od,44,true,rfl,h1,hv,T.bR.ei,T.kT,true,rfl,?_⟩;rw[J0 rfl];refine⟨.ref a,hσ,(Nat.le_of_ble_eq_true rfl:(4:Nat)<=sizeLine),λ p hp=>?_⟩;have a1:upd H' p (.tup [V.ref 63,V.ref 120,V.ref 82,V.ref 101]) a=some (XT a 44 od):=by rw[ar (aV h1 hp)];exact h1
   have v1:NF (upd H' p (.tup [V.ref 63,V.ref 120,V.ref 82,V.ref 101])) od:=by
    cases od with
    |none=>trivial
    |some dx=>obtain⟨fs,z⟩:=hv;exact⟨fs,by rw[ar (aV z hp)];exact z⟩
   exact⟨a,_,od,p,[63,120,82,101],false,rfl,a1,v1,T.bR.ei,aD,T.kA,false,rfl,ct.rt _ _ (.bl true) M' (aH.mpr rfl) (rm.laid hp) (ah.laid hp) q⟩
  ·walk_at "rx";refine wH (Nat.lt_succ_self 4) (uM ?_);walk_at "rx";rcases(show j=0\/j=1\/2<=j by omega)with rfl|rfl|hj
   ·rw[show decide (zO 0=Str.ofString "let")=true by decide+kernel];dsimp only;rw[J0 rfl];refine jf ?_;walk_at "rx";refine⟨m,rows,ls,gs,w,rfl,hT,G,hm,h1,λ told M1 hF E1=>?_⟩;obtain⟨a1,a2⟩:=vy told hF;exact⟨λ e he=>(by rw[a2]at he;cases he),λ _=>⟨λ _=>⟨T.bR.cat,T.sT,rfl,rfl,ax (k M1 E1)⟩,λ z=>absurd a1 (by omega)⟩⟩
   ·rw[show decide (zO 1=Str.ofString "let")=false by decide+kernel];dsimp only;rw[J7 r0];refine uM ?_;walk_at "rx";rw[show decide (zO 1=Str.ofString "pairs")=true by decide+kernel];dsimp only;rw[J0 rfl];refine jf ?_;walk_at "rx";refine⟨m,rows,ls,gs,rfl,hT,G,hm,h1,λ told M1 hF E1=>⟨λ _=>⟨T.bR.cat,T.sT,rfl,rfl,ax (k M1 E1)⟩,λ z=>absurd (vy told hF).1 (by omega)⟩⟩
   ·have ej:zO j=Str.ofString "paper":=by
     match j,hj with
     |j+2,_=>rfl
    rw[ej,show decide (Str.ofString "paper"=Str.ofString "let")=false by decide+kernel];dsimp only;rw[J7 r0];refine uM ?_;walk_at "rx";rw[show decide (Str.ofString "paper"=Str.ofString "pairs")=false by decide+kernel];dsimp only;rw[J7 r0];refine jf ?_;walk_at "rx";exact⟨m,rows,ls,gs,w,rfl,hT,G,hm,h1,vy,λ M1 E1=>⟨T.bR.cat,T.sT,rfl,rfl,ax (k M1 E1)⟩⟩
end
theorem JW{M M':Mem}{f c:Addr}(F:Fl f c M M')(h:Ak M)(hF:Flow M f c):Ak M':=LK F h hF
theorem ZD(n:Nat):tN (jN n)=.tup (List.replicate n (.int 0)):=by unfold tN jN;rw[map_replicate];rfl
theorem rz:lD 1 0 [[]]:=by refine⟨⟨rfl,by decide,by decide,by decide,λ r hr=>by rw[u4.mp hr];exact⟨rfl,λ x hx=>by cases hx⟩⟩,⟨λ s i hi=>absurd hi (by omega),λ s i j hi=>absurd hi (by omega)⟩,λ x hx=>?_⟩;cases(show x=0 by omega);exact .zero
theorem kH{told:List (Cs×Pa)}(F:iQ (dU [[]] 1 []) (0,[]) 0 401 told):told=[([],(0,[]))]:=by
 have all:∀e∈told,e=([],(0,[])):=λ e he=>by have h:=F.gI.ent e he;have l:=j5.mp h.1.1;refine Prod.ext l ?_;rw[<- h.2,l];rfl
 have HA:=F.gI.nd;have z:=F.gI.iS;cases told with
 |nil=>cases z
 |cons e l=>
  cases l with
  |nil=>rw[all e (by simp)]
  |cons e' l=>rw[all e (by simp),all e' (by simp)]at HA;simp at HA
theorem FH{M:Mem}{i j l m:Nat}{a b c d:D}{δ:bY}{N:bY->Mem->Prop}(h:N ((((δ.set i (some a)).set j (some b)).set l (some c)).set m (some d)) M):tu 4 (dq (hName i) (dq (hName j) (dq (hName l) (dq (hName m) tw)))) (.tup [a,b,c,d]) δ M N:=⟨rfl,h⟩
theorem Rp(n:Nat):((List.range n).all λ _=>true)=true:=by simp
def l2(m:Nat)(ls:Row):Row:=((List.range m).filter λ j=>!decide (lq ls j=decide (j=0))).map λ(j:Nat)=>(j:Int)
theorem T5{m h:Nat}{rows:List Row}{gs:Gs}{ls:Row}{w:Bool}(hm:0 < m)(P:SA m h rows gs ls w):oF w (l2 m ls) (0,[])=false:=by
 obtain⟨nu,n0,_,_,nl⟩:=P;have e:=nl 0 hm;rw[n0]at e;have e2:lq ls 0=w:=by rw[e];cases w <;> rfl
 have e3:lq (l2 m ls) 0=!w:=by
  have p0:(!decide (lq ls 0=decide ((0:Nat)=0)))=!w:=by rw[e2];cases w <;> rfl
  rw[<- p0];show decide (((0:Nat):Int)∈l2 m ls)=_;rw[A0,decide_eq_true_iff];constructor
  ·intro z;obtain⟨j,hj,ej⟩:=C9.mp z;cases(show j=0 by omega);exact(mem_filter.mp hj).2
  ·intro z;exact C9.mpr ⟨0,mem_filter.mpr ⟨mem_range.mpr hm,z⟩,rfl⟩
 unfold oF;rw[J0 rfl];dsimp only;rw[e3];cases w <;> rfl
theorem wX:Pl 3 (.tup [.tup [],.tup [.int 0,.tup []]]):=by
 refine eL λ e he=>?_;rcases C3.mp he with rfl|he
 ·exact eL λ e he=>by cases he
 ·rw[u4.mp he];refine eL λ e he=>?_;rcases C3.mp he with rfl|he
  ·exact fB _ 0
  ·rw[u4.mp he];exact eL λ e he=>by cases he
theorem T4(m:Nat)(rows:List Row)(ls:Row){gs:Gs}{wn:Bool}:[oJ gs,.str (cZ wn),.tup [.tup (rows.map row),.tup (((List.range m).filter λ j=>!decide (lq ls j=decide (j=0))).map λ j=>nD j)]]=[oJ gs,.str (cZ wn),fu rows (l2 m ls)]:=by unfold fu l2 row;rw[D1];rfl
theorem Mk{gs:Gs}{M:Mem}{Q:bu}(q:Q (.int (gs.length:Nat)) M):vL [oJ gs] M Q:=by refine wL ?_;rw[A8];exact q
theorem BZ(n:Nat):Pl 1 (.tup (List.replicate n (.int 0))):=eL λ e he=>by rw[(mem_replicate.mp he).2];exact fB 0 0
section
variable {P:Program}{w:World}{K:J8}{mg:Str->Option Value}{base:Heap}
theorem L9{f:Addr}{fd:FuncData}(F:fg K "law" "law" (top 39) f fd)(T:iE K mg)(vI:cR P w K mg base 1 "_law_flow" ["_law_script"] wy)(lA:cR P w K mg base 3 "_law_wide_game" ["_law_flow_here"] Ou)(ko:cR P w K mg base 1 "_law_wide_table" ["_law_goes","_law_weights","_law_wide","_law_last"] Ot)(iw:cR P w K mg base 1 "_law_counted_pairs" ["_law_goes","_law_table"] Oy)(oM:cR P w K mg base 11 "_law_is_many" ["_law_ask","_law_game","_law_last","_law_table"] Ow)(c_:gU P w K mg base 9 "let_by" ["game","last","table"] rW)(mf:gU P w K mg base 9 "pairs" ["game","table"] AX)(gO:cR P w K mg base 10 "_law_wrong_at" ["_law_game","_law_last","_law_table"] Ov):aX P w K mg base di 12 f fd ["_law_script"] (cw K rX):=by
 refine oC F ["_law_script","_law_flow_here","_law_last","_law_bare","_law_game","_law_goes","_law_weights","_law_wide","_law_table","_law_many","_law_losing"] (λ bQ A outer s H E ds M Q nd hr h=>?_)
 ·obtain⟨ns,rfl,Wb,k⟩:=h;refine⟨_,(aa (aE 1 (bC vI (bS (ao 0))))
 (aa (df (bC lA (bS (ao 1))) (jO (n:=4) (bB (bj 4) (bB (bj 5) (bB (bj 6) (bB (bj 7) gX))))))
 (aa (fj (dO (cC (eT gh gh))) (bj 2)
 (aa (aE 8 (bC ko (aA (ao 5) (aA (ao 6) (aA (ao 7) (aA (ao 2) bg))))))
 (aa (aE 9 (bC iw (eT (ao 5) (ao 8))))
 (aa (cG (aQ yY (ao 9) ag)
 (ai (cG (Ax (Aw (AD (Rm rfl) Fh T.all (yr [4,2,8] (dO (aU (Fb (zs:=[Str.ofString "let",Str.ofString "pairs",Str.ofString "paper"]) (by kernel_rfl)))) cp (bC oM (aA (ao 0) (aA (ao 1) (aA (ao 2) (aA (ao 3) bg)))))))))
 (ai (aJ kY))
 bA))
 (ai (cG (As (aQ Cw (lJ c_ (yu (ao 4) (ao 2) (ao 8))) kY) (uj (aQ (pL hr.units) (bo dW T.len (bS (lJ mf (eT (ao 4) (ao 8))))) (ao 9)))).pt
 (ai (aJ kY))
 bA)))
 (aa (mw 10 (yr [8] (b_ T.range (bS (bo dW T.len (bS (aO aM (ao 8) ag))))) (wg (aQ (pL hr.units) (fS (xh hr.units) (ao 0) (aO aM (ao 1) ag)) (fS (fU hr.units) (ao 0) ag))) (ao 0)))
 (ai (cG (aQ (pL hr.units) (bC gO (yu (ao 4) (ao 2) (aU (eT (aO aM (ao 8) ag) (dA eE T.tuple (bS (ao 10))))))) (bq eN (aU (bS ag)) (bo dW T.len (bS (ao 4)))))
 (ai (aJ kY))
 bA)))))))
 (aa (aE 3 (aU (eT (aU (bS (aU bg))) (aU (bS ag)))))
 (aa (cG (As (aQ Cw (lJ c_ (yu (aU bg) gh (ao 3))) kY) (uj (aQ (pL hr.units) (lJ mf (eT (aU bg) (ao 3))) (cC (bS (aU (eT (aU bg) (aU (eT ag (aU bg)))))))))).pt
 (ai (aJ kY))
 bA)
 (ai (aJ (fS (fU hr.units) (bC gO (yu (aU bg) gh (ao 3))) (aU bg))))))))),?_⟩
  walk_at "rx";refine⟨ns,rfl,λ f cc M1 hF E1=>?_⟩;have hT:Ak M1:=E1 _ _ Wb;walk_at "rx";refine⟨f,cc,rfl,hF,λ gs pg pw ws w M2 W2 F2=>?_⟩;replace hT:=JW F2 hT hF;obtain⟨h4,h6,ho,g2,w2,lw,R8,VT⟩:=W2;clear hF F2 E1 Wb M1;walk_at "rx";refine FH ?_;walk_at "rx";intro a ha;have E0:Ext M2 (af M2 a (.lst [.str (Str.ofString "wins"),.str (Str.ofString "loses")])):=Ext.new Ext.rfl ha _;have a0:af M2 a (.lst [.str (Str.ofString "wins"),.str (Str.ofString "loses")]) a=some (.lst [.str (Str.ofString "wins"),.str (Str.ofString "loses")]):=ae;generalize af M2 a (.lst [.str (Str.ofString "wins"),.str (Str.ofString "loses")])=M3 at*;walk_at "rx";refine JB (ds:=[.str (Str.ofString "wins"),.str (Str.ofString "loses")]) (λ i δ M'=>∃(v2 v8 v9 v10:Option D),δ=[some (.fl (ns.map D.int)),some (.ref f),v2,none,some (oJ gs),some (.ref pg),some (.ref pw),some (.int w),v8,v9,v10]/\Ext M3 M') ⟨none,none,none,none,rfl,Ext.rfl⟩ (λ i δ M' _ h=>?_) (λ i d δ M4 hd h=>?_) (λ δ M4 h=>?_)
  ·obtain⟨_,_,_,_,_,E⟩:=h;exact E _ _ a0
  ·obtain⟨v2,v8,v9,v10,rfl,E4⟩:=h;obtain⟨wn,rfl⟩:∃wn,d=.str (cZ wn):=by
    match i,hd with
    |0,hd=>cases hd;exact⟨true,rfl⟩
    |1,hd=>cases hd;exact⟨false,rfl⟩
   have X4:=E0.trans E4;walk_at "rx";refine⟨pg,pw,w,wn,gs,ws,rfl,X4 _ _ g2,X4 _ _ w2,lw,h6,R8,VT,λ m rows ls M5 G hm L P E5=>?_⟩;have X5:=X4.trans E5;walk_at "rx";refine⟨pg,m,rows,ls,gs,rfl,X5 _ _ g2,G,by omega,h6,ho,λ A M6 HA rA cA E6=>?_⟩;have X6:=X5.trans E6;have Sl:Ak M6:=X6 _ _ hT;have cf:∀{told:List (Cs×Pa)},iQ (dU rows m gs) (0,[]) gs.length 401 told->(A.length<=400↔told.length<=400)/\(A.length<=400->told.length=A.length):=λ{told} hF=>by
    have:=Nl HA hF.gI.nd rA (λ p hp=>rR hF hp) cA (λ hl p r=>Ff hF (by rw[A8]at hl;omega) r)
    rwa [A8]at this
   have hn:∀{told:List (Cs×Pa)},iQ (dU rows m gs) (0,[]) gs.length 401 told->(told.take 400).find? (λ e=>!oF wn ls e.2)=none:=λ{told} hF=>find?_eq_none.mpr λ e he=>by rw[G' G ho rfl P (rR hF (C9.mpr ⟨e,mem_of_mem_take he,rfl⟩))];decide
   refine qz ?_
   with_reducible refine uL (λ δ' M'=>δ'=[some (.fl (ns.map D.int)),some (.ref f),some (.str (cZ wn)),none,some (oJ gs),some (.ref pg),some (.ref pw),some (.int w),some (.tup [.tup (rows.map row),row ls]),some (.int (A.length:Nat)),v10]/\Ext M6 M') (λ N hN=>?_) ?_
   ·walk_at "rx";refine bH (λ hz=>?_) (λ hz=>?_)
    ·walk_at "rx";refine fL (λ i acc M7=>acc=((List.range i).map λ _=>D.bl true)/\Ext M6 M7) ⟨rfl,Ext.rfl⟩ (λ i acc M7 hi h=>?_) (λ i d acc M7 hd h=>?_) (λ acc M7 h=>?_)
     ·rw[h.1,A8,y0];exact small (D3 hi (by decide))
     ·obtain⟨rfl,E7⟩:=h;obtain⟨hi,rfl⟩:i < 3/\d=.str (zO i):=by
       match i,hd with
       |0,hd=>cases hd;exact⟨by decide,rfl⟩
       |1,hd=>cases hd;exact⟨by decide,rfl⟩
       |2,hd=>cases hd;exact⟨by decide,rfl⟩
      walk_at "rx";refine⟨i,m,rows,ls,gs,wn,rfl,E7 _ _ Sl,G,by omega,ho,λ told hF=>⟨by have:=(cf hF).1;omega,hn hF⟩,λ M8 E8=>?_⟩;exact⟨by rw[range_succ,B0];rfl,E7.trans E8⟩
     ·obtain⟨rfl,E7⟩:=h;refine Gi (p:=λ _=>true) ?_;rw[Rp];dsimp only;rw[J7 (by decide)];exact hN _ _ ⟨rfl,E7⟩
    ·walk_at "rx";refine⟨m,rows,ls,gs,wn,rfl,Sl,G,by omega,ho,λ told M7 hF E7=>⟨λ e he=>(by rw[hn hF]at he;cases he),λ _=>⟨λ z=>absurd z (by have:=(cf hF).1;omega),λ z=>?_⟩⟩⟩;walk_at "rx";rw[show(!decide (true=true))=false from rfl];dsimp only;rw[J7 r0];walk_at "rx";refine⟨m,rows,ls,gs,rfl,E7 _ _ Sl,G,by omega,ho,λ told M8 hF E8=>⟨λ z=>absurd z (by have:=(cf hF).1;omega),λ z p hp hM=>?_⟩⟩;have tl:told.length=A.length:=(cf hF).2 (by omega);walk_at "rx";rw[A8,tl,B5 rfl,Bool.not_true];dsimp only;rw[J7 r0];exact hN _ _ ⟨rfl,E7.trans E8⟩
   ·rintro δ' M7 ⟨rfl,E7⟩;have gp:=G.tb.pos;have X_:rows.length=m:=G.tb.len;walk_at "rx";rw[A8,X_];refine⟨fH (by omega) (by omega),?_⟩;rw[x4];refine ID (xs:=List.range m) (enc:=EB) (λ j=>!decide (lq ls j=decide (j=0))) (λ j=>nD j) (by rw[y0];omega) (λ l j N1 N2 hj k1 k2=>?_) ?_
    ·rw[Kz];walk_at "rx";refine xw ?_;walk_at "rx";rw[show decide ((j:Int)=0)=decide (j=0)from decide_eq_decide.mpr (by omega)];dsimp only;cases hc:(!decide (lq ls j=decide (j=0)))with
     |false=>rw[J7 r0];exact k2 hc
     |true=>rw[J0 rfl];walk_at "rx";exact k1 hc
    ·intro q hq;walk_at "rx";refine eY ae ?_;have Wc:Ak (af M7 q (.lst (((List.range m).filter λ j=>!decide (lq ls j=decide (j=0))).map λ j=>nD j))):=(Ext.new Ext.rfl hq _) _ _ (E7 _ _ Sl);have E8:=(E6.trans E7).trans (Ext.new Ext.rfl hq (.lst (((List.range m).filter λ j=>!decide (lq ls j=decide (j=0))).map λ j=>nD j)));generalize af M7 q _=M8 at Wc E8 ⊢;walk_at "rx";refine⟨m,rows,l2 m ls,gs,wn,T4 m rows ls,Wc,G,by omega,ho,T5 gp P,λ M9 E9=>?_⟩;walk_at "rx";refine Mk ?_;refine gA (by omega) (by omega) ?_;rw[ZD,x4];refine FT (k:=1) (b:=true) (BZ _) (BZ _) (by decide) ⟨λ _=>rfl,λ _=>rfl⟩ ?_;dsimp only;rw[J7 (by decide)];exact⟨_,_,_,_,rfl,((E4.trans E5).trans E8).trans E9⟩
  ·obtain⟨v2,v8,v9,v10,rfl,E4⟩:=h;have UI:Ak M4:=E4 _ _ (E0 _ _ hT);walk_at "rx";refine⟨1,[[]],[0],[],true,rfl,UI,rz,by decide,(λ e he=>by cases he),λ told M5 hF E5=>?_⟩;cases kH hF;refine⟨λ e he=>(by cases he),λ _=>⟨λ z=>absurd z (by decide),λ _=>?_⟩⟩;walk_at "rx";rw[show(!decide (true=true))=false from rfl];dsimp only;rw[J7 r0];walk_at "rx";refine⟨1,[[]],[0],[],rfl,E5 _ _ UI,rz,by decide,(λ e he=>by cases he),λ told M6 We E6=>⟨?_,?_⟩⟩
   ·cases kH We;intro z;exact absurd z (by decide)
   intro _ p hp hM;cases kH We;walk_at "rx";intro q hq;refine wK (k:=3) (b:=true) (by rw[ak (aZ hM hq)];exact hM) ae (λ e he=>?_) (λ e he=>?_) (by decide) ⟨λ _=>rfl,λ _=>rfl⟩ ?_
   ·rw[u4.mp he];exact wX
   ·rw[u4.mp he];exact wX
   dsimp only;rw[J7 (by decide)];walk_at "rx";refine⟨1,[[]],[0],[],false,rfl,(Ext.new Ext.rfl hq _) _ _ (E6 _ _ (E5 _ _ UI)),rz,by decide,(λ e he=>by cases he),by decide,λ M8 E8=>?_⟩;walk_at "rx";refine wN (k:=1) (x:=.tup []) (b:=true) (eL λ e he=>by cases he) (eL λ e he=>by cases he) (by decide) ⟨λ _=>rfl,λ _=>rfl⟩ ?_;exact ax (k _)
end
theorem Ml{K:J8}{H:Hp}{a:Addr}{ns:List Int}(hO:ye H [183])(hS:fb K H a (ns.map V.int)):cw K rX [.ref a] H (λ v _=>v=.bl true) λ _ _ _=>False:=by
 have ou:EN K H a (ns.map V.int):=by
  rcases hS with(h|⟨o,h⟩)|h
  ·rcases hO.1 a with z|⟨o,xs,z⟩|z
   ·rw[z]at h;cases h
   ·rw[z]at h;cases h
   ·rw[z]at h;cases h
  ·exact .inl ⟨o,h⟩
  ·exact .inr h
 refine⟨[.fl (ns.map D.int)],λ b=>if b=183 then some (.hX (.lM "first_pairs.<locals>.gone"))else none,λ d _=>d=.bl true,ay.one (km.mpr ⟨a,_,rfl,ou,ki ns⟩),λ a o e=>?_,⟨ns,rfl,J0 rfl,λ _=>rfl⟩,λ v H' d M' hd hm t e=>?_⟩
 ·by_cases z0:a=183
  ·subst z0;have e:=(J0 rfl).symm.trans e;cases e;exact⟨[],hO.2 _ (by simp),λ p hp=>nomatch hp⟩
  ·have e:=(J7 z0).symm.trans e;cases e
 ·subst e;exact aH.mp hd
structure TopC(K:J8)(mg:Str->Option Value)(x:Str)(i:Nat)(dV:Value)(c f:Addr)(d:FuncData):Prop where
 m:mg x=some (.ref f)
 F:jI K x x (top i) dV c f d
theorem HG{A:Type}{P:List A->Prop}{n:Nat}(h:∀a t,t.length=n->P (a::t)):∀us:List A,us.length=n+1->P us
 |[],e=>nomatch e
 |a::t,e=>h a t (Nat.succ.inj e)
theorem PR{A:Type}{P:List A->Prop}(h:∀a,P [a]):∀us:List A,us.length=1->P us:=HG λ a t e=>by rw[eq_nil_of_length_eq_zero e];exact h a
theorem HH{A:Type}{P:List A->Prop}(h:∀a b,P [a,b]):∀us:List A,us.length=2->P us:=HG λ a=>PR (P:=λ t=>P (a::t)) (h a)
theorem zd{A:Type}{P:List A->Prop}(h:∀a b c,P [a,b,c]):∀us:List A,us.length=3->P us:=HG λ a=>HH (P:=λ t=>P (a::t)) (h a)
theorem PQ{A:Type}{P:List A->Prop}(h:∀a b c d,P [a,b,c,d]):∀us:List A,us.length=4->P us:=HG λ a=>zd (P:=λ t=>P (a::t)) (h a)
structure cW(K:J8)(mg:Str->Option Value)(x:Str)(i:Nat)(f:Addr)(d:FuncData):Prop where
 m:mg x=some (.ref f)
 F:fg K x x (top i) f d
theorem cW.mk' {K:J8}{mg:Str->Option Value}{x:Str}{i:Nat}{f:Addr}{d:FuncData}(t:cW K mg x i f d)(l:PySem.W.OpenLaw)(w:World)(base:Heap){k:Nat}{ps:List Str}{sp:Sp}(G:aX l.prog w K mg base di k f d ps sp) (h:∀(kV doc pm:Value) (an:Option Addr) (bQ ct:Value) (us:List Value),us.length=ps.length->bindArgs (PySem.W.fnOf x x (bz (top i)) (aP (top i)) (aq (top i)) .none kV doc pm an bQ ct) ⟨us,[]⟩=pure (ps.zip us):=by intro _ _ _ _ _ _;first|exact PR λ _=>rfl|exact HH λ _ _=>rfl|exact zd λ _ _ _=>rfl|exact PQ λ _ _ _ _=>rfl|exact Xw λ _ _ _ _ _=>rfl):iD l.prog w K mg base k x ps sp:=iD.of t.F G t.m (t.F.binds h)
theorem all_mk{l:PySem.W.OpenLaw}{w:World}{K:J8}{mg:Str->Option Value}{f0 f1 f2 f3 f4 f5 f6 f7 f8 f9 Zc Zb Za Y' Y_ Y9 Y8 Y7 Y6 Y5 Y4 Y3 Y2 Y1 Y0 Wm:Addr}{d0 d1 d2 d3 d4 d5 d6 d7 d8 d9 ZC ZA Zz Zy Zx Zw Zv Zu Zt Zs Zr Zq Zp Zo Zn:FuncData}{kV dc pm cd ct:Value}{an:Option Addr}
  (T:iE K mg)
  (t0:cW K mg "one_more" 8 f0 d0)
  (t1:TopC K mg "first_sums" 9 (.ref 130) 136 f1 d1)
  (e1:K.lookup 130=some {cls:=.type "tuple",data:=.seq #[.none] 0})
  (t2:cW K mg "gone_by" 11 f2 d2)
  (t3:cW K mg "thing_of" 12 f3 d3)
  (t4:cW K mg "carried" 13 f4 d4)
  (t5:cW K mg "put_to" 14 f5 d5)
  (t6:cW K mg "option_things" 17 f6 d6)
  (t7:cW K mg "put_each" 18 f7 d7)
  (t8:cW K mg "put_options" 19 f8 d8)
  (t9:TopC K mg "first_pairs" 20 (.ref 181) 187 f9 d9)
  (e9:K.lookup 181=some {cls:=.type "tuple",data:=.seq #[.none] 0})
  (RR:cW K mg "pairs" 21 Zc ZC)
  (Vy:cW K mg "any_losing" 23 Zb ZA)
  (Vx:cW K mg "holds" 24 Za Zz)
  (Vw:cW K mg "first_wrong" 25 Y' Zy)
  (RQ:cW K mg "let_by" 26 Y_ Zx)
  (RP:cW K mg "paper_of" 28 Y9 Zw)
  (Vv:cW K mg "_law_flow" 30 Y8 Zv)
  (Vu:cW K mg "_law_pick" 31 Y7 Zu)
  (Vt:cW K mg "_law_names" 32 Y6 Zt)
  (Vs:cW K mg "_law_near_the_bound" 33 Y5 Zs)
  (Vr:cW K mg "_law_wide_game" 34 Y4 Zr)
  (Vq:cW K mg "_law_wide_table" 35 Y3 Zq)
  (Vp:cW K mg "_law_counted_pairs" 36 Y2 Zp)
  (Vo:cW K mg "_law_is_many" 37 Y1 Zo)
  (Vn:cW K mg "_law_wrong_at" 38 Y0 Zn)
  (W9:cW K mg "law" 39 Wm (PySem.W.fnOf "law" "law" (bz (top 39)) (aP (top 39)) (aq (top 39)) .none kV dc pm an cd ct)):
  ∃fd:FuncData,(∀(s:Shared) (v:Value),BindsTo s fd ⟨[v],[]⟩ [("_law_script",v)])/\∀base:Heap,K.In base->(∀q∈([(187,183)]:List (Addr×Addr)),EL mg base q.1 q.2)->aX l.prog w K mg base di 12 Wm fd ["_law_script"] (cw K rX):=by
 refine⟨PySem.W.fnOf "law" "law" (bz (top 39)) (aP (top 39)) (aq (top 39)) .none kV dc pm an cd ct,λ s v=>.of_eq rfl,λ base _ UK=>?_⟩;have b1:=t1.F.Eh (ps:=["heaps","start","gone","most"]) λ _ _ _ _ _ s hk=>PQ λ _ _ _ _=>rq hk rfl e1 rfl rfl rfl;have c1:=t1.F.Eg (ps:=["heaps","start","gone","most"]) (n:=3) rfl λ _ _ _ _ _ s hk=>zd λ _ _ _=>rq hk rfl e1 rfl rfl rfl;have b9:=t9.F.Eh (ps:=["game","table","most"]) λ _ _ _ _ _ s hk=>zd λ _ _ _=>rq hk rfl e9 rfl rfl rfl;have c9:=t9.F.Eg (ps:=["game","table","most"]) (n:=2) rfl λ _ _ _ _ _ s hk=>HH λ _ _=>rq hk rfl e9 rfl rfl rfl;have ZR:=RR.F.binds (ps:=["game","table"]) λ _ _ _ _ _ _=>HH λ _ _=>rfl;have ZQ:=RQ.F.binds (ps:=["game","last","table"]) λ _ _ _ _ _ _=>zd λ _ _ _=>rfl;have ZP:=RP.F.binds (ps:=["game","last","table"]) λ _ _ _ _ _ _=>zd λ _ _ _=>rfl;have oZ:=Vu.mk' l w base (Hq Vu.F T);have yo:=Vv.mk' l w base (Hw Vv.F T);have yl:=t0.mk' l w base (Hu t0.F T);have uh:=iD.VE t1.F (Cq t1.F T yl (P:=l.prog) (w:=w) (base:=base)) t1.m b1;have ym:=t2.mk' l w base (Hv t2.F T);have Ap:=t3.mk' l w base (LZ t3.F T ym);have yp:=t4.mk' l w base (Hx t4.F T);have ug:=t5.mk' l w base (Cp t5.F T yp);have yi:=t6.mk' l w base (Hr t6.F T Ap);have yh:=t7.mk' l w base (Hn t7.F T);have yg:=t8.mk' l w base (Hm t8.F T yi ug yh);have wd:=iD.VE t9.F (Pp t9.F T (UK (187,183) (by simp)) yg uh (P:=l.prog) (w:=w) (base:=base)) t9.m b9;have ui:=Vy.mk' l w base (Cr Vy.F T);have Ar:=Vx.mk' l w base (L_ Vx.F T ui);have EX:=Vw.mk' l w base (Po Vw.F T Ar);have ET:=Vq.mk' l w base (Pj Vq.F T);have iT:=gU.of RQ.F (L8 RQ.F T wd EX (P:=l.prog) (w:=w) (base:=base)) RQ.m ZQ;have rO:=gU.of RR.F (L6 RR.F T wd (P:=l.prog) (w:=w) (base:=base)) RR.m ZR;have Aq:=gU.of RP.F (L7 RP.F T iT (P:=l.prog) (w:=w) (base:=base)) RP.m ZP;have EY:=Vp.mk' l w base (Pq Vp.F T);have yj:=Vt.mk' l w base (Hs Vt.F T);have yk:=Vs.mk' l w base (Ht Vs.F T oZ);have EU:=Vr.mk' l w base (Pk Vr.F T oZ yj yk);have EV:=Vn.mk' l w base (Pm Vn.F T iT);have EW:=Vo.mk' l w base (Pn Vo.F T iT rO Aq);exact L9 W9.F T yo EU ET EY EW iT rO EV
theorem walk{l:PySem.W.OpenLaw}{q:Program}{loose:List Str}{XP:(Str->Option Value)->Heap->Prop}{YP:World->Heap->Prop}{d:DefRec}{K:Params->J8}(hn:l.most=some 63)(QJ:d.params.defaults=[])
  (hY:∀(w:World) (h:Heap),YP w h->(K w.params).In h/\∀q∈([(187,183)]:List (Addr×Addr)),h.get? q.2=some (PySem.W.tabObj #[])/\(K w.params).lookup q.2=none/\PySem.W.CodeHd h q.1 q.2)
  (F:∀(w:World) (mg:Str->Option Value) (fa:Addr) (h:Heap),(K w.params).In h->h.Ns mainGlobals mg->mg d.name=some (.ref fa)->
   ∃fd:FuncData,(∀(s:Shared) (u:Value),BindsTo s fd ⟨[u],[]⟩ [("_law_script",u)])/\∀base:Heap,(K w.params).In base->(∀q∈([(187,183)]:List (Addr×Addr)),EL mg base q.1 q.2)->aX l.prog w (K w.params) mg base di 12 fa fd ["_law_script"] (cw (K w.params) rX)):
  PySem.W.WalkO q loose XP YP l.row.toRowW d [] (λ f vs=>PySem.call f vs):=
 L2.AB (n:=63) (k:=12) (x:="_law_script") (CX:=λ _=>di) (sp:=λ w=>cw (K w.params) rX) hn (by decide) QJ ⟨rfl,by decide,by decide⟩ hY F (λ _ _ a ns hl hO hS=>Ml hO hS) λ _ _ _ _ _ z=>z
end KK
open PySem PySem.W PyProof.Rows
def PySem.W.Fast.tw3641541907691926102:Program:=PySem.Challenge.pw_lastloser_k24_more_than_four_hundred_pai
theorem PySem.W.Fast.te3641541907691926102 : PySem.Challenge.pw_lastloser_k24_more_than_four_hundred_pai = PySem.W.Fast.tw3641541907691926102 := rfl
def PySem.W.Fast.tw7451045129028175170:Nat:=0
def PySem.W.Fast.tw5950009327821585346:Nat:=0
def PySem.W.Fast.tw3835836173957670470:Nat:=0
def PySem.W.Fast.tw2035885645244354282:Nat:=0
def PySem.W.Fast.tw7117513595079710635:Nat:=0
def PySem.W.Fast.tw17389258389358423757:Nat:=0
def PySem.W.Fast.tw11849638441166490260:Nat:=0
def PySem.W.Fast.tw9036820015147558070:Nat:=0
def PySem.W.Fast.tw14628638289105787486:Nat:=0
def PySem.W.Fast.tw9485963539355828062:Nat:=0
def PySem.W.Fast.tw340943301801174815:Nat:=0
def PySem.W.Fast.tw4179737117646122455:Nat:=0
def PySem.W.Fast.tw2725777745221521388:Nat:=0
def PySem.W.Fast.tw10027040512102706197:Nat:=0
def PySem.W.Fast.tw7636723271873469969:Nat:=0
def PySem.W.Fast.tw6623416807899850015:Nat:=0
def PySem.W.Fast.tw13575079771150751734:Nat:=0
def PySem.W.Fast.tw204175145626153139:Nat:=0
def PySem.W.Fast.tw13068059788232817740:Nat:=0
def PySem.W.Fast.tw5184380369925668874:Nat:=0
def PySem.W.Fast.tw5380481361541487104:Nat:=0
def PySem.W.Fast.tw5643926928641598473:Nat:=0
def PySem.W.Fast.tw6530840350392379479:Nat:=0
def PySem.W.Fast.tw7203850378808043825:Nat:=0
def PySem.W.Fast.tw4939731511900146656:Nat:=0
def PySem.W.Fast.tw16290835273020105960:Nat:=0
def PySem.W.Fast.tw15544442247605614337:Nat:=0
def PySem.W.Fast.tw4346138608824660282:Nat:=0
def PySem.W.Fast.tw14950388630791470922:Nat:=0
def PySem.W.Fast.tw15565436829473549695:Nat:=0
def PySem.W.Fast.tw5193803019380635213:Nat:=0
def PySem.W.Fast.tw16513669100339577909:Nat:=0
def PySem.W.Fast.tw1026415412083275409:Nat:=0
def PySem.W.Fast.tw7266610410852695027:Nat:=0
def PySem.W.Fast.tw8628324345124247993:Nat:=0
def PySem.W.Fast.tw2521441756652563199:Nat:=0
def PySem.W.Fast.tw4656216878885763502:Nat:=0
def PySem.W.Fast.tw8784102521128372194:Nat:=0
def PySem.W.Fast.tw15887309350680440166:Nat:=0
def PySem.W.Fast.tw9265251306076210543:Nat:=0
def PySem.W.Fast.tw17832352405935827610:Nat:=0
def PySem.W.Fast.tw2852890624332548111:Nat:=0
def PySem.W.Fast.tw11990957296637072800:Nat:=0
def PySem.W.Fast.tw6565495355983182516:Nat:=0
def PySem.W.Fast.tw116079405385568864:Nat:=0
def PySem.W.Fast.tw10850969326121072532:Nat:=0
def PySem.W.Fast.tw11016612189433991968:Nat:=0
def PySem.W.Fast.tw7230741804029044003:Nat:=0
def PySem.W.Fast.tw3991389385024555567:Nat:=0
def PySem.W.Fast.tw10453919380819781290:Nat:=0
def PySem.W.Fast.tw2878429851268314368:Nat:=0
def PySem.W.Fast.tw7166842302934858153:Nat:=0
def PySem.W.Fast.tw11999888540226345170:Nat:=0
def PySem.W.Fast.tw18099678909802371859:Nat:=0
def PySem.W.Fast.tw11598451509873617806:Nat:=0
def PySem.W.Fast.tw7218441838692617811:Nat:=0
def PySem.W.Fast.tw6287664434447045044:Nat:=0
def PySem.W.Fast.tw11011612039298662016:Nat:=0
def PySem.W.Fast.tw15466199815898217730:Nat:=0
def PySem.W.Fast.tw5574004459383599289:Nat:=0
def PySem.W.Fast.tw4457340961273113599:Nat:=0
def PySem.W.Fast.tw1019657364260994392:Nat:=0
def PySem.W.Fast.tw13582372751188501937:Nat:=0
def PySem.W.Fast.tw4962340178538763249:Nat:=0
def PySem.W.Fast.tw8562760824919125716:Nat:=0
def PySem.W.Fast.tw1563964889537119443:Nat:=0
def PySem.W.Fast.tw815877693578490625:Nat:=0
def PySem.W.Fast.tw17949209277752094487:Nat:=0
def PySem.W.Fast.tw16670599478484749824:Nat:=0
def PySem.W.Fast.tw13280778334728283384:Nat:=0
def PySem.W.Fast.tw18192930600097181620:Nat:=0
namespace KK
open L2
noncomputable def kE (P:Params)(x:Str)(t:Nat)(v:Value):DictEntry:={hash:=PyData.keyHash P x,key:=.str x t,val:=v}
noncomputable def kO (x:Str)(t l n r s u:Nat)(v w:Value):Obj:={cls:=.type "code",data:=.fields #[.str x t,.str x (t+1),.str "/claim/cut.py" (t+2),.int l 0,.int n 0,.int 0 0,.int 0 0,.int 3 0,.ref r,.bool true,.int 181 0,.ref (r+1),.none,v,w,.ref s,.int u 0,.int l 0,.str "/claim/cut.py" (u+1)]}
noncomputable def kF (x:Str)(i:Nat)(m:Str×Nat)(c:Nat)(d:Value:=.none):Obj:={cls:=.type "function",data:=.func (PySem.W.fnOf x x (bz (top i)) (aP (top i)) (aq (top i)) d .none .none (.str m.1 m.2) none (.ref c) .none)}
noncomputable def PY (q:Str)(c t l n u:Nat):Obj:={cls:=.type "code",data:=.fields #[.str "__init__" t,.str q (t+1),.str "/claim/cut.py" (t+2),.int l 0,.int n 0,.int 0 0,.int 0 0,.int 3 0,.ref (c - 5),.bool true,.int 181 0,.ref (c - 4),.none,.ref (c - 3),.ref (c - 2),.ref (c - 1),.int u 0,.int l 0,.str "/claim/cut.py" (u+1)]}
noncomputable def NO (q:Str)(i:Nat)(m:Str×Nat)(c:Nat):Obj:={cls:=.type "function",data:=.func (PySem.W.fnOf "__init__" q (bz (qT i)) (aP (qT i)) (aq (qT i)) .none .none .none (.str m.1 m.2) none (.ref c) .none)}
abbrev kC(x:Str)(a:Nat)(bs bm sub:List Value)(s t u:Nat):Obj:=excClassObj x x a (a - 1) bs bm true [] sub false none none (some (.ref s)) none (some (.str x t)) (some (.str x u)) (some (.bool true)) "ValueError.__new__"
noncomputable def kP (x:Str)(a i:Nat)(m:Str×Nat)(t l n u q:Nat)(d:Value:=.none):List (Nat×Obj):=[(a,if q=0 then kO x t l n (a - 3) (a - 1) u .none .none else kO x t l n (a - 5) (a - 1) u (.ref (a - 3)) (.ref (a - 2))),(a+1,kF x i m a d)]
noncomputable def m6:Str×Nat:=("lastloser.errors",187)
noncomputable def m0:Str×Nat:=("lastloser.checker",450)
noncomputable def m1:Str×Nat:=("lastloser.pairs",407)
noncomputable def m2:Str×Nat:=("lastloser.papers",489)
noncomputable def m3:Str×Nat:=("lastloser.seeking",334)
noncomputable def m4:Str×Nat:=("lastloser.things",360)
noncomputable def m5:Str×Nat:=("law_lastloser_k24_more_than_four_hundred_pai",497)
noncomputable def kD (P:Params):Obj:={cls:=.type "dict",data:=.dict #[kE P "__name__" 165 (.str "law_lastloser_k24_more_than_four_hundred_pai" 497),kE P "__doc__" 166 .none,kE P "__package__" 167 .none,kE P "__loader__" 168 (.builtin "__main__.__loader__#opaque"),kE P "__spec__" 169 .none,kE P "__annotations__" 170 (.ref 6),kE P "__builtins__" 171 (.ref 4),kE P "__file__" 173 (.str "/claim/cut.py" 172),kE P "__cached__" 174 .none,kE P "HeapError" 206 (.ref 24),kE P "TooMany" 229 (.ref 44),kE P "NoGame" 256 (.ref 63),kE P "NoTable" 283 (.ref 82),kE P "Wrong" 308 (.ref 101),kE P "NoPaper" 333 (.ref 120),kE P "one_more" 343 (.ref 129),kE P "first_sums" 359 (.ref 137),kE P "gone_by" 373 (.ref 144),kE P "thing_of" 384 (.ref 151),kE P "carried" 398 (.ref 158),kE P "put_to" 406 (.ref 165),kE P "MOST_PAIRS" 410 (.int 400 409),kE P "option_things" 416 (.ref 170),kE P "put_each" 422 (.ref 175),kE P "put_options" 428 (.ref 180),kE P "first_pairs" 440 (.ref 188),kE P "pairs" 449 (.ref 195),kE P "any_losing" 457 (.ref 200),kE P "holds" 466 (.ref 207),kE P "first_wrong" 477 (.ref 214),kE P "let_by" 488 (.ref 221),kE P "paper_of" 496 (.ref 226),kE P "_law_flow" 505 (.ref 233),kE P "_law_pick" 515 (.ref 240),kE P "_law_names" 521 (.ref 245),kE P "_law_near_the_bound" 527 (.ref 250),kE P "_law_wide_game" 533 (.ref 255),kE P "_law_wide_table" 539 (.ref 260),kE P "_law_counted_pairs" 545 (.ref 265),kE P "_law_is_many" 556 (.ref 272),kE P "_law_wrong_at" 566 (.ref 279),kE P "law" 572 (.ref 284)] 42}
noncomputable def Xs (P:Params):Obj:={cls:=.type "dict",data:=.dict #[kE P "__module__" 196 (.str "lastloser.errors" 187),kE P "__firstlineno__" 200 (.int 2 199),kE P "__static_attributes__" 201 (.ref 22),kE P "__weakref__" 203 (.ref 25),kE P "__doc__" 204 .none] 3}
noncomputable def Xr (P:Params):Obj:={cls:=.type "dict",data:=.dict #[kE P "__module__" 214 (.str "lastloser.errors" 187),kE P "__firstlineno__" 218 (.int 4 217),kE P "__init__" 225 (.ref 41),kE P "__static_attributes__" 226 (.ref 42),kE P "__doc__" 227 .none] 2}
noncomputable def Xq (P:Params):Obj:={cls:=.type "dict",data:=.dict #[kE P "__module__" 237 (.str "lastloser.errors" 187),kE P "__firstlineno__" 241 (.int 8 240),kE P "__init__" 250 (.ref 60),kE P "__static_attributes__" 253 (.ref 61),kE P "__doc__" 254 .none] 2}
noncomputable def Xp (P:Params):Obj:={cls:=.type "dict",data:=.dict #[kE P "__module__" 264 (.str "lastloser.errors" 187),kE P "__firstlineno__" 268 (.int 14 267),kE P "__init__" 277 (.ref 79),kE P "__static_attributes__" 280 (.ref 80),kE P "__doc__" 281 .none] 2}
noncomputable def TR (P:Params):Obj:={cls:=.type "dict",data:=.dict #[kE P "__module__" 291 (.str "lastloser.errors" 187),kE P "__firstlineno__" 295 (.int 20 294),kE P "__init__" 303 (.ref 98),kE P "__static_attributes__" 305 (.ref 99),kE P "__doc__" 306 .none] 2}
noncomputable def TQ (P:Params):Obj:={cls:=.type "dict",data:=.dict #[kE P "__module__" 316 (.str "lastloser.errors" 187),kE P "__firstlineno__" 320 (.int 25 319),kE P "__init__" 328 (.ref 117),kE P "__static_attributes__" 330 (.ref 118),kE P "__doc__" 331 .none] 2}
noncomputable def kT (vs:List Value)(n:Nat):Obj:={cls:=.type "tuple",data:=.seq vs.toArray n}
noncomputable def kK (P:Params):J8:=(3,kD P)::[(2,{cls:=.none,data:=.dict #[]}),(23,Xs P),(24,kC "HeapError" 24 [.type "ValueError"] [.type "ValueError",.type "Exception",.type "BaseException",.type "object"] [.ref 44,.ref 63,.ref 82,.ref 101,.ref 120] 15 189 197),(43,Xr P),(44,kC "TooMany" 44 [.ref 24] [.ref 24,.type "ValueError",.type "Exception",.type "BaseException",.type "object"] [] 28 207 215),(40,PY "TooMany.__init__" 40 219 6 1 223),(41,NO "TooMany.__init__" 2 m6 40),(62,Xq P),(63,kC "NoGame" 63 [.ref 24] [.ref 24,.type "ValueError",.type "Exception",.type "BaseException",.type "object"] [] 47 230 238),(59,PY "NoGame.__init__" 59 242 10 3 248),(60,NO "NoGame.__init__" 3 m6 59),(81,Xp P),(82,kC "NoTable" 82 [.ref 24] [.ref 24,.type "ValueError",.type "Exception",.type "BaseException",.type "object"] [] 66 257 265),(78,PY "NoTable.__init__" 78 269 16 3 275),(79,NO "NoTable.__init__" 4 m6 78),(100,TR P),(101,kC "Wrong" 101 [.ref 24] [.ref 24,.type "ValueError",.type "Exception",.type "BaseException",.type "object"] [] 85 284 292),(97,PY "Wrong.__init__" 97 296 22 2 301),(98,NO "Wrong.__init__" 5 m6 97),(119,TQ P),(120,kC "NoPaper" 120 [.ref 24] [.ref 24,.type "ValueError",.type "Exception",.type "BaseException",.type "object"] [] 104 309 317),(116,PY "NoPaper.__init__" 116 321 27 2 326),(117,NO "NoPaper.__init__" 6 m6 116),(130,kT [.none] 0),(181,kT [.none] 0)]++[kP "one_more" 128 8 m3 336 31 2 341 1,kP "first_sums" 136 9 m3 344 33 4 357 1 (.ref 130),kP "gone_by" 143 11 m4 362 47 4 371 1,kP "thing_of" 150 12 m4 374 56 2 382 1,kP "carried" 157 13 m4 385 61 3 396 1,kP "put_to" 164 14 m4 399 71 2 404 1,kP "option_things" 169 17 m1 411 75 2 414 0,kP "put_each" 174 18 m1 417 80 2 420 0,kP "put_options" 179 19 m1 423 82 2 426 0,kP "first_pairs" 187 20 m1 429 89 3 438 1 (.ref 181),kP "pairs" 194 21 m1 441 97 2 447 1,kP "any_losing" 199 23 m0 452 103 2 455 0,kP "holds" 206 24 m0 458 105 3 464 1,kP "first_wrong" 213 25 m0 467 109 3 475 1,kP "let_by" 220 26 m0 478 114 3 486 1,kP "paper_of" 225 28 m2 491 123 3 494 0,kP "_law_flow" 232 30 m5 499 127 1 503 1,kP "_law_pick" 239 31 m5 506 129 2 513 1,kP "_law_names" 244 32 m5 516 144 2 519 0,kP "_law_near_the_bound" 249 33 m5 522 146 2 525 0,kP "_law_wide_game" 254 34 m5 528 150 1 531 0,kP "_law_wide_table" 259 35 m5 534 161 4 537 0,kP "_law_counted_pairs" 264 36 m5 540 174 2 543 0,kP "_law_is_many" 271 37 m5 546 186 4 554 1,kP "_law_wrong_at" 278 38 m5 557 197 3 564 1,kP "law" 283 39 m5 567 203 1 570 0].flatten
noncomputable def kA:List Addr:=[3,2,23,24,43,44,40,41,62,63,59,60,81,82,78,79,100,101,97,98,119,120,116,117,130,181,128,129,136,137,143,144,150,151,157,158,164,165,169,170,174,175,179,180,187,188,194,195,199,200,206,207,213,214,220,221,225,226,232,233,239,240,244,245,249,250,254,255,259,260,264,265,271,272,278,279,283,284]
theorem tF{K:J8}{h:Heap}{mg:Str->Option Value}{x:Str}{i:Nat}(X:K.In h)(G:h.Ns mainGlobals mg)(m:Str×Nat)(c:Nat)(a:PySem.W.nsIn K mainGlobals x=some (some (.ref (c+1))):=by kernel_rfl)(l:K.lookup (c+1)=some (kF x i m c):=by kernel_rfl)(e:PySem.W.codeIn K (.ref c) x=true:=by kernel_rfl):cW K mg x i (c+1) (PySem.W.fnOf x x (bz (top i)) (aP (top i)) (aq (top i)) .none .none .none (.str m.1 m.2) none (.ref c) .none):=
 ⟨C4 X G a,DB (st:=top i) l e (by unfold PySem.W.keepIn;dsimp only;rw[l];rfl)⟩
theorem kn{K:J8}{h:Heap}{mg:Str->Option Value}{x:Str}(X:K.In h)(G:h.Ns mainGlobals mg)(e:PySem.W.nsIn K mainGlobals x=some none:=by kernel_rfl):mg x=none:=PySem.W.mg_none_of X G e
theorem tC{K:J8}{h:Heap}{mg:Str->Option Value}{x:Str}{i:Nat}{d:Value}(X:K.In h)(G:h.Ns mainGlobals mg)(m:Str×Nat)(c:Nat)(a:PySem.W.nsIn K mainGlobals x=some (some (.ref (c+1))):=by kernel_rfl)(l:K.lookup (c+1)=some (kF x i m c d):=by kernel_rfl)(e:PySem.W.codeIn K (.ref c) x=true:=by kernel_rfl):TopC K mg x i d c (c+1) (PySem.W.fnOf x x (bz (top i)) (aP (top i)) (aq (top i)) d .none .none (.str m.1 m.2) none (.ref c) .none):=
 ⟨C4 X G a,Ii (st:=top i) l e (by unfold PySem.W.keepIn;dsimp only;rw[l];rfl)⟩
noncomputable def T8 (P:Params):J8:=[(183,PySem.W.tabObj #[])]++kK P
noncomputable def Xy:List Addr:=[183]++kA
theorem cH{K:J8}{h:Heap}(X:K.In h)(c P:Addr)(o:Obj)(vs:Array Value)(file:Str)(tf:Nat)(flags:Int)(tg:Nat)(R7:Bool)(text:Int)(tt:Nat)(l:K.lookup c=some o)(e1:o.cls=.type "code")(e2:o.data=.fields vs)(e3:vs[11]?=some (.ref P))(e4:vs.getD 11 .none=.ref P)(e5:vs.getD 18 .none=.str file tf)(e6:vs.getD 7 .none=.int flags tg)(e7:vs.getD 9 .none=.bool R7)(e8:vs.getD 10 .none=.int text tt)(e9:c≠P):PySem.W.CodeHd h c P:=⟨o,vs,file,tf,flags,tg,R7,text,tt,X _ _ l,e1,e2,e3,e4,e5,e6,e7,e8,e9⟩
theorem k0{P:Params}{h:Heap}(X:(T8 P).In h):(kK P).In h/\∀q∈([(187,183)]:List (Addr×Addr)),h.get? q.2=some (PySem.W.tabObj #[])/\(kK P).lookup q.2=none/\PySem.W.CodeHd h q.1 q.2:=by
 have n0:(kK P).lookup 183=none:=by kernel_rfl
 have Y:(kK P).In h:=λ b o e=>by
  refine X b o ?_;unfold T8;by_cases z0:b=183
  ·rw[z0,n0]at e;cases e
  simp only[cons_append,nil_append,y7,beq_false_of_ne z0];exact e
 refine⟨Y,λ q hq=>?_⟩;simp only[C3,not_mem_nil,or_false]at hq;rcases hq with rfl
 ·exact⟨X _ _ (by kernel_rfl),n0,cH Y 187 183 (kO "first_pairs" 429 89 3 182 186 438 (.ref 184) (.ref 185)) _ _ _ _ _ _ _ _ (by kernel_rfl) rfl rfl rfl rfl rfl rfl rfl rfl (by decide)⟩
theorem cB{K:J8}(x:Str)(a:Nat)(bs bm sub:List Value)(s t u:Nat)(l:K.lookup a=some (kC x a bs bm sub s t u):=by kernel_rfl)(e:bm.contains (.type "BaseException")=true:=by kernel_rfl):lF K a:=⟨⟨_,_,_,_,_,_,_,_,_,_,_,_,_,_,_,_,_,l,e⟩⟩
theorem cF{K:J8}{h:Heap}{mg:Str->Option Value}{q:Str}{ps ns:List Str}(X:K.In h)(G:h.Ns mainGlobals mg)(m:Str×Nat)(i:Nat)(x:Str)(a:Nat)(bs bm sub:List Value)(s t u:Nat)(e1:PySem.W.nsIn K mainGlobals x=some (some (.ref a)):=by kernel_rfl)(l:K.lookup a=some (kC x a bs bm sub s t u):=by kernel_rfl)(l2:K.lookup (a - 3)=some (NO q i m (a - 4)):=by kernel_rfl)(e2:PySem.W.codeIn K (.ref (a - 4)) q=true:=by kernel_rfl)(e3:PySem.W.tailIn K U8 bm=true:=by kernel_rfl)(e4:PySem.W.nsOkIn K (a - 1)=true:=by kernel_rfl)(e5:PySem.W.nsIn K (a - 1) "__init__"=some (some (.ref (a - 3))):=by kernel_rfl)(e6:PySem.W.isFn K (.ref (a - 3))=true:=by kernel_rfl)(e7:PySem.W.keepIn K (.ref a)=true:=by kernel_rfl)(e8:PySem.W.findIn K (.ref a) "__setattr__"=some (some (.builtin "object.__setattr__")):=by kernel_rfl) (f1:PySem.W.findIn K (.ref a) "__getattribute__"=some (some (.builtin "BaseException.__getattribute__")):=by kernel_rfl) (f2:PySem.W.findIn K (.ref a) "__getattr__"=some none:=by kernel_rfl) (f3:PySem.W.mroIn K a (.type "BaseException")=some true:=by kernel_rfl) (f4:PySem.W.mroIn K a (.type "object")=some true:=by kernel_rfl) (f5:(PySem.W.clsIn K a).any (·.hasDict)=true:=by kernel_rfl) (f6:PySem.W.findIn K (.ref a) "__class__"=some (some (.builtin "object.__class__")):=by kernel_rfl) (f7:PySem.W.specialIn K (.builtin "object.__class__") "__get__"=some (some (.builtin "getset_descriptor.__get__")):=by kernel_rfl) (f8:PySem.W.takesIn K (.builtin "object.__class__")=some true:=by kernel_rfl) (Zj:(ns.all λ f=>L4.Mz (PySem.W.findIn K (.ref a) f))=true:=by kernel_rfl) (Zi:bm.contains (.type "BaseException")=true:=by kernel_rfl):L4.oY K mg x q (qT i) a (a - 3) ps ns:=
 ⟨C4 X G e1,⟨_,DB (st:=qT i) l2 e2 (by unfold PySem.W.keepIn;dsimp only;rw[l2];rfl)⟩,⟨⟨_,_,_,_,_,_,_,_,_,_,_,_,_,_,_,l,e3,e4,e5⟩,e6,e7,e8⟩,⟨f1,f2,f3,f4,f5,f6,f7,f8⟩,⟨⟨_,_,_,_,_,_,_,_,_,_,_,_,_,_,_,_,_,l,Zi⟩⟩,Zj⟩
def pg:Program:={PySem.Challenge.pw_lastloser_k24_more_than_four_hundred_pai with main:={PySem.Challenge.pw_lastloser_k24_more_than_four_hundred_pai.main with body:=[top 0,top 1,top 2,top 3,top 4,top 5,top 6,top 7,top 8,top 9,top 10,top 11,top 12,top 13,top 14,top 15,top 16,top 17,top 18,top 19,top 20,top 21,top 22,top 23,top 24,top 25,top 26,top 27,top 28,top 29,top 30,top 31,top 32,top 33,top 34,top 35,top 36,top 37,top 38,top 39]}}
def lw:PySem.W.OpenLaw:={PySem.Challenge.rw_lastloser_k24_more_than_four_hundred_pai with prog:=pg}
end KK
set_option maxRecDepth 100000 in
set_option maxHeartbeats 0 in
theorem KK.pre:KK.lw.Holds:=by
 w_on;o_law;o_head (PySem.W.kHook KK.T8 KK.Xy (λ _=>by kernel_rfl));(case hw=>w_witness2)
 refine KK.walk (l:=KK.lw) rfl rfl (K:=KK.kK) (λ w h Y=>KK.k0 (PySem.W.kIn_of Y)) ?F
 case F=>
  intro w mg fa h KX G Qo;have hm:mg "law"=some (.ref fa):=Qo;have e:=hm.symm.trans (C4 KX G (v:=.ref (283+1)) (by kernel_rfl));cases e;exact KK.all_mk ⟨KK.kn KX G,KK.kn KX G,KK.kn KX G,KK.kn KX G,KK.kn KX G,KK.kn KX G,KK.kn KX G,KK.kn KX G,KK.kn KX G,KK.kn KX G,KK.kn KX G,KK.kn KX G,⟨_,.int _,C4 KX G (v:=.int 400 409) (by kernel_rfl),⟨_,rfl⟩,λ H=>L3.aw.mpr rfl⟩,C4 KX G (by kernel_rfl),⟨by kernel_rfl,by kernel_rfl,by kernel_rfl⟩,KK.cB "HeapError" 24 [.type "ValueError"] [.type "ValueError",.type "Exception",.type "BaseException",.type "object"] [.ref 44,.ref 63,.ref 82,.ref 101,.ref 120] 15 189 197,KK.cF KX G KK.m6 2 "TooMany" 44 [.ref 24] [.ref 24,.type "ValueError",.type "Exception",.type "BaseException",.type "object"] [] 28 207 215,KK.cF KX G KK.m6 3 "NoGame" 63 [.ref 24] [.ref 24,.type "ValueError",.type "Exception",.type "BaseException",.type "object"] [] 47 230 238,KK.cF KX G KK.m6 4 "NoTable" 82 [.ref 24] [.ref 24,.type "ValueError",.type "Exception",.type "BaseException",.type "object"] [] 66 257 265,KK.cF KX G KK.m6 5 "Wrong" 101 [.ref 24] [.ref 24,.type "ValueError",.type "Exception",.type "BaseException",.type "object"] [] 85 284 292,KK.cF KX G KK.m6 6 "NoPaper" 120 [.ref 24] [.ref 24,.type "ValueError",.type "Exception",.type "BaseException",.type "object"] [] 104 309 317,by kernel_rfl,by kernel_rfl,by kernel_rfl,by kernel_rfl⟩ (KK.tF KX G KK.m3 128) (KK.tC KX G KK.m3 136) (by kernel_rfl) (KK.tF KX G KK.m4 143) (KK.tF KX G KK.m4 150) (KK.tF KX G KK.m4 157) (KK.tF KX G KK.m4 164) (KK.tF KX G KK.m1 169) (KK.tF KX G KK.m1 174) (KK.tF KX G KK.m1 179) (KK.tC KX G KK.m1 187) (by kernel_rfl) (KK.tF KX G KK.m1 194) (KK.tF KX G KK.m0 199) (KK.tF KX G KK.m0 206) (KK.tF KX G KK.m0 213) (KK.tF KX G KK.m0 220) (KK.tF KX G KK.m2 225) (KK.tF KX G KK.m5 232) (KK.tF KX G KK.m5 239) (KK.tF KX G KK.m5 244) (KK.tF KX G KK.m5 249) (KK.tF KX G KK.m5 254) (KK.tF KX G KK.m5 259) (KK.tF KX G KK.m5 264) (KK.tF KX G KK.m5 271) (KK.tF KX G KK.m5 278) (KK.tF KX G KK.m5 283)
theorem PySem.Challenge.cw_lastloser_k24_more_than_four_hundred_pai_holds : PySem.Challenge.rw_lastloser_k24_more_than_four_hundred_pai.Holds :=
 KK.pre
