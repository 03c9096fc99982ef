import PyProof.Rows.All
import Wide.All
import OpenK.AllK
import Wide.FinOn
import Lean
import PyProof.EqAt
import PyProof.EqKinds
import PyProof.TupleCall
import PyProof.StrWalks
import PyProof.ConsumeWalk
import PyProof.TupleKey
import PyProof.DictFindH
import PyProof.P3Eq
import PyProof.DictRoadsH
import PyProof.Rows.TupTab
import KE.KLam
import KE.KSortTup
import PyProof.ZipIter
import PyProof.Draws
import PyProof.WalksMore
import PyProof.ListMulRoad
import PyProof.AutoListH
import PyProof.FactsAll.tuple_2
import PyProof.FactsAll.tuple
import PyProof.TupleIter
import PyProof.AttrMissHeap
import PyProof.DictIter
import PyProof.DictWalks
import KE.KDictSum
import KE.KDictOf
import PyProof.EnumMake
import KE.BitLaws
import PyProof.RaisesMany
import PyProof.ExcInit
import PyProof.ExcClass3
import PyProof.ExcArgsOwn
import PyProof.RulesTry
import PyProof.RulesAs
import PyProof.NsDelKeeps
import KE.KIsAll
import PyProof.Rows.SortWalk
import PyProof.Rows.Range3
import PyProof.ListRange
import PySem.Challenge.RW_lastloser_k17_things_of_great_sums
set_option tactic.hygienic false
local macro_rules|`(tactic|omega)=>`(tactic|lia)
local macro_rules|`(tactic|obtain $p:rcasesPatMed:=$t:term)=>`(tactic|first|(refine Classical.byContradiction fun k=>?_;rcases $t:term with $p:rcasesPatMed<;>(refine k ?_;clear k))|rcases $t:term with $p:rcasesPatMed)
set_option Elab.async false
set_option linter.all false
set_option maxRecDepth 100000
set_option maxHeartbeats 4000000
open List
def a8:=@PyProof.Rows.slot_tuple_getitem
def a9:=@PySem.wpAny_typeNameOfWhole_keyiter
def c3:=@PySem.F.slot_dict_keyiterator_next
def c4:=@PyProof.Rows.callWith_type1
def c5:=@PySem.F.slot_tuple_iterator_next
def c6:=@getElem?_append_right
def c7:=@getD_eq_getElem?_getD
def c8:=@getElem?_append_left
def c9:=@Array.getElem?_eq_getElem
def e7:=@drop_eq_getElem_cons
def g9:=@List.getElem?_eq_some_iff
def i0:=@List.getElem?_eq_none_iff
def i4:=@PySem.F.slot_list_append
def i5:=@getElem?_eq_getElem
def i6:=@PySem.F.type_list_append
def i7:=@PySem.F.plainAttrs_list
def i8:=@getElem?_replicate
def i9:=@PySem.wpAny_callSpecial?_slot
def j0:=@length_eq_zero_iff
def j4:=@Array.getElem?_eq_none
def j5:=@PySem.Heap.get?_push_of_some
def j6:=@PySem.Heap.get?_update_other
def j7:=@getElem?_set_self
def j8:=@PySem.Heap.get?_update_self
def j9:=@mem_append_right
def k4:=@length_singleton
def k5:=@Array.getElem?_toList
def k7:=@length_replicate
def k8:=@getElem?_eq_none
def k9:=@mem_cons_of_mem
def l4:=@mem_of_getElem?
def l5:=@mem_append_left
def l6:=@PySem.Around.under_plainId
def l7:=@getElem?_set_ne
def l8:=@PySem.Heap.SameBut.update
def l9:=@getElem?_range
def m6:=@PySem.mem_of_lookup
def m7:=@replicate_succ
def m8:=@Array.length_toList
def m9:=@PySem.Heap.get?_push_size
def n9:=@PySem.F.plain_extend_loop
def o7:=@filterMap_cons
def o8:=@mem_cons_self
def p5:=@Bool.false_ne_true
def p6:=@length_append
def p7:=@Bool.false_eq_true
def p8:=@Int.emod_lt_of_pos
def p9:=@PySem.wpAny_setField_rec
def q8:=@Nat.lt_of_le_of_lt
def q9:=@Nat.lt_of_lt_of_le
def r6:=@mem_singleton
def r9:=@PySem.wpAny_Call_Name_kw
def s9:=@of_decide_eq_false
def u6:=@PySem.Obj.data_mapFields
def u7:=@Int.lt_of_le_of_lt
def u9:=@getElem?_map
def w5:=@decide_eq_true_eq
def w6:=@Int.toNat_natCast
def w9:=@PySem.wpAny_newObj_type
def x3:=@flatten_cons
def x4:=@PySem.wpAny_truthy_bool
def x5:=@PySem.wpAny_pyIter_list
def x6:=@length_range
def x8:=@List.size_toArray
def x9:=@Nat.lt_succ_of_lt
def y0:=@lookup_cons
def y3:=@Nat.le_of_not_lt
def y4:=@length_cons
def y6:=@Nat.lt_of_not_le
def y7:=@take_length
def y8:=@PySem.wpAny_call_entry
def y9:=@PySem.F.plain_max_loop
def z9:=@Bool.and_eq_true
def A0:=@length_take
def A1:=@getElem_mem
def A2:=@Nat.le_add_right
def A3:=@PySem.Heap.size_update
def A4:=@PySem.wpAny_isInstance
def A5:=@Bool.eq_iff_iff
def A6:=@append_nil
def A7:=@decide_eq_false
def A8:=@PySem.wpAny_loadPart'
def A9:=@Int.emod_nonneg
def B0:=@Option.some.inj
def B1:=@PySem.PassesOwn.never
def B2:=@PySem.wpAny_passesOwn
def B3:=@PySem.codeAny_builtin
def B4:=@PySem.W.kia_one
def B5:=@length_map
def B6:=@mem_append
def B7:=@map_append
def B8:=@Nat.le_antisymm
def B9:=@PySem.wpAny_updateSeq
def C0:=@decide_eq_true
def C1:=@PySem.wpAny_seqItems
def C2:=@PySem.Heap.size_push
def C3:=@PySem.wpAny_tryCatch
def C4:=@PySem.wpAny_setField
def C5:=@PySem.wpAny_holding
def C6:=@PySem.wpAny_attempt
def C7:=@Nat.xor_assoc
def C8:=@Nat.lt_irrefl
def C9:=@map_cons
def D1:=@mem_cons
def D3:=@PySem.plainId_quiet
def D4:=@Int.zero_add
def D5:=@Nat.ne_of_lt
def D6:=@PySem.Heap.lt_size
def D7:=@mem_map
def D8:=@List.map_map
def D9:=@Nat.le_trans
def E3:=@Nat.zero_add
def E4:=@Nat.le_of_eq
def E5:=@map_nil
def E6:=@PySem.wpAny_typeOf
def E7:=@PySem.codeAny_mono
def E8:=@Nat.ne_of_gt
def G0:=@Nat.le_of_lt
def G5:=@Nat.le_refl
def G6:=@PySem.sizeLine_eq
def G7:=@Nat.zero_le
def G8:=@PySem.wpAny_field
def G9:=@PySem.wpAny_letGo
def H0:=@PySem.wpAny_bind
def H9:=@PySem.wpAny_pure
def J0:=@PySem.wpAny_rule
def J1:=@PySem.call_meets
def J3:=@PySem.wpAny_mono
def J4:=@if_false
def J5:=@congrArg
def J6:=@Ne.symm
def J7:=@if_true
def J8:=@if_pos
def J9:=@if_neg
abbrev K2:=PySem.W.Frag
namespace L2
open PySem PySem.Spec PyProof.Rows
abbrev Key:=Sum Int Str
def sg:Key->Value->Bool
 | .inl k,v=>Value.isInt k v
 | .inr x,v=>Value.isStrOf x v
def SK(w:World):Key->Int
 | .inl k=>hashInt k
 | .inr x=>hashStr w x
theorem bO:∀{k:Key} {v:Value},sg k v=true->(∃i t,k=Sum.inl i/\v=Value.int i t)\/(∃x t,k=Sum.inr x/\v=Value.str x t)
 | .inl i,v,h=>by obtain⟨t,e⟩:=Value.isInt_shape (k:=i) (v:=v) h;exact .inl ⟨i,t,rfl,e⟩
 | .inr x,v,h=>by obtain⟨t,e⟩:=Value.isStrOf_shape (x:=x) (v:=v) h;exact .inr ⟨x,t,rfl,e⟩
theorem y_(i:Int)(t:Tok):sg (.inl i) (.int i t)=true:=by simp[sg,Value.isInt]
theorem Mh(a b:Int):decide ((Sum.inl a:Key)=Sum.inl b)=(a==b):=by
 by_cases e:a=b
 ·subst e;simp
 ·have h:¬(Sum.inl a:Key)=Sum.inl b:=λ q=>e (Sum.inl.inj q);rw[A7 h];exact(beq_eq_false_iff_ne.mpr e).symm
theorem Md(a b:Str):decide ((Sum.inr a:Key)=Sum.inr b)=decide (a=b):=by
 by_cases e:a=b
 ·subst e;simp
 ·have h:¬(Sum.inr a:Key)=Sum.inr b:=λ q=>e (Sum.inr.inj q);rw[A7 h,A7 e]
theorem Mg(a:Int)(b:Str):decide ((Sum.inl a:Key)=Sum.inr b)=false:=A7 (λ q=>nomatch q)
theorem Me(a:Str)(b:Int):decide ((Sum.inr a:Key)=Sum.inl b)=false:=A7 (λ q=>nomatch q)
def eT(prog:Program)(w:World):PySem.KeyKind prog w Key where
 is:=sg
 hash:=SK w
 inj:=λ v a b ha hb=>by
  rcases bO ha with⟨i,t,rfl,rfl⟩|⟨x,t,rfl,rfl⟩
  ·rcases bO hb with⟨j,u,rfl,e⟩|⟨y,u,rfl,e⟩
   ·injection e with e1 _;rw[e1]
   ·exact nomatch e
  ·rcases bO hb with⟨j,u,rfl,e⟩|⟨y,u,rfl,e⟩
   ·exact nomatch e
   ·injection e with e1 _;rw[e1]
 byValue:=λ k v h=>by rcases bO h with⟨i,t,rfl,rfl⟩|⟨x,t,rfl,rfl⟩ <;> rfl
 pyHash:=λ hv h=>by
  rcases bO hv with⟨i,t,rfl,rfl⟩|⟨x,t,rfl,rfl⟩
  ·exact wpAny_pyHash_int h
  ·exact wpAny_pyHash_str h
 eqBool:=λ hu hv h=>by
  rcases bO hu with⟨i,t,rfl,rfl⟩|⟨x,t,rfl,rfl⟩
  ·rcases bO hv with⟨j,u,rfl,rfl⟩|⟨y,u,rfl,rfl⟩
   ·rw[Mh]at h;exact wpAny_eqBool_int h
   ·rw[Mg]at h;exact SeqAt.EqAt.int_str i t y u _ _ _ _ h
  ·rcases bO hv with⟨j,u,rfl,rfl⟩|⟨y,u,rfl,rfl⟩
   ·rw[Me]at h;exact SeqAt.EqAt.str_int x t j u _ _ _ _ h
   ·rw[Md]at h;exact wpAny_eqBool_str h
 «strs»:=λ k x t v h=>by
  rcases bO h with⟨i,u,rfl,e⟩|⟨y,u,rfl,e⟩
  ·exact nomatch e
  ·injection e with e1 _
   subst e1;cases v <;> rfl
theorem rT(prog:Program)(w:World)(i:Int)(t:Tok):(eT prog w).is (.inl i) (.int i t)=true:=y_ i t
inductive V where
 |bM|bl (b:Bool)|int (i:Int)|str (x:Str)|DK (b:Array UInt8)|NC (b:UInt64)|ref (a:Addr)|ty (n:String)
 deriving DecidableEq
def RelV:V->Value->Prop
 | .bM,u=>u=Value.none
 | .bl b,u=>u=Value.bool b
 | .int i,u=>∃t,u=Value.int i t
 | .str x,u=>∃t,u=Value.str x t
 | .DK b,u=>∃t,u=Value.bytes b t
 | .NC b,u=>∃t,u=Value.float b t
 | .ref a,u=>u=Value.ref a
 | .ty n,u=>u=Value.type n
abbrev Vals:List V->List Value->Prop:=Paired RelV
theorem Vals.length {xs:List V}{us:List Value}(r:Vals xs us):xs.length=us.length:=Paired.length r
theorem Vals.get:∀{xs:List V} {us:List Value} {i:Nat} {x:V},Vals xs us->xs[i]?=some x->∃u,us[i]?=some u/\RelV x u
 |_,_,_,_,.nil,e=>by simp at e
 |_,_,0,_,.cons r _,e=>by simp at e;subst e;exact⟨_,rfl,r⟩
 |_,_,i+1,x,.cons _ t,e=>by obtain⟨u,h1,h2⟩:=Vals.get (i:=i) (x:=x) t (by simpa using e);exact⟨u,by simpa using h1,h2⟩
theorem Vals.set {x:V}{u:Value}(r:RelV x u):∀{xs:List V} {us:List Value} (i:Nat),Vals xs us->Vals (xs.set i x) (us.set i u)
 |_,_,_,.nil=>.nil
 |_,_,0,.cons _ t=>.cons r t
 |_,_,i+1,.cons q t=>.cons q (Vals.set r i t)
theorem Vals.append:∀{xs ys:List V} {us ws:List Value},Vals xs us->Vals ys ws->Vals (xs++ys) (us++ws)
 |_,_,_,_,.nil,s=>s
 |_,_,_,_,.cons r t,s=>.cons r (Vals.append t s)
theorem Vals.take:∀{xs:List V} {us:List Value} (n:Nat),Vals xs us->Vals (xs.take n) (us.take n)
 |_,_,0,_=>.nil
 |_,_,_+1,.nil=>.nil
 |_,_,n+1,.cons r t=>.cons r (Vals.take n t)
theorem Vals.drop:∀{xs:List V} {us:List Value} (n:Nat),Vals xs us->Vals (xs.drop n) (us.drop n)
 |_,_,0,r=>r
 |_,_,_+1,.nil=>.nil
 |_,_,n+1,.cons _ t=>Vals.drop n t
theorem Vals.none_of:∀{xs:List V} {us:List Value} {i:Nat},Vals xs us->xs[i]?=none->us[i]?=none:=λ{xs us i} r e=>by have h1:=r.length;have h2:xs.length<=i:=i0.mp e;exact i0.mpr (by omega)
def MY:Option V->Option Value->Prop
 |some v,some u=>RelV v u
 |none,none=>True
 |_,_=>False
def KV{κ:Type}:List (κ×V)->List (κ×Value)->Prop:=Paired λ(p:κ×V) (q:κ×Value)=>p.1=q.1/\RelV p.2 q.2
def kV:Key->V
 | .inl i=>.int i
 | .inr x=>.str x
inductive HO where
  |lst (xs:List V)
  |tup (xs:List V)
  |dK (kvs:List (Key×V))|dT (kvs:List (List Key×V))
  |set (S:Int->Bool) (n:Nat)
  |ins (C dx:Addr) (fs:List (Str×V))
  |own (x:Addr)
  |xd (fs:List (Str×V))
  |met (f x:Addr)
  |Kg (lo hi:Int)
  |gB (o:Obj) (u:HO)
  |zJ (ps:Array Value)
  |ext (φ:Heap->Prop)
abbrev Hp:=Addr->Option HO
def upd(H:Hp)(a:Addr)(o:HO):Hp:=λ b=>if b=a then some o else H b
theorem bW{H:Hp}{a:Addr}{o:HO}:upd H a o a=some o:=by unfold upd;rw[J8 rfl]
theorem bg{H:Hp}{a b:Addr}{o:HO}(h:b≠a):upd H a o b=H b:=by unfold upd;rw[J9 h]
theorem a_{H:Hp}{a b:Addr}{o u:HO}(h:H a=some o)(h':H b=some u)(d:o≠u):a≠b:=by intro e;subst e;rw[h]at h';exact d (B0 h')
theorem ck{H:Hp}{a b:Addr}{o:HO}(h:H a=some o)(h':H b=none):a≠b:=by intro e;subst e;rw[h]at h';cases h'
section
variable (P:Program)(w:World)
def cg(H:Hp)(h:Heap)(a:Addr):HO->Prop
 | .lst xs=>xs.length<=sizeLine/\∃(av:List Value) (n:Nat),Vals xs av/\h.get? a=some {cls:=.type "list",data:=.seq av.toArray n}
 | .tup xs=>xs.length<=sizeLine/\∃av:List Value,Vals xs av/\IsTup h a av.toArray
 | .dK kvs=>kvs.length<=sizeLine/\(a==sysModules)=false/\∃vs,KV kvs vs/\h.DictOf (eT P w) a vs
 | .dT kvs=>kvs.length<=sizeLine/\(a==sysModules)=false/\∃xs:List (List Key×Addr×Value),
   Paired (λ(p:List Key×V) (q:List Key×Addr×Value)=>p.1=q.1/\H q.2.1=some (.tup (p.1.map kV))/\RelV p.2 q.2.2) kvs xs/\
   ∃o es ep,h.get? a=some o/\o.ExactDict/\o.data=.dict es ep/\es.toList=xs.map (entryOfKey (tupleKind (eT P w)))/\(xs.map (·.1)).Nodup
 | .set S n=>h.SetOf (intKind P w) a S n
 | .ins C dx fs=>H dx=some (.own a)/\fs.length<=1000/\dx≠a/\h.get? a=some (PySem.W.instObj C dx)/\
   ∃mA,h.Ns1 dx mA/\(∀f,MY (fs.lookup f) (mA f))/\PySem.Within mA (fs.map (·.1))
 | .own _=>∃o,h.get? a=some o
 | .xd fs=>∃mA,h.Ns1 a mA/\∀f,MY (fs.lookup f) (mA f)
 | .Kg lo hi=>∃t u v,h.get? a=some {cls:=.type "range",data:=.fields #[.int lo t,.int hi u,.int 1 v]}
 | .gB o u=>h.get? a=some o/\cg H h a u
 | .zJ ps=>h.get? a=some {cls:=.none,data:=.fields ps}
 | .met f x=>h.get? a=some (PySem.W.methodObj (.ref f) (.ref x))
 | .ext φ=>φ h/\(∃o,h.get? a=some o)/\∀h1 h2:Heap,φ h1->(∀o,h1.get? a=some o->h2.get? a=some o)->φ h2
def jH(H:Hp)(h:Heap):Prop:=∀a o,H a=some o->cg P w H h a o
end
section
variable {P:Program}{w:World}{H H':Hp}{h h':Heap}{a:Addr}{o:HO}
theorem cg.lt (x:cg P w H h a o):a < h.objs.size:=by
 cases o with
 |lst xs=>obtain⟨_,_,_,_,e⟩:=x;exact D6 e
 |tup xs=>obtain⟨_,_,_,p⟩:=x;exact p.lt
 |dK kvs=>obtain⟨_,_,_,_,o,_,_,e,_⟩:=x;exact D6 e
 |dT kvs=>obtain⟨_,_,_,_,o,_,_,e,_⟩:=x;exact D6 e
 |set S n=>obtain⟨o,_,_,_,e,_⟩:=x;exact D6 e
 |ins C dx fs=>obtain⟨_,_,_,e,_⟩:=x;exact D6 e
 |own y=>obtain⟨_,e⟩:=x;exact D6 e
 |xd fs=>obtain⟨_,⟨_,_,_,e,_⟩,_⟩:=x;exact D6 e
 |Kg lo hi=>obtain⟨_,_,_,e⟩:=x;exact D6 e
 |gB ob u=>obtain⟨e,_⟩:=x;exact D6 e
 |zJ ps=>exact D6 (show h.get? a=some _ from x)
 |met f y=>exact D6 (show h.get? a=some _ from x)
 |ext φ=>obtain⟨_,⟨_,e⟩,_⟩:=x;exact D6 e
theorem Paired.BY {α β:Type}{F G:α->β->Prop}:∀{l₁:List α} {l₂:List β},Paired F l₁ l₂->(∀a b,F a b->G a b)->Paired G l₁ l₂
 |_,_,.nil,_=>.nil
 |_,_,.cons r t,f=>.cons (f _ _ r) (Paired.BY t f)
theorem cg.jV (x:cg P w H h a o)(k:∀b u,(b=a\/H b=some (.own a))->h.get? b=some u->h'.get? b=some u) (ho:∀b,H b=some (.own a)->H' b=some (.own a)) (ht:∀b xs,H b=some (.tup xs)->H' b=some (.tup xs)):cg P w H' h' a o:=by
 induction o with
 |lst xs=>obtain⟨z,av,n,r,e⟩:=x;exact⟨z,av,n,r,k _ _ (.inl rfl) e⟩
 |tup xs=>obtain⟨z,av,r,ob,e,c⟩:=x;exact⟨z,av,r,ob,k _ _ (.inl rfl) e,c⟩
 |dK kvs=>obtain⟨z,y,vs,r,ob,es,ep,e,c⟩:=x;exact⟨z,y,vs,r,ob,es,ep,k _ _ (.inl rfl) e,c⟩
 |dT kvs=>obtain⟨z,y,xs,r,ob,es,ep,e,c⟩:=x;exact⟨z,y,xs,Paired.BY r λ p q z=>⟨z.1,ht _ _ z.2.1,z.2.2⟩,ob,es,ep,k _ _ (.inl rfl) e,c⟩
 |set S n=>obtain⟨ob,es,ep,t,e,c⟩:=x;exact⟨ob,es,ep,t,k _ _ (.inl rfl) e,c⟩
 |ins C dx fs=>obtain⟨d,z,ne,e,mA,⟨od,es,ep,e2,c⟩,r⟩:=x;exact⟨ho _ d,z,ne,k _ _ (.inl rfl) e,mA,⟨od,es,ep,k _ _ (.inr d) e2,c⟩,r⟩
 |own y=>obtain⟨ob,e⟩:=x;exact⟨ob,k _ _ (.inl rfl) e⟩
 |xd fs=>obtain⟨mA,⟨od,es,ep,e,c⟩,r⟩:=x;exact⟨mA,⟨od,es,ep,k _ _ (.inl rfl) e,c⟩,r⟩
 |Kg lo hi=>obtain⟨t,u,v,e⟩:=x;exact⟨t,u,v,k _ _ (.inl rfl) e⟩
 |gB ob u ih=>obtain⟨e,q⟩:=x;exact⟨k _ _ (.inl rfl) e,ih q⟩
 |zJ ps=>have e:h.get? a=some {cls:=.none,data:=.fields ps}:=x;show h'.get? a=some {cls:=.none,data:=.fields ps};exact k a _ (.inl rfl) e
 |met f y=>have e:h.get? a=some (PySem.W.methodObj (.ref f) (.ref y)):=x;show h'.get? a=some (PySem.W.methodObj (.ref f) (.ref y));exact k a _ (.inl rfl) e
 |ext φ=>obtain⟨p,⟨o,e⟩,st⟩:=x;exact⟨st _ _ p λ o q=>k _ _ (.inl rfl) q,⟨o,k _ _ (.inl rfl) e⟩,st⟩
theorem jH.lt (x:jH P w H h)(e:H a=some o):a < h.objs.size:=(x a o e).lt
theorem jH.fresh (x:jH P w H h)(e:h.objs.size<=a):H a=none:=by
 cases q:H a with
 |none=>rfl
 |some u=>exact absurd (q9 (x.lt q) e) (C8 _)
theorem jH.kept (x:jH P w H h)(k:∀b u,h.get? b=some u->h'.get? b=some u):jH P w H h':=λ a o e=>
 (x a o e).jV (λ b u _ q=>k b u q) (λ _ q=>q) λ _ _ q=>q
theorem jH.laid (x:jH P w H h)(k:∀b u,h.get? b=some u->h'.get? b=some u)(hp:h.objs.size<=a)(new:cg P w (upd H a o) h' a o):jH P w (upd H a o) h':=λ b u e=>by
 have hn:=x.fresh hp;by_cases hb:b=a
 ·subst hb;rw[bW]at e;cases e;exact new
 ·rw[bg hb]at e;exact(x b u e).jV (λ c v _ q=>k c v q) (λ c q=>by rw[bg (ck q hn)];exact q) λ c xs q=>by rw[bg (ck q hn)];exact q
end
def Rd(H:Hp)(a:Addr)(u:HO):Prop:=H a=some u\/∃o,H a=some (.gB o u)
theorem Rd.ok {P:Program}{w:World}{H:Hp}{h:Heap}{a:Addr}{u:HO}(r:Rd H a u)(x:jH P w H h):cg P w H h a u:=by
 rcases r with r|⟨o,r⟩
 ·exact x a u r
 ·obtain⟨_,q⟩:=x a _ r;exact q
def RF:Option HO->Prop
 |some (.lst _)=>True
 |some (.dK _)=>True
 |some (.dT _)=>True
 |some (.set _ _)=>True
 |some (.ins _ _ _)=>True
 |some (.ext _)=>True
 |_=>False
section
variable {P:Program}{w:World}{H:Hp}{h h':Heap}{x e:Addr}{o':HO}
theorem jH.write (ok:jH P w H h)(mu:RF (H x))(he:e=x\/H e=some (.own x))(k:∀b u,b≠e->h.get? b=some u->h'.get? b=some u)(Nw:∃u,h'.get? e=some u) (new:cg P w (upd H x o') h' x o'):jH P w (upd H x o') h':=λ b u q=>by
 have OL:∀c y,H c=some (.own y)->c≠x:=λ c y r z=>by subst z;rw[r]at mu;exact mu
 have Sz:∀c xs,H c=some (.tup xs)->c≠x:=λ c xs r z=>by subst z;rw[r]at mu;exact mu
 by_cases hb:b=x
 ·subst hb;rw[bW]at q;cases q;exact new
 ·rw[bg hb]at q;by_cases Mw:b=e
  ·have q':H b=some (.own x):=by
    rcases he with z|z
    ·exact absurd (Mw.trans z) hb
    ·rw[Mw];exact z
   rw[q]at q';cases q';obtain⟨v,hv⟩:=Nw;exact⟨v,by rw[Mw];exact hv⟩
  ·refine(ok b u q).jV (λ c v hc r=>k c v ?_ r) (λ c r=>by rw[bg (OL c b r)];exact r) λ c xs r=>by rw[bg (Sz c xs r)];exact r
   rcases hc with rfl|hc
   ·exact Mw
   ·rintro rfl;rcases he with z|z
    ·exact OL c b hc z
    ·rw[hc]at z;cases z;exact hb rfl
end
structure Un(fs ex:List Addr)(H H':Hp)(h h':Heap):Prop where
 keep:∀b o,h.get? b=some o->H b=none->b∉fs->b∉ex->h'.get? b=some o
 slot:∀b o,h.get? b=some o->H b=none->b∈fs->b∉ex->∃sl,h'.get? b=some {o with slots:=sl}
 free:∀b o,h.get? b=some o->H b=none->b∉ex->H' b=none
 there:∀b o,h.get? b=some o->b∉ex->∃o',h'.get? b=some o'
 oS:∀b xs,H b=some (.tup xs)->H' b=some (.tup xs)
 nE:∀b o u,H b=some (.gB o u)->H' b=some (.gB o u)
 oV:∀b ps,H b=some (.zJ ps)->∃more,H' b=some (.zJ (ps++more))
section
variable {fs Xs ex YY:List Addr}{H H1 H2:Hp}{h h1 h2 h':Heap}{a x e:Addr}{o:HO}
theorem Un.any (u:Un fs ex H H1 h h1){b:Addr}{ob:Obj}(q:h.get? b=some ob)(n:H b=none)(hx:b∉ex):∃sl,h1.get? b=some {ob with slots:=sl}:=by
 by_cases hb:b∈fs
 ·exact u.slot b ob q n hb hx
 ·exact⟨ob.slots,u.keep b ob q n hb hx⟩
theorem Un.kept (k:∀b u,h.get? b=some u->h'.get? b=some u):Un fs ex H H h h':=
 ⟨λ b ob q _ _ _=>k b ob q,λ b ob q _ _ _=>⟨ob.slots,k b ob q⟩,λ _ _ _ n _=>n,λ b ob q _=>⟨ob,k b ob q⟩,λ _ _ q=>q,λ _ _ _ q=>q,λ _ ps q=>⟨#[],by rw[q];simp⟩⟩
theorem Un.refl:Un fs ex H H h h:=Un.kept λ _ _ q=>q
theorem Un.laid (k:∀b u,h.get? b=some u->h'.get? b=some u)(hp:h.objs.size<=a)(hn:H a=none):Un fs ex H (upd H a o) h h' where
 keep:=λ b u q _ _ _=>k b u q
 slot:=λ b u q _ _ _=>⟨u.slots,k b u q⟩
 free:=λ b u q n _=>by rw[bg (D5 (q9 (D6 q) hp))];exact n
 there:=λ b u q _=>⟨u,k b u q⟩
 oS:=λ b xs q=>by rw[bg (ck q hn)];exact q
 nE:=λ b u xs q=>by rw[bg (ck q hn)];exact q
 oV:=λ b ps q=>⟨#[],by rw[bg (ck q hn),q];simp⟩
theorem Un.write (mu:RF (H x))(he:e=x\/H e=some (.own x))(k:∀b u,b≠e->h.get? b=some u->h'.get? b=some u)(Nw:∃u,h'.get? e=some u):Un fs ex H (upd H x o) h h':=by
 have hx:∀b,H b=none->b≠x:=λ b n z=>by subst z;rw[n]at mu;exact mu
 have hb:∀b,H b=none->b≠e:=λ b n z=>by
  subst z;rcases he with r|r
  ·exact hx b n r
  ·rw[n]at r;cases r
 have hm:∀b u,H b=some u->¬RF (some u)->b≠x:=λ b u q nm z=>by subst z;rw[q]at mu;exact nm mu
 refine⟨λ b u q n _ _=>k b u (hb b n) q,λ b u q n _ _=>⟨u.slots,k b u (hb b n) q⟩,λ b u q n _=>by rw[bg (hx b n)];exact n,λ b u q _=>?_,
  λ b xs q=>by rw[bg (hm b _ q λ z=>z)];exact q,λ b u xs q=>by rw[bg (hm b _ q λ z=>z)];exact q,λ b ps q=>⟨#[],by rw[bg (hm b _ q λ z=>z),q];simp⟩⟩
 by_cases Mw:b=e
 ·subst Mw;exact Nw
 ·exact⟨u,k b u Mw q⟩
end
def Qy(h:Heap)(H:Hp):List Addr:=(List.range h.objs.size).filter λ a=>(H a).isSome
def pW(h:Heap)(H:Hp):Heap:=PySem.W.hideAll h (Qy h H)
theorem zf(h:Heap)(H:Hp):(pW h H).objs.size=h.objs.size:=PySem.W.hideAll_size _ _
theorem CV{h:Heap}{H:Hp}{b:Addr}{o:Obj}(e:h.get? b=some o)(n:H b=none):(pW h H).get? b=some o:=
 PySem.W.hideAll_get _ e λ hm=>by have q:(H b).isSome=true:=(mem_filter.mp hm).2;rw[n]at q;simp at q
theorem GR{h:Heap}{H:Hp}{b:Addr}{o:Obj}(e:(pW h H).get? b=some o):h.get? b=some o/\H b=none:=by
 have e':h.get? b=some o:=PySem.W.of_hideAll (Qy h H) e;refine⟨e',?_⟩;cases q:H b with
 |none=>rfl
 |some x=>have hm:b∈Qy h H:=mem_filter.mpr ⟨mem_range.mpr (D6 e'),by simp[q]⟩;have z:(pW h H).get? b=none:=PySem.W.hideAll_none (Qy h H) hm;rw[z]at e;cases e
structure Mod(K:K2)(mg:Str->Option Value)(base:Heap):Prop where
 Ra:K.In base
 glob:base.Ns mainGlobals mg
 blt:∃mb,base.Ns builtinsNs mb/\∀x:Str,x≠"__name__"->mb x=bootBuiltins x
 nolimit:base.NoLimit
structure Cx where
 prog:Program
 w:World
 K:K2
 mg:Str->Option Value
 base:Heap
 A:Around
 N:List Str
 s₀:Shared
 H₀:Hp
 env:Env
 outer:List Env
 stack:List Env
 ex:List Addr
 fn:Str->Bool
 calm:Bool
 pn:List (Addr×Obj)
 xe:Value->Shared->Prop
def zj(l:List Env):List Addr:=l.filterMap (·.frame)
abbrev Cx.fs (X:Cx):List Addr:=zj X.outer
def RD(sc:Scope)(x:Str):Prop:=sc.names.lookup x=some .local\/sc.names.lookup x=some .cell\/sc.names.lookup x=some .free
def Loc(sc:Scope)(x:Str):Prop:=sc.names.lookup x=some .local\/sc.names.lookup x=some .cell
def Look(env:Env)(h:Heap)(m:Str->Option Value)(x:Str)(u:Value):Prop:=
 (env.kindOf x=some .local/\m x=some u)\/((env.kindOf x=some .cell\/env.kindOf x=some .free)/\∃c,env.cells.lookup x=some c/\h.IsCell c (some u))
structure Cx.Ok (X:Cx):Prop where
 mod:Mod X.K X.mg X.base
 kind:X.env.scope.kind=.function
 glob:X.env.globals=mainGlobals
 blt:X.env.builtins=builtinsNs
 above:X.s₀.heap.objs.size<=X.env.locals
 inj:∀x y c,X.env.cells.lookup x=some c->X.env.cells.lookup y=some c->x=y
 has:∀x,(X.env.kindOf x=some .cell\/X.env.kindOf x=some .free)->∃c,X.env.cells.lookup x=some c
 Qh:∀x c,X.fn x=true->X.env.cells.lookup x=some c->X.s₀.heap.objs.size<=c
 hd:X.calm=true->X.A.handled=none
 frames:X.A.frames=some X.stack
 Q3:X.stack=X.outer\/(X.stack=X.env::X.outer/\X.env.frame=some X.env.locals)
 Vj:∀b∈X.ex,b≠X.env.locals/\∀x c,X.env.cells.lookup x=some c->c≠b
 bs:∀b o,X.base.get? b=some o->X.s₀.heap.get? b=some o/\X.H₀ b=none
 Ei:X.base.objs.size<=X.s₀.heap.objs.size
 yQ:∀b o,X.base.get? b=some o->b∉X.ex
 HL:∀b∈X.ex,b∉X.fs
 j':X.s₀.heap.FunFrames X.base X.outer
 MD:∀b∈X.fs,X.H₀ b=none
structure Inv(X:Cx)(pins:List (Addr×Obj))(σ:List (Option V))(H:Hp)(s:Shared):Prop where
 ok:X.Ok
 os:s.os=X.s₀.os
 bare:AllBare s.gens
 base:Un X.fs X.ex X.H₀ H X.s₀.heap s.heap
 loc:∃m,s.heap.Ns X.env.locals m/\∀(i:Nat) (x:Str) (v:V),X.N[i]?=some x->σ[i]?=some (some v)->RD X.env.scope x->∃u,RelV v u/\Look X.env s.heap m x u
 cell:∀x c,X.env.cells.lookup x=some c->∃v,s.heap.IsCell c v
 free:H X.env.locals=none
 fU:∀x c,X.env.cells.lookup x=some c->H c=none
 pin:∀p∈X.pn++pins,s.heap.get? p.1=some p.2/\H p.1=none/\p.1≠X.env.locals/\p.1∉X.fs/\∀v,p.2.data≠.cell v
 cp:jH X.prog X.w H s.heap
 len:σ.length=X.N.length
section
variable {X:Cx}{pins:List (Addr×Obj)}{σ:List (Option V)}{H H':Hp}{s:Shared}{h':Heap}
theorem Cx.Ok.SD (ok:X.Ok){b:Addr}{o:Obj}(e:X.base.get? b=some o):b∉X.fs:=λ hb=>by have:=(ok.j'.mem hb).1;rw[e]at this;cases this
theorem Inv.bs (I:Inv X pins σ H s):∀b o,X.base.get? b=some o->s.heap.get? b=some o/\H b=none:=λ b o e=>
 ⟨I.base.keep b o (I.ok.bs b o e).1 (I.ok.bs b o e).2 (I.ok.SD e) (I.ok.yQ b o e),I.base.free b o (I.ok.bs b o e).1 (I.ok.bs b o e).2 (I.ok.yQ b o e)⟩
theorem Inv.bk (I:Inv X pins σ H s):∀b o,X.base.get? b=some o->s.heap.get? b=some o:=λ b o e=>(I.bs b o e).1
theorem Inv.mod (I:Inv X pins σ H s):Mod X.K X.mg X.base:=I.ok.mod
theorem Inv.oB (I:Inv X pins σ H s):X.K.In s.heap:=I.ok.mod.Ra.keeps I.bk
theorem Inv.lt (I:Inv X pins σ H s):X.env.locals < s.heap.objs.size:=let⟨_,hn,_⟩:=I.loc;hn.lt
theorem Inv.sz (I:Inv X pins σ H s):X.s₀.heap.objs.size<=s.heap.objs.size:=D9 I.ok.above (G0 I.lt)
theorem Inv.SA (I:Inv X pins σ H s){a:Addr}(h:s.heap.objs.size<=a):a∉X.fs:=λ hb=>by obtain⟨_,o,ho,_⟩:=I.ok.j'.mem hb;exact absurd (q9 (D6 ho) (D9 I.sz h)) (C8 _)
theorem Inv.MN (I:Inv X pins σ H s):∀x c,X.env.cells.lookup x=some c->c≠X.env.locals:=λ x c e z=>by obtain⟨v,o,ho,hd⟩:=I.cell x c e;obtain⟨m,⟨o',es,ep,va,iW,_⟩,_⟩:=I.loc;rw[z,va]at ho;cases ho;rw[iW]at hd;cases hd
theorem Inv.j' (I:Inv X pins σ H s):s.heap.FunFrames X.base X.outer:=by
 have all:∀(l:List Env),(∀b∈zj l,b∈X.fs)->X.s₀.heap.FunFrames X.base l->s.heap.FunFrames X.base l:=by
  intro l
  induction l with
  |nil=>intro _ _;trivial
  |cons env r ih=>intro hs hl;obtain⟨hk,⟨L,o,hf,hn,ho,hd⟩,hr⟩:=hl;have hL:L∈X.fs:=hs L (by unfold zj;rw[o7,hf];exact o8);obtain⟨sl,e⟩:=I.base.slot L o ho (I.ok.MD L hL) hL λ z=>I.ok.HL L z hL;exact⟨hk,⟨L,_,hf,hn,e,hd⟩,ih (λ b hb=>hs b (by unfold zj;rw[o7,hf];exact k9 _ hb)) hr⟩
 exact all X.outer (λ _ hb=>hb) I.ok.j'
theorem Inv.stack (I:Inv X pins σ H s):s.heap.FunFrames X.base X.stack:=by
 rcases I.ok.Q3 with e|⟨e,hf⟩
 ·rw[e];exact I.j'
 ·rw[e];obtain⟨m,hn,_⟩:=I.loc;refine .cons (by rw[I.ok.kind];decide) hf hn ?_ I.j';exact Heap.get?_none_of_le (D9 I.ok.Ei I.ok.above)
theorem Inv.oW (I:Inv X pins σ H s):∀b∈zj X.stack,b∈X.env.locals::X.fs:=λ b hb=>by
 rcases I.ok.Q3 with e|⟨e,hf⟩
 ·rw[e]at hb;exact k9 _ hb
 ·rw[e]at hb;unfold zj at hb;rw[o7,hf]at hb;exact hb
theorem Inv.vZ (I:Inv X pins σ H s):∀b∈zj X.stack,H b=none:=λ b hb=>by
 rcases D1.mp (I.oW b hb)with e|hb
 ·rw[e];exact I.free
 ·obtain⟨_,o,ho,_⟩:=I.ok.j'.mem hb;exact I.base.free b o ho (I.ok.MD b hb) λ z=>I.ok.HL b z hb
theorem Inv.step {g':Array GenState}{t':Nat}{d':Drawn}{ch:List Addr}(I:Inv X pins σ H s) (Ef:∀b∈ch,(b∈X.ex\/X.s₀.heap.objs.size<=b)/\b≠X.env.locals/\(∀x c,X.env.cells.lookup x=some c->c≠b)/\∀p∈X.pn++pins,p.1≠b) (keep:∀b o,b≠X.env.locals->b∉X.fs->b∉ch->s.heap.get? b=some o->H b=none->h'.get? b=some o) (slot:∀b o,b≠X.env.locals->b∈X.fs->b∉ch->s.heap.get? b=some o->H b=none->∃sl,h'.get? b=some {o with slots:=sl}) (free:∀b o,b∉ch->s.heap.get? b=some o->H b=none->H' b=none) (there:∀b o,b∉ch->s.heap.get? b=some o->∃o',h'.get? b=some o') (oS:∀b xs,H b=some (.tup xs)->H' b=some (.tup xs)) (nE:∀b o u,H b=some (.gB o u)->H' b=some (.gB o u)) (oV:∀b ps,H b=some (.zJ ps)->∃more,H' b=some (.zJ (ps++more))) (ns:∀m,s.heap.Ns X.env.locals m->h'.Ns X.env.locals m) (cp:jH X.prog X.w H' h') (hg:AllBare g'):Inv X pins σ H' {s with heap:=h',gens:=g',drawn:=d',toks:=t'}:=by
 have UA:∀b o,X.s₀.heap.get? b=some o->b≠X.env.locals:=λ b o e=>D5 (q9 (D6 e) I.ok.above);have Q9:∀b o,X.s₀.heap.get? b=some o->b∉X.ex->b∉ch:=λ b o e hx hb=>by
  rcases(Ef b hb).1 with z|z
  ·exact hx z
  ·exact absurd (q9 (D6 e) z) (C8 _)
 have cellK:∀x c,X.env.cells.lookup x=some c->∀v,s.heap.IsCell c v->h'.IsCell c v:=λ x c e v ⟨o,ho,hd⟩=>by
  have OP:c∉ch:=λ z=>(Ef c z).2.2.1 x c e rfl;by_cases hc:c∈X.fs
  ·obtain⟨sl,q⟩:=slot c o (I.MN x c e) hc OP ho (I.fU x c e);exact⟨_,q,hd⟩
  ·exact⟨o,keep c o (I.MN x c e) hc OP ho (I.fU x c e),hd⟩
 refine⟨I.ok,I.os,hg,⟨λ b o e n hb hx=>?_,λ b o e n hb hx=>?_,λ b o e n hx=>?_,λ b o e hx=>?_,λ b xs e=>oS b xs (I.base.oS b xs e),λ b o xs e=>nE b o xs (I.base.nE b o xs e),λ b ps e=>?_⟩,?_,λ x c e=>?_,?_,λ x c e=>?_,λ p hp=>?_,cp,I.len⟩
 ·exact keep b o (UA b o e) hb (Q9 b o e hx) (I.base.keep b o e n hb hx) (I.base.free b o e n hx)
 ·obtain⟨sl,e1⟩:=I.base.slot b o e n hb hx;obtain⟨EJ,e2⟩:=slot b _ (UA b o e) hb (Q9 b o e hx) e1 (I.base.free b o e n hx);exact⟨EJ,e2⟩
 ·obtain⟨o',e1⟩:=I.base.there b o e hx;exact free b o' (Q9 b o e hx) e1 (I.base.free b o e n hx)
 ·obtain⟨o',e1⟩:=I.base.there b o e hx;exact there b o' (Q9 b o e hx) e1
 ·obtain⟨m1,e1⟩:=I.base.oV b ps e;obtain⟨m2,e2⟩:=oV b _ e1;exact⟨m1++m2,by rw[e2,Array.append_assoc]⟩
 ·obtain⟨m,hn,hl⟩:=I.loc;refine⟨m,ns m hn,λ i x v e1 e2 e3=>?_⟩;obtain⟨u,r,l⟩:=hl i x v e1 e2 e3;refine⟨u,r,?_⟩;rcases l with l|⟨k,c,e,z⟩
  ·exact .inl l
  ·exact .inr ⟨k,c,e,cellK x c e _ z⟩
 ·obtain⟨v,z⟩:=I.cell x c e;exact⟨v,cellK x c e v z⟩
 ·obtain⟨m,⟨o,_,_,ho,_⟩,_⟩:=I.loc;exact free _ o (λ z=>(Ef _ z).2.1 rfl) ho I.free
 ·obtain⟨v,o,ho,hd⟩:=I.cell x c e;exact free c o (λ z=>(Ef c z).2.2.1 x c e rfl) ho (I.fU x c e)
 ·obtain⟨e,n,ne,nf,d⟩:=I.pin p hp;have OP:p.1∉ch:=λ z=>(Ef p.1 z).2.2.2 p hp rfl;exact⟨keep p.1 p.2 ne nf OP e n,free p.1 p.2 OP e n,ne,nf,d⟩
theorem Inv.un {t':Nat}(I:Inv X pins σ H s)(u:Un X.fs [] H H' s.heap h')(cp:jH X.prog X.w H' h'):Inv X pins σ H' {s with heap:=h',toks:=t'}:=by
 obtain⟨m,⟨o,es,ep,ho,r⟩,_⟩:=id I.loc;obtain⟨sl,hL⟩:=u.any ho I.free (by simp);exact I.step (g':=s.gens) (d':=s.drawn) (ch:=[]) (λ _ z=>nomatch z) (λ b o _ hb _ e n=>u.keep b o e n hb (by simp)) (λ b o _ hb _ e n=>u.slot b o e n hb (by simp)) (λ b o _ e n=>u.free b o e n (by simp)) (λ b o _ e=>u.there b o e (by simp)) u.oS u.nE u.oV (λ m' hm=>by
  obtain⟨o',es',T3,va,r'⟩:=hm;rw[ho]at va;cases va;exact⟨_,es',T3,hL,r'⟩) cp I.bare
theorem Inv.call {g':Array GenState}{t':Nat}{d':Drawn}{ch:List Addr}(I:Inv X pins σ H s)(u:Un (zj X.stack) ch H H' s.heap h')(cp:jH X.prog X.w H' h')(hg:AllBare g') (Ef:∀b∈ch,(b∈X.ex\/X.s₀.heap.objs.size<=b)/\b≠X.env.locals/\(∀x c,X.env.cells.lookup x=some c->c≠b)/\∀p∈X.pn++pins,p.1≠b):Inv X pins σ H' {s with heap:=h',gens:=g',drawn:=d',toks:=t'}:=by
 obtain⟨m,⟨o,es,ep,ho,r⟩,_⟩:=id I.loc;obtain⟨sl,hL⟩:=u.any ho I.free λ z=>(Ef _ z).2.1 rfl;exact I.step (ch:=ch) Ef (λ b o hL hb hc e n=>u.keep b o e n (λ z=>(D1.mp (I.oW b z)).elim hL hb) hc) (λ b o _ _ hc e n=>u.any e n hc) (λ b o hc e n=>u.free b o e n hc) (λ b o hc e=>u.there b o e hc) u.oS u.nE u.oV (λ m' hm=>by
  obtain⟨o',es',T3,va,r'⟩:=hm;rw[ho]at va;cases va;exact⟨_,es',T3,hL,r'⟩) cp hg
theorem Inv.turned {t':Nat}{it:Addr}(I:Inv X pins σ H s)(k:∀b o,b≠it->s.heap.get? b=some o->h'.get? b=some o)(hn:H it=none)(hL:it≠X.env.locals) (h1:it∈X.ex\/X.s₀.heap.objs.size<=it) (h2:∀x c,X.env.cells.lookup x=some c->c≠it) (h3:∀p∈X.pn++pins,p.1≠it):Inv X pins σ H {s with heap:=h',toks:=t'}:=by
 have OO:∀b u,H b=some u->b≠it:=λ b u e z=>by rw[z,hn]at e;cases e
 refine I.step (g':=s.gens) (d':=s.drawn) (ch:=[it]) (λ b hb=>?_) (λ b o _ _ hc e _=>k b o (λ z=>hc (by simp[z])) e) (λ b o _ _ hc e _=>⟨o.slots,k b o (λ z=>hc (by simp[z])) e⟩) (λ _ _ _ _ n=>n)
  (λ b o hc e=>⟨o,k b o (λ z=>hc (by simp[z])) e⟩) (λ _ _ e=>e) (λ _ _ _ e=>e) (λ b ps e=>⟨#[],by rw[e];simp⟩) (λ m hm=>?_) (λ b u e=>?_) I.bare
 ·have e:b=it:=by simpa using hb
  subst e;exact⟨h1,hL,h2,h3⟩
 ·obtain⟨o,es,ep,ho,r⟩:=hm;exact⟨o,es,ep,k _ o (J6 hL) ho,r⟩
 ·refine(I.cp b u e).jV (λ c v hc q=>k c v ?_ q) (λ _ q=>q) λ _ _ q=>q;rcases hc with z|z
  ·rw[z];exact OO b u e
  ·exact OO c _ z
theorem Inv.tok (I:Inv X pins σ H s)(t:Nat):Inv X pins σ H {s with toks:=t}:=I.un (h':=s.heap) (t':=t) Un.refl I.cp
theorem Inv.kept {t':Nat}(I:Inv X pins σ H s)(k:∀b u,s.heap.get? b=some u->h'.get? b=some u):Inv X pins σ H {s with heap:=h',toks:=t'}:=I.un (Un.kept k) (I.cp.kept k)
theorem Inv.laid {a:Addr}{o:HO}{t':Nat}(I:Inv X pins σ H s)(k:∀b u,s.heap.get? b=some u->h'.get? b=some u)(hp:s.heap.objs.size<=a)(new:cg X.prog X.w (upd H a o) h' a o):Inv X pins σ (upd H a o) {s with heap:=h',toks:=t'}:=I.un (Un.laid k hp (I.cp.fresh hp)) (I.cp.laid k hp new)
theorem Inv.write {x e:Addr}{o:HO}{t':Nat}(I:Inv X pins σ H s)(mu:RF (H x))(he:e=x\/H e=some (.own x))(k:∀b u,b≠e->s.heap.get? b=some u->h'.get? b=some u)(Nw:∃u,h'.get? e=some u) (new:cg X.prog X.w (upd H x o) h' x o):Inv X pins σ (upd H x o) {s with heap:=h',toks:=t'}:=I.un (Un.write mu he k Nw) (I.cp.write mu he k Nw new)
theorem Inv.weak {σ':List (Option V)}(I:Inv X pins σ H s)(hl:σ'.length=σ.length)(w:∀(i:Nat) v,σ'[i]?=some (some v)->σ[i]?=some (some v)):Inv X pins σ' H s:=
 ⟨I.ok,I.os,I.bare,I.base,let⟨m,hn,zL⟩:=I.loc;⟨m,hn,λ i x v e1 e2 e3=>zL i x v e1 (w i v e2) e3⟩,I.cell,I.free,I.fU,I.pin,I.cp,hl.trans I.len⟩
theorem Inv.eC {pins':List (Addr×Obj)}(I:Inv X pins σ H s)(h:∀p∈pins',s.heap.get? p.1=some p.2/\H p.1=none/\p.1≠X.env.locals/\p.1∉X.fs/\∀v,p.2.data≠.cell v):Inv X pins' σ H s:=
 ⟨I.ok,I.os,I.bare,I.base,I.loc,I.cell,I.free,I.fU,λ p hp=>(B6.mp hp).elim (λ z=>I.pin p (l5 _ z)) (h p),I.cp,I.len⟩
theorem rQ{N:List Str}(hN:N.Nodup){i j:Nat}{x:Str}(a:N[i]?=some x)(b:N[j]?=some x):i=j:=by obtain⟨h1,e1⟩:=g9.mp a;obtain⟨h2,e2⟩:=g9.mp b;exact(getElem_inj hN).mp (e1.trans e2.symm)
theorem n_{M:Model}{A:Around}{E:Value->Shared->Prop}{i:Nat}{x:Str}{v:V}{u:Value}{Q:Unit->Shared->Prop}(I:Inv X pins σ H s)(hN:X.N.Nodup)(hi:X.N[i]?=some x)(hx:Loc X.env.scope x)(r:RelV v u) (h:∀s',Inv X pins (σ.set i (some v)) H s'->(∃a,Heap.SameBut a s.heap s'.heap/\(a=X.env.locals\/X.env.cells.lookup x=some a))->Q () s') (hf:X.fn x=true\/X.env.scope.names.lookup x=some .local:=by first|exact .inl rfl|exact .inr rfl|assumption):wpAny M A (storeName X.env x u) Q E s:=by
 obtain⟨m,hn,hl⟩:=id I.loc;have TF:(X.env.scope.kind==.class||(X.env.scope.kind==.module&&X.env.locals != X.env.globals))=false:=by rw[I.ok.kind];rfl
 have U9:i < σ.length:=by rw[I.len];exact(g9.mp hi).1
 have MN:=I.MN;have tracked:∀{a:Addr} {h':Heap},(∃o,s.heap.get? a=some o/\H a=none)->Heap.SameBut a s.heap h'->jH X.prog X.w H h':=λ{a h'} ha hs b ob e=>by
  obtain⟨_,_,Jg⟩:=ha;refine(I.cp b ob e).jV (λ c w' hc q=>(hs.2 c ?_).trans q) (λ _ q=>q) λ _ _ q=>q;rintro rfl;rcases hc with rfl|hc
  ·rw[Jg]at e;cases e
  ·rw[Jg]at hc;cases hc
 rcases hx with hk|hk
 ·refine wpAny_storeName_local hk hn (λ h' Wy hs=>?_) TF;obtain⟨oL,_,_,HE,_⟩:=id hn;refine h _ ⟨I.ok,I.os,I.bare,⟨λ b o e n hb hx=>?_,λ b o e n hb hx=>?_,I.base.free,λ b o e hx=>?_,I.base.oS,I.base.nE,I.base.oV⟩,⟨_,Wy,λ j y v' e1 e2 e3=>?_⟩,λ y c e=>?_,I.free,I.fU,λ p hp=>?_,tracked ⟨oL,HE,I.free⟩ hs,by simpa using I.len⟩ ⟨_,hs,.inl rfl⟩
  ·exact(hs.2 b (D5 (q9 (D6 e) I.ok.above))).trans (I.base.keep b o e n hb hx)
  ·obtain⟨sl,e1⟩:=I.base.slot b o e n hb hx;exact⟨sl,(hs.2 b (D5 (q9 (D6 e) I.ok.above))).trans e1⟩
  ·obtain⟨o',e1⟩:=I.base.there b o e hx;exact⟨o',(hs.2 b (D5 (q9 (D6 e) I.ok.above))).trans e1⟩
  ·by_cases hj:j=i
   ·subst hj;rw[hi]at e1;cases e1;rw[j7 U9]at e2;cases e2;exact⟨u,r,.inl ⟨hk,by simp⟩⟩
   ·rw[l7 (J6 hj)]at e2;obtain⟨u',r',q⟩:=hl j y v' e1 e2 e3;refine⟨u',r',?_⟩;rcases q with⟨k,e⟩|⟨k,c,e,z⟩
    ·refine .inl ⟨k,?_⟩;have:y≠x:=λ e=>hj (rQ hN e1 (e▸hi));simp[this,e]
    ·exact .inr ⟨k,c,e,z.sameBut hs (MN y c e)⟩
  ·obtain⟨w',z⟩:=I.cell y c e;exact⟨w',z.sameBut hs (MN y c e)⟩
  ·obtain⟨e,n,ne,nf,d⟩:=I.pin p hp;exact⟨(hs.2 p.1 ne).trans e,n,ne,nf,d⟩
 ·have Tv:X.fn x=true:=by
   rcases hf with z|z
   ·exact z
   ·rw[z]at hk;cases hk
  obtain⟨c,hc⟩:=I.ok.has x (.inl hk);obtain⟨w',z⟩:=I.cell x c hc;refine wpAny_storeName_cell I.ok.kind hk hc z (λ h' zi hs=>?_);obtain⟨oc,U0,Tf⟩:=id z;refine h {s with heap:=h'} ⟨I.ok,I.os,I.bare,⟨λ b o e n hb hx=>?_,λ b o e n hb hx=>?_,I.base.free,λ b o e hx=>?_,I.base.oS,I.base.nE,I.base.oV⟩,⟨m,hn.sameBut hs (J6 (MN x c hc)),λ j y v' e1 e2 e3=>?_⟩,λ y c' e=>?_,I.free,I.fU,λ p hp=>?_,tracked ⟨oc,U0,I.fU x c hc⟩ hs,by simpa using I.len⟩ ⟨c,hs,.inr hc⟩
  ·exact(hs.2 b (D5 (q9 (D6 e) (I.ok.Qh x c Tv hc)))).trans (I.base.keep b o e n hb hx)
  ·obtain⟨sl,e1⟩:=I.base.slot b o e n hb hx;exact⟨sl,(hs.2 b (D5 (q9 (D6 e) (I.ok.Qh x c Tv hc)))).trans e1⟩
  ·obtain⟨o',e1⟩:=I.base.there b o e hx;exact⟨o',(hs.2 b (D5 (q9 (D6 e) (I.ok.Qh x c Tv hc)))).trans e1⟩
  ·by_cases hj:j=i
   ·subst hj;rw[hi]at e1;cases e1;rw[j7 U9]at e2;cases e2;exact⟨u,r,.inr ⟨.inl hk,c,hc,zi⟩⟩
   ·rw[l7 (J6 hj)]at e2;obtain⟨u',r',q⟩:=hl j y v' e1 e2 e3;refine⟨u',r',?_⟩;rcases q with q|⟨k,c',e,z'⟩
    ·exact .inl q
    ·refine .inr ⟨k,c',e,z'.sameBut hs ?_⟩;rintro rfl;exact hj (rQ hN e1 (I.ok.inj _ _ _ e hc▸hi))
  ·by_cases Ji:c'=c
   ·subst Ji;exact⟨_,zi⟩
   ·obtain⟨w2,z2⟩:=I.cell y c' e;exact⟨w2,z2.sameBut hs Ji⟩
  ·obtain⟨e,n,ne,nf,d⟩:=I.pin p hp;refine⟨(hs.2 p.1 ?_).trans e,n,ne,nf,d⟩;intro q;rw[q,U0]at e;have q':oc=p.2:=B0 e;exact d w' (by rw[<- q'];exact Tf)
theorem qS{M:Model}{A:Around}{E:Value->Shared->Prop}{i:Nat}{x:Str}{v:V}{u:Value}{Q:Unit->Shared->Prop}(I:Inv X pins σ H s)(hN:X.N.Nodup)(hi:X.N[i]?=some x)(hx:Loc X.env.scope x)(r:RelV v u) (h:∀s',Inv X pins (σ.set i (some v)) H s'->Q () s') (hf:X.fn x=true\/X.env.scope.names.lookup x=some .local:=by first|exact .inl rfl|exact .inr rfl|assumption):wpAny M A (storeName X.env x u) Q E s:=
 n_ I hN hi hx r (λ s' I' _=>h s' I') hf
theorem Inv.Qg {s':Shared}{ch:List Addr}(I:Inv X pins σ H s)(ho:s'.os=s.os)(u:Un (zj X.stack) ch H H' s.heap s'.heap)(cp:jH X.prog X.w H' s'.heap)(hg:AllBare s'.gens) (Ef:∀b∈ch,(b∈X.ex\/X.s₀.heap.objs.size<=b)/\b≠X.env.locals/\(∀x c,X.env.cells.lookup x=some c->c≠b)/\∀p∈X.pn++pins,p.1≠b):Inv X pins σ H' s':=by obtain⟨h',g',d',t',o'⟩:=s';have e:o'=s.os:=ho;subst e;exact I.call (g':=g') (t':=t') (d':=d') u cp hg Ef
end
abbrev XK:=Value->Option Addr->Hp->Prop
abbrev St:=List (Option V)
abbrev VK:=V->Hp->Prop
abbrev TE:=St->Hp->VK->Prop
abbrev TT:=St->Hp->(Bool->Hp->Prop)->Prop
abbrev TA:=St->Hp->(List V->Hp->Prop)->Prop
structure Ends where
 nx:St->Hp->Prop
 rt:VK
 bk:St->Hp->Prop:=λ _ _=>False
 ct:St->Hp->Prop:=λ _ _=>False
abbrev TS:=Ends->St->Hp->Prop
def EP(X:Cx)(pins:List (Addr×Obj))(σ:St)(Q:VK)(u:Value)(s':Shared):Prop:=∃v H',Inv X pins σ H' s'/\RelV v u/\Q v H'
def TP(X:Cx)(pins:List (Addr×Obj))(σ:St)(Q:Bool->Hp->Prop)(b:Bool)(s':Shared):Prop:=∃H',Inv X pins σ H' s'/\Q b H'
def AP(X:Cx)(pins:List (Addr×Obj))(σ:St)(Q:List V->Hp->Prop)(us:List Value)(s':Shared):Prop:=∃vs H',Inv X pins σ H' s'/\Vals vs us/\Q vs H'
def SP(X:Cx)(pins:List (Addr×Obj))(D:Ends)(f:Flow)(s':Shared):Prop:=
 match f with
 | .next=>∃σ' H',Inv X pins σ' H' s'/\D.nx σ' H'
 | .brk=>∃σ' H',Inv X pins σ' H' s'/\D.bk σ' H'
 | .cont=>∃σ' H',Inv X pins σ' H' s'/\D.ct σ' H'
 | .ret u=>∃v σ' H',Inv X pins σ' H' s'/\RelV v u/\D.rt v H'
def PE(X:Cx)(e:Expr)(t:TE):Prop:=
 ∀(pins:List (Addr×Obj)) (s:Shared) (σ:St) (H:Hp) (Q:VK),Inv X pins σ H s->t σ H Q->wpAny (model X.prog X.w) X.A (eval e X.env) (EP X pins σ Q) X.xe s
def PT(X:Cx)(e:Expr)(t:TT):Prop:=
 ∀(pins:List (Addr×Obj)) (s:Shared) (σ:St) (H:Hp) (Q:Bool->Hp->Prop),Inv X pins σ H s->t σ H Q->wpAny (model X.prog X.w) X.A (isTrue e X.env (eval e X.env)) (TP X pins σ Q) X.xe s
def PW(X:Cx)(e:Expr)(t:TT):Prop:=
 ∀(whole:Sem Value) (pins:List (Addr×Obj)) (s:Shared) (σ:St) (H:Hp) (Q:Bool->Hp->Prop),Inv X pins σ H s->t σ H Q->wpAny (model X.prog X.w) X.A (isTrue e X.env whole) (TP X pins σ Q) X.xe s
theorem PW.pt {X:Cx}{e:Expr}{t:TT}(h:PW X e t):PT X e t:=h _
def PA(X:Cx)(es:List Expr)(t:TA):Prop:=
 ∀(pos:Pos) (pins:List (Addr×Obj)) (s:Shared) (σ:St) (H:Hp) (Q:List V->Hp->Prop),Inv X pins σ H s->t σ H Q->wpAny (model X.prog X.w) X.A (spliced (backTo pos (starEach es X.env))) (AP X pins σ Q) X.xe s
def PS(X:Cx)(st:Stmt)(t:TS):Prop:=
 ∀(pins:List (Addr×Obj)) (s:Shared) (σ:St) (H:Hp) (D:Ends),Inv X pins σ H s->t D σ H->wpAny (model X.prog X.w) X.A (exec st X.env) (SP X pins D) X.xe s
def tQ(X:Cx)(st:List Stmt)(t:TS):Prop:=
 ∀(pins:List (Addr×Obj)) (s:Shared) (σ:St) (H:Hp) (D:Ends),Inv X pins σ H s->t D σ H->wpAny (model X.prog X.w) X.A (execs st X.env) (SP X pins D) X.xe s
theorem dF{α:Type}{t:Sem α}{Q Q':α->Shared->Prop}{M:Model}{A:Around}{E:Value->Shared->Prop}{s:Shared}(h:wpAny M A t Q E s)(hQ:∀a s,Q a s->Q' a s):wpAny M A t Q' E s:=J3 h hQ λ _ _ x=>x
section
variable {X:Cx}
def RS(i:Nat):TE:=λ σ H Q=>∃v,σ[i]?=some (some v)/\Q v H
def tC(v:V):TE:=λ _ H Q=>Q v H
theorem Lm{i:Nat}{x:Str}{pos:Pos}(hN:X.N[i]?=some x)(hv:RD X.env.scope x)(hd:(x==("__debug__":Str))=false:=by decide)(hcd:(x==("__classdict__":Str))=false:=by decide):PE X (.Name x pos) (RS i):=by
 intro pins s σ H Q I h;obtain⟨v,e,h⟩:=h;obtain⟨m,hn,hl⟩:=I.loc;obtain⟨u,r,l⟩:=hl i x v hN e hv;have fin:EP X pins σ Q u s:=⟨v,H,I,r,h⟩;rcases l with⟨hk,hm⟩|⟨hk,c,hc,Jh⟩
 ·exact wpAny_Name (wpAny_loadName_local I.ok.kind hk hn hm fin) hd
 ·rcases hk with hk|hk
  ·exact wpAny_Name (wpAny_loadName_cell I.ok.kind hk hc Jh fin) hd
  ·exact wpAny_Name (wpAny_loadName_free I.ok.kind hk hc Jh fin hcd) hd
theorem uG{i j pos}:PE X (.Constant (.int i) j pos) (tC (.int i)):=λ _ _ _ H _ I h=>wpAny_Constant_int ⟨.int i,H,I.tok _,⟨_,rfl⟩,h⟩
theorem OA{b j pos}:PE X (.Constant (.bool b) j pos) (tC (.bl b)):=λ _ _ _ H _ I h=>Constant_bool ⟨.bl b,H,I,rfl,h⟩
theorem Lq{j pos}:PE X (.Constant .none j pos) (tC .bM):=λ _ _ _ H _ I h=>Constant_none ⟨.bM,H,I,rfl,h⟩
theorem Lo{x j pos}:PE X (.Constant (.str x) j pos) (tC (.str x)):=λ _ _ _ H _ I h=>Calls.Constant_str ⟨.str x,H,I.tok _,⟨_,rfl⟩,h⟩
def Gl(X:Cx)(x:Str):Prop:=X.env.kindOf x=some .globalImplicit
theorem wV{E:Value->Shared->Prop}{pins:List (Addr×Obj)}{s:Shared}{σ:St}{H:Hp}{x:Str}{u:Value}{pos:Pos}{Q:Value->Shared->Prop}(I:Inv X pins σ H s)(hg:Gl X x)(hm:X.mg x=some u)(h:Q u s) (hd:(x==("__debug__":Str))=false:=by decide):wpAny (model X.prog X.w) X.A (eval (.Name x pos) X.env) Q E s:=
 Calls.Name_function_global I.ok.kind hg (Calls.loadGlobal_global (by rw[I.ok.glob];exact I.mod.glob.keeps I.bk) hm h) hd
theorem ef{E:Value->Shared->Prop}{pins:List (Addr×Obj)}{s:Shared}{σ:St}{H:Hp}{x:Str}{u:Value}{pos:Pos}{Q:Value->Shared->Prop}(I:Inv X pins σ H s)(hg:Gl X x)(hm:X.mg x=none)(hv:bootBuiltins x=some u)(h:Q u s) (hn:x≠"__name__":=by decide) (hd:(x==("__debug__":Str))=false:=by decide):wpAny (model X.prog X.w) X.A (eval (.Name x pos) X.env) Q E s:=by obtain⟨mb,h1,h2⟩:=I.mod.blt;exact Calls.Name_function_global I.ok.kind hg (Calls.loadGlobal_builtin (by rw[I.ok.glob];exact I.mod.glob.keeps I.bk) hm (by rw[I.ok.blt];exact h1.keeps I.bk) ((h2 x hn).trans hv) h) hd
theorem Gr{x:Str}{v:V}{u:Value}{pos:Pos}(hg:Gl X x)(hm:X.mg x=none)(hv:bootBuiltins x=some u)(r:RelV v u)(hn:x≠"__name__":=by decide)(hd:(x==("__debug__":Str))=false:=by decide):PE X (.Name x pos) (tC v):=
 λ _ _ _ H _ I h=>ef I hg hm hv ⟨v,H,I,r,h⟩ hn hd
variable {a b:Expr}{ta tb:TE}{pos:Pos}
def tB(t:TE):TT:=λ σ H Q=>t σ H λ x H1=>∃c,x=.bl c/\Q c H1
theorem Lc{e:Expr}{t:TE}(h:PE X e t)(he:∀whole,isTrue e X.env whole=(do let v <- whole;standAt e.pos;holding [v] (truthy v)):=by intro _;rfl):PT X e (tB t):=by intro pins s σ H Q I hw;refine isTrue_plain (dF (h pins s σ H _ I hw) λ v s1 ⟨x,H1,I1,r1,q1⟩=>?_) (he _);obtain⟨d,rfl,q⟩:=q1;cases r1;exact x4 ⟨H1,I1,q⟩
variable {tA QC:TT}{rest:List Expr}
def R5(t u:TT):TT:=λ σ H Q=>t σ H λ c H1=>if c=true then u σ H1 Q else Q false H1
def VG(t u:TT):TT:=λ σ H Q=>t σ H λ c H1=>if c=true then Q true H1 else u σ H1 Q
def RW(t:TT):TT:=λ σ H Q=>t σ H λ c H1=>Q (!c) H1
theorem FY(ha:PT X a tA):PW X (.BoolOp .And [a] pos) tA:=by
 intro wh pins s σ H Q I h;refine isTrue_and (dF (ha pins s σ H Q I h) λ c s1 e=>?_);cases c with
 |true=>exact isTrue_and_nil e
 |false=>exact e
theorem La(ha:PT X a tA):PW X (.BoolOp .Or [a] pos) tA:=by
 intro wh pins s σ H Q I h;refine isTrue_or (dF (ha pins s σ H Q I h) λ c s1 e=>?_);cases c with
 |false=>exact isTrue_or_nil e
 |true=>exact e
theorem Lb(ha:PT X a tA)(hb:PW X (.BoolOp .And (b::rest) pos) QC):PW X (.BoolOp .And (a::b::rest) pos) (R5 tA QC):=by
 intro wh pins s σ H Q I h;refine isTrue_and (dF (ha pins s σ H _ I h) λ c s1 ⟨H1,I1,q1⟩=>?_);cases c with
 |true=>exact hb wh pins s1 σ H1 Q I1 q1
 |false=>exact⟨H1,I1,q1⟩
theorem Ow(ha:PT X a tA)(hb:PW X (.BoolOp .Or (b::rest) pos) QC):PW X (.BoolOp .Or (a::b::rest) pos) (VG tA QC):=by
 intro wh pins s σ H Q I h;refine isTrue_or (dF (ha pins s σ H _ I h) λ c s1 ⟨H1,I1,q1⟩=>?_);cases c with
 |true=>exact⟨H1,I1,q1⟩
 |false=>exact hb wh pins s1 σ H1 Q I1 q1
theorem Ld(ha:PT X a tA):PT X (.UnaryOp .Not a pos) (RW tA):=by intro pins s σ H Q I h;exact isTrue_not (ha pins s σ H (λ c H1=>Q (!c) H1) I h)
def NR(ta tb:TE):TE:=λ σ H Q=>ta σ H λ x H1=>∃c,x=.bl c/\if c=true then tb σ H1 Q else Q (.bl false) H1
theorem Lp{op}{t:TE}(h:PE X a t):PE X (.BoolOp op [a] pos) t:=λ pins s σ H Q I hw=>BoolOp_one (h pins s σ H Q I hw)
theorem Lu(ha:PE X a ta)(hb:PE X (.BoolOp .And (b::rest) pos) tb):PE X (.BoolOp .And (a::b::rest) pos) (NR ta tb):=by
 intro pins s σ H Q I h;refine BoolOp_and (dF (ha pins s σ H _ I h) λ v s1 ⟨x,H1,I1,r1,q1⟩=>?_);obtain⟨c,rfl,q1⟩:=q1;cases r1;refine x4 ?_;cases c with
 |true=>exact hb pins s1 σ H1 Q I1 q1
 |false=>exact⟨.bl false,H1,I1,rfl,q1⟩
end
def dn(K:K2)(H:Hp)(a:Addr)(xs:List V):Prop:=
 Rd H a (.lst xs)\/
  ∃(o:Obj) (av:Array Value) (n:Nat),K.lookup a=some o/\o.cls=.type "list"/\o.dict=none/\o.data=.seq av n/\av.size<=sizeLine/\Vals xs av.toList
def fE(K:K2)(H:Hp)(a:Addr)(xs:List V):Prop:=
 Rd H a (.tup xs)\/
  ∃(o:Obj) (av:Array Value) (n:Nat),K.lookup a=some o/\o.cls=.type "tuple"/\o.data=.seq av n/\av.size<=sizeLine/\Vals xs av.toList
def Ub:Value->Option V
 | .none=>some .bM
 | .bool b=>some (.bl b)
 | .int i _=>some (.int i)
 | .str x _=>some (.str x)
 | .bytes b _=>some (.DK b)
 | .float b _=>some (.NC b)
 | .ref a=>some (.ref a)
 | .type n=>some (.ty n)
 |_=>none
theorem RelV.abs {x:V}{u:Value}(r:RelV x u):Ub u=some x:=by
 cases x with
 |bM=>cases r;rfl
 |bl _=>cases r;rfl
 |int _=>obtain⟨t,rfl⟩:=r;rfl
 |str _=>obtain⟨t,rfl⟩:=r;rfl
 |DK _=>obtain⟨t,rfl⟩:=r;rfl
 |NC _=>obtain⟨t,rfl⟩:=r;rfl
 |ref _=>cases r;rfl
 |ty _=>cases r;rfl
theorem RelV.inj {x y:V}{u:Value}(r:RelV x u)(q:RelV y u):x=y:=B0 (r.abs.symm.trans q.abs)
theorem Vals.inj:∀{xs ys:List V} {us:List Value},Vals xs us->Vals ys us->xs=ys
 |_,_,_,.nil,.nil=>rfl
 |_,_,_,.cons r t,.cons r' t'=>by rw[r.inj r',Vals.inj t t']
section
variable {X:Cx}{pins:List (Addr×Obj)}{σ:St}{H:Hp}{s:Shared}{a:Addr}{xs ys:List V}
theorem dn.of {K:K2}(h:H a=some (.lst xs)):dn K H a xs:=.inl (.inl h)
theorem fE.of {K:K2}(h:H a=some (.tup xs)):fE K H a xs:=.inl (.inl h)
theorem Inv.list (I:Inv X pins σ H s)(h:dn X.K H a xs):∃av:List Value,Vals xs av/\PlainL s.heap a av.toArray/\xs.length<=sizeLine:=by
 rcases h with h|⟨o,av,n,hk,hc,hd,hs,hz,r⟩
 ·obtain⟨z,av,n,r,e⟩:=h.ok I.cp;exact⟨av,r,⟨_,n,e,rfl,rfl,rfl⟩,z⟩
 ·refine⟨av.toList,r,⟨o,n,I.oB a o hk,hc,hd,by simpa using hs⟩,?_⟩;have e:=r.length;simp only[m8]at e;omega
theorem Inv.tuple (I:Inv X pins σ H s)(h:fE X.K H a xs):∃av:List Value,Vals xs av/\IsTup s.heap a av.toArray/\xs.length<=sizeLine:=by
 rcases h with h|⟨o,av,n,hk,hc,hs,hz,r⟩
 ·obtain⟨z,av,r,p⟩:=h.ok I.cp;exact⟨av,r,p,z⟩
 ·refine⟨av.toList,r,⟨o,I.oB a o hk,hc,n,by simpa using hs⟩,?_⟩;have e:=r.length;simp only[m8]at e;omega
theorem Inv.rX (I:Inv X pins σ H s)(h:dn X.K H a xs)(h':dn X.K H a ys):xs=ys:=by
 obtain⟨av,r,⟨o,n,e,_,_,d⟩,_⟩:=I.list h;obtain⟨its',r',⟨o',n',e',_,_,d'⟩,_⟩:=I.list h';rw[e]at e';cases e';rw[d]at d';injection d' with d1 _
 have:av=its':=by simpa using J5 Array.toList d1
 subst this;exact r.inj r'
theorem Inv.nX (I:Inv X pins σ H s)(h:fE X.K H a xs)(h':fE X.K H a ys):xs=ys:=by
 obtain⟨av,r,⟨o,e,_,n,d⟩,_⟩:=I.tuple h;obtain⟨its',r',⟨o',e',_,n',d'⟩,_⟩:=I.tuple h';rw[e]at e';cases e';rw[d]at d';injection d' with d1 _
 have:av=its':=by simpa using J5 Array.toList d1
 subst this;exact r.inj r'
end
abbrev Cx.mZ (X:Cx)(E:Value->Shared->Prop):Cx:={X with xe:=E}
abbrev Cx.Nl (X:Cx):Cx:=X.mZ λ _ _=>False
theorem Cx.Ok.mZ {X:Cx}(ok:X.Ok)(E:Value->Shared->Prop):(X.mZ E).Ok:=
 ⟨ok.mod,ok.kind,ok.glob,ok.blt,ok.above,ok.inj,ok.has,ok.Qh,ok.hd,ok.frames,ok.Q3,ok.Vj,ok.bs,ok.Ei,ok.yQ,ok.HL,ok.j',ok.MD⟩
theorem Cx.Ok.gg {X:Cx}{E:Value->Shared->Prop}(ok:(X.mZ E).Ok):X.Ok:=
 ⟨ok.mod,ok.kind,ok.glob,ok.blt,ok.above,ok.inj,ok.has,ok.Qh,ok.hd,ok.frames,ok.Q3,ok.Vj,ok.bs,ok.Ei,ok.yQ,ok.HL,ok.j',ok.MD⟩
section
variable {X:Cx}{pins:List (Addr×Obj)}{σ:St}{H:Hp}{s:Shared}{E:Value->Shared->Prop}
theorem Inv.mZ (I:Inv X pins σ H s)(E:Value->Shared->Prop):Inv (X.mZ E) pins σ H s:=⟨I.ok.mZ E,I.os,I.bare,I.base,I.loc,I.cell,I.free,I.fU,I.pin,I.cp,I.len⟩
theorem Inv.gg (I:Inv (X.mZ E) pins σ H s):Inv X pins σ H s:=⟨I.ok.gg,I.os,I.bare,I.base,I.loc,I.cell,I.free,I.fU,I.pin,I.cp,I.len⟩
theorem SP.gg {D:Ends}{f:Flow}{s':Shared}(h:SP (X.mZ E) pins D f s'):SP X pins D f s':=by
 cases f with
 |next=>obtain⟨σ',H',I,q⟩:=h;exact⟨σ',H',I.gg,q⟩
 |brk=>obtain⟨σ',H',I,q⟩:=h;exact⟨σ',H',I.gg,q⟩
 |cont=>obtain⟨σ',H',I,q⟩:=h;exact⟨σ',H',I.gg,q⟩
 |ret u=>obtain⟨v,σ',H',I,r,q⟩:=h;exact⟨v,σ',H',I.gg,r,q⟩
theorem tQ.Nl {st:List Stmt}{t:TS}(h:tQ X.Nl st t):tQ X st t:=λ pins s σ H D I hw=>
 J3 (h pins s σ H D (I.mZ _) hw) (λ _ _ q=>q.gg) λ _ _ z=>False.elim z
end
section
variable {X:Cx}{st:Stmt}{rest:List Stmt}{t u:TS}{e:Expr}{te:TE}{pos:Pos}
def NP:TS:=λ D σ H=>D.nx σ H
def RU(t u:TS):TS:=λ D σ H=>t {D with nx:=u D} σ H
theorem Gb:tQ X [] NP:=λ _ _ σ H _ I h=>wpAny_execs_nil ⟨σ,H,I,h⟩
theorem Bu(h1:PS X st t)(h2:tQ X rest u):tQ X (st::rest) (RU t u):=by
 intro pins s σ H D I h;refine wpAny_execs_cons (dF (h1 pins s σ H {D with nx:=u D} I h) λ f s1 q=>?_);cases f with
 |next=>obtain⟨σ',H',I',q⟩:=q;exact h2 pins s1 σ' H' D I' q
 |ret v=>exact q
 |brk=>exact q
 |cont=>exact q
theorem Ga(h1:PS X st t):tQ X [st] t:=by
 intro pins s σ H D I h;refine wpAny_execs_cons (dF (h1 pins s σ H D I h) λ f s1 q=>?_);cases f with
 |next=>exact wpAny_execs_nil q
 |ret v=>exact q
 |brk=>exact q
 |cont=>exact q
theorem Inv.quiet {pins:List (Addr×Obj)}{σ:St}{H:Hp}{s:Shared}(I:Inv X pins σ H s):interactive X.env=false:=by simp[interactive,I.ok.kind]
def NQ(te:TE):TS:=λ D σ H=>te σ H λ _ H1=>D.nx σ H1
theorem Gd(he:PE X e te)(hs:swapsWith e none pos.line X.env=pure false:=by rfl):PS X (.Expr e pos) (NQ te):=by intro pins s σ H D I h;exact wpAny_Expr_any (dF (he pins s σ H _ I h) λ v s1 ⟨x,H1,I1,r1,q1⟩=>⟨σ,H1,I1,q1⟩) I.quiet hs
def RV(te:TE):TS:=λ D σ H=>te σ H D.rt
theorem Lf(he:PE X e te):PS X (.Return (some e) pos) (RV te):=by intro pins s σ H D I h;exact wpAny_Return_some (dF (he pins s σ H _ I h) λ v s1 ⟨x,H1,I1,r1,q1⟩=>⟨x,σ,H1,I1,r1,q1⟩)
def RY(c:TT)(t u:TS):TS:=λ D σ H=>c σ H λ b H1=>if b=true then t D σ H1 else u D σ H1
theorem Ox{c:Expr}{a b:List Stmt}{tc:TT}(hc:PT X c tc)(ha:tQ X a t)(hb:tQ X b u):PS X (.If c a b pos) (RY tc t u):=by
 intro pins s σ H D I h;refine wpAny_If (dF (hc pins s σ H _ I h) λ d s1 ⟨H1,I1,q1⟩=>?_);cases d with
 |true=>exact ha pins s1 σ H1 D I1 q1
 |false=>exact hb pins s1 σ H1 D I1 q1
end
abbrev TG:=V->St->Hp->(St->Hp->Prop)->Prop
abbrev xP:=List V->St->Hp->(St->Hp->Prop)->Prop
def PG(X:Cx)(target:Expr)(t:TG):Prop:=
 ∀(pins:List (Addr×Obj)) (s:Shared) (σ:St) (H:Hp) (v:V) (u:Value) (Q:St->Hp->Prop),Inv X pins σ H s->RelV v u->t v σ H Q->
  wpAny (model X.prog X.w) X.A (assign target X.env u) (λ _ s'=>∃σ' H',Inv X pins σ' H' s'/\Q σ' H') X.xe s
def Na(X:Cx)(ts:List Expr)(t:xP):Prop:=
 ∀(pins:List (Addr×Obj)) (s:Shared) (σ:St) (H:Hp) (vs:List V) (us:List Value) (Q:St->Hp->Prop),Inv X pins σ H s->Vals vs us->t vs σ H Q->
  wpAny (model X.prog X.w) X.A (assignInOrder ((assignEach ts X.env).map (·.2)) us) (λ _ s'=>∃σ' H',Inv X pins σ' H' s'/\Q σ' H') X.xe s
abbrev Ik:=V->V->V->Hp->(Hp->Prop)->Prop
def M_(X:Cx)(t:Ik):Prop:=
 ∀(pins:List (Addr×Obj)) (s:Shared) (σ:St) (H:Hp) (o i v:V) (ov iv u:Value) (Q:Hp->Prop),Inv X pins σ H s->RelV o ov->RelV i iv->RelV v u->t o i v H Q->
  wpAny (model X.prog X.w) X.A (setItem ov iv u) (λ _ s'=>∃H',Inv X pins σ H' s'/\Q H') X.xe s
section
variable {X:Cx}{pos:Pos}
def cB(i:Nat):TG:=λ v σ H Q=>Q (σ.set i (some v)) H
theorem aD{i:Nat}{x:Str}(hN:X.N.Nodup)(hi:X.N[i]?=some x)(hx:Loc X.env.scope x)(hf:X.fn x=true\/X.env.scope.names.lookup x=some .local:=by first|exact .inl rfl|exact .inr rfl|assumption):PG X (.Name x pos) (cB i):=by intro pins s σ H v u Q I r h;exact wpAny_assign_Name (qS I hN hi hx r (λ s' I'=>⟨_,H,I',h⟩) hf)
def pY:xP:=λ vs σ H Q=>vs=[]/\Q σ H
def dH(t:TG)(u:xP):xP:=λ vs σ H Q=>∃v r,vs=v::r/\t v σ H λ σ' H'=>u r σ' H' Q
theorem iQ:Na X [] pY:=by intro pins s σ H vs us Q I r h;obtain⟨e,h⟩:=h;subst e;cases r;exact assignInOrder_nil ⟨σ,H,I,h⟩
theorem cV{e:Expr}{es:List Expr}{t:TG}{u:xP}(h1:PG X e t)(h2:Na X es u) (hs:(assignEach (e::es) X.env).map (·.2)=assign e X.env::(assignEach es X.env).map (·.2):=by rfl):Na X (e::es) (dH t u):=by
 intro pins s σ H vs us Q I r h;obtain⟨v,vr,e1,h⟩:=h;subst e1;cases r with
 |cons r rr=>rw[hs];refine assignInOrder_cons (dF (h1 pins s σ H _ _ _ I r h) λ _ s1 ⟨σ1,H1,I1,q1⟩=>?_);exact h2 pins s1 σ1 H1 _ _ Q I1 rr q1
def sv(K:K2)(n:Nat)(t:xP):TG:=λ v σ H Q=>∃a xs,v=.ref a/\fE K H a xs/\xs.length=n/\t xs σ H Q
theorem lW{es:List Expr}{k:Nat}{t:xP}{n:Nat}(hc:X.calm=true)(h:Na X es t) (hn:(assignEach es X.env).length=n:=by rfl) (hst:(assignEach es X.env).findIdx? (·.1)=none:=by rfl):PG X (.Tuple es k pos) (sv X.K n t):=by intro pins s σ H v u Q I r hw;obtain⟨a,xs,e1,hq,hl,hw⟩:=hw;subst e1;cases r;obtain⟨av,rv,ht,hz⟩:=I.tuple hq;refine assign_Tuple_tuple (I.ok.hd hc) ht (by simp[hn,<- hl,rv.length]) hst λ h' hx=>?_;have I1:Inv X pins σ H {s with heap:=h'}:=I.kept (t':=s.toks) λ b o e=>hx b o (D5 (D6 e)) e;exact h pins _ σ H xs _ Q I1 (by simpa using rv) hw
def TY(to ti:TE)(t:Ik):TG:=λ v σ H Q=>to σ H λ o H1=>ti σ H1 λ i H2=>t o i v H2 λ H3=>Q σ H3
theorem Ll{o i:Expr}{to ti:TE}{t:Ik}(ho:PE X o to)(hi:PE X i ti)(hs:M_ X t) (ha:∀v,assign (.Subscript o i pos) X.env v=(do
   let ov <- holding [v] (eval o X.env)
   let iv <- holding [v,ov] (eval i X.env)
   standAt pos
   holding [v,ov,iv] (setItem ov iv v)
   release [v,ov,iv] []):=by intro _;rfl):PG X (.Subscript o i pos) (TY to ti t):=by
 intro pins s σ H v u Q I r h;rw[ha];refine H0 (C5 (dF (ho pins s σ H _ I h) λ ov s1 ⟨x,H1,I1,r1,q1⟩=>?_));refine H0 (C5 (dF (hi pins s1 σ H1 _ I1 q1) λ iv s2 ⟨y,H2,I2,r2,q2⟩=>?_));refine H0 (wpAny_standAt (H0 (C5 (dF (hs pins s2 σ H2 x y v ov iv u _ I2 r1 r2 r q2) λ _ s3 ⟨H3,I3,q3⟩=>?_))));exact wpAny_release ⟨σ,H3,I3,q3⟩
def Ez(te:TE)(g:TG):TS:=λ D σ H=>te σ H λ x H1=>g x σ H1 D.nx
theorem Lh{tg e:Expr}{te:TE}{g:TG}(he:PE X e te)(hg:PG X tg g)(hs:swapsWithSole [tg] e pos.line X.env=pure false:=by rfl)(hw:swappedStores [tg] e X.env=pure none:=by rfl) (h1:(assignEach [tg] X.env).map (·.2)=[assign tg X.env]:=by rfl):PS X (.Assign [tg] e pos) (Ez te g):=by intro pins s σ H D I h;refine wpAny_Assign_stores (dF (he pins s σ H _ I h) λ v s1 ⟨x,H1,I1,r1,q1⟩=>?_) hs hw;rw[h1];exact dF (hg pins s1 σ H1 x v _ I1 r1 q1) λ _ s2 q=>q
theorem Le{i:Nat}{x:Str}{e:Expr}{te:TE}{pos':Pos}(hN:X.N.Nodup)(hi:X.N[i]?=some x)(hx:Loc X.env.scope x)(he:PE X e te)(hs:swapsWith e (some (.Name x pos')) pos.line X.env=pure false:=by rfl)(hf:X.fn x=true\/X.env.scope.names.lookup x=some .local:=by first|exact .inl rfl|exact .inr rfl|assumption):PS X (.Assign [.Name x pos'] e pos) (Ez te (cB i)):=by intro pins s σ H D I h;refine wpAny_Assign_Name (dF (he pins s σ H _ I h) λ v s1 ⟨y,H1,I1,r1,q1⟩=>?_) hs;exact qS I1 hN hi hx r1 (λ s2 I2=>⟨_,H1,I2,q1⟩) hf
end
section
variable {X:Cx}{pos:Pos}
def JQ(c:TT)(tb:TS):TS:=λ D σ H=>∃W:Nat->St->Hp->Prop,(∃m,W m σ H)/\∀m σ H,W m σ H->
 c σ H λ b H1=>if b=true then ∃N:St->Hp->Prop,(∀σ' H',N σ' H'->∃m',m' < m/\W m' σ' H')/\tb {D with nx:=N,ct:=N,bk:=D.nx} σ H1 else D.nx σ H1
theorem Bw{c:Expr}{body:List Stmt}{tc:TT}{tb:TS}(hp:PassesOwn (model X.prog X.w) X.A X.env X.xe)(hc:PT X c tc)(hb:tQ X body tb):PS X (.While c body [] pos) (JQ tc tb):=by
 intro pins s σ H D I h;obtain⟨W,⟨m0,w0⟩,turn⟩:=h;refine wpAny_While (codeAny_whileLoop (λ n s'=>∃σ' H',Inv X pins σ' H' s'/\W n σ' H') ?_ m0 ⟨σ,H,I,w0⟩);rintro n s1 ⟨σ1,H1,I1,w1⟩;refine B2 hp (dF (hc pins s1 σ1 H1 _ I1 (turn n σ1 H1 w1)) λ b s2 ⟨H2,I2,q2⟩=>?_);cases b with
 |true=>
  obtain⟨N,hN,q2⟩:=q2;rw[J8 rfl];refine B2 hp (dF (hb pins s2 σ1 H2 _ I2 q2) λ f s3 q3=>?_);cases f with
  |next=>obtain⟨σ3,H3,I3,n3⟩:=q3;obtain⟨m',hm,w3⟩:=hN σ3 H3 n3;exact⟨m',hm,σ3,H3,I3,w3⟩
  |cont=>obtain⟨σ3,H3,I3,n3⟩:=q3;obtain⟨m',hm,w3⟩:=hN σ3 H3 n3;exact⟨m',hm,σ3,H3,I3,w3⟩
  |brk=>exact q3
  |ret v=>exact q3
 |false=>rw[J9 p5];exact wpAny_execs_nil ⟨σ1,H2,I2,q2⟩
end
structure It where
 go:Nat->Hp->Prop
 En:Nat->Hp->V->Hp->Prop
 stop:Nat->Hp->Prop
def iC(X:Cx)(pins:List (Addr×Obj))(H:Hp)(b:Addr):Prop:=
 H b=none/\b≠X.env.locals/\b∉X.fs/\(b∈X.ex\/X.s₀.heap.objs.size<=b)/\(∀x c,X.env.cells.lookup x=some c->c≠b)/\∀p∈X.pn++pins,p.1≠b
theorem Inv.iZ {X:Cx}{pins:List (Addr×Obj)}{σ:St}{H H':Hp}{s:Shared}{b:Addr}(I:Inv X pins σ H s)(hb:s.heap.objs.size<=b)(hn:H' b=none):iC X pins H' b:=by
 refine⟨hn,E8 (q9 I.lt hb),I.SA hb,.inr (D9 I.sz hb),λ x c e z=>?_,λ p hp z=>?_⟩
 ·obtain⟨v,q⟩:=I.cell x c e;exact absurd (q9 q.lt (by rw[z];exact hb)) (C8 _)
 ·exact absurd (q9 (D6 (I.pin p hp).1) (by rw[z];exact hb)) (C8 _)
structure Turn(P:Program)(w:World)(K:K2)(tg:Expr)(J:It)(fp:List Addr)(it:Addr)(tn:Nat->Heap->Prop):Prop where
 mem:it∈fp
 obj:∀i h,tn i h->∀b∈fp,∃o,h.get? b=some o/\∀v,o.data≠.cell v
 keep:∀i h h',tn i h->(∀b∈fp,∀o,h.get? b=some o->h'.get? b=some o)->tn i h'
 item:∀(X:Cx),X.prog=P->X.w=w->X.K=K->X.calm=true->∀(i:Nat) (pins:List (Addr×Obj)) (s:Shared) (σ:St) (H:Hp) (E:Value->Shared->Prop),Inv X pins σ H s->(∀b∈fp,iC X pins H b)->tn i s.heap->J.go i H->
  wpAny (model P w) X.A (pyNext (.ref it)) (λ r s1=>∃u,r=some u/\
   wpAny (model P w) X.A (letOwnedTupleGo tg (.ref it) u) (λ _ s2=>∃x H',Inv X pins σ H' s2/\RelV x u/\J.En i H x H'/\tn (i+1) s2.heap/\∀b∈fp,H' b=none) E s1) E s
 done:∀(X:Cx),X.prog=P->X.w=w->X.K=K->X.calm=true->∀(i:Nat) (pins:List (Addr×Obj)) (s:Shared) (σ:St) (H:Hp) (E:Value->Shared->Prop),Inv X pins σ H s->(∀b∈fp,iC X pins H b)->tn i s.heap->J.stop i H->
  wpAny (model P w) X.A (pyNext (.ref it)) (λ r s1=>r=none/\Inv X pins σ H s1) E s
 self:∀(A:Around) (i:Nat) (s:Shared) (Q:Value->Shared->Prop) (E:Value->Shared->Prop),tn i s.heap->Q (.ref it) s->wpAny (model P w) A (pyIter (.ref it)) Q E s
abbrev TI:=St->Hp->(It->Hp->Prop)->Prop
def Vt(X:Cx)(pins:List (Addr×Obj))(σ:St)(tg:Expr)(R:It->Hp->Prop)(Rc:Value)(s2:Shared):Prop:=
 ∃(it:Addr) (fp:List Addr) (tn:Nat->Heap->Prop) (J:It) (H':Hp),Rc=.ref it/\Inv X pins σ H' s2/\Turn X.prog X.w X.K tg J fp it tn/\tn 0 s2.heap/\(∀b∈fp,iC X pins H' b)/\R J H'
def PI(X:Cx)(tg iter:Expr)(wi:TI):Prop:=
 ∀(pins:List (Addr×Obj)) (s:Shared) (σ:St) (H:Hp) (R:It->Hp->Prop),Inv X pins σ H s->wi σ H R->
  wpAny (model X.prog X.w) X.A (eval iter X.env) (λ v s1=>wpAny (model X.prog X.w) X.A (pyIter v) (Vt X pins σ tg R) X.xe s1) X.xe s
theorem xp{M:Model}{A:Around}{E:Value->Shared->Prop}{s:Shared}{tg:Expr}{it:Addr}{u:Value}{o:Obj}{n:String}{vs:Array Value}{Q:Unit->Shared->Prop}(ho:s.heap.get? it=some o)(hc:o.cls=.type n)(hd:o.data=.fields vs) (hn:["enumerate","zip","dict_itemiterator","dict_reverseitemiterator","odict_iterator","itertools.zip_longest","itertools.pairwise"].contains n=false) (hQ:Q () s):wpAny M A (letOwnedTupleGo tg (.ref it) u) Q E s:=by
 unfold letOwnedTupleGo;cases tg <;> first
  |exact H9 hQ
  |(cases u <;> first
    |exact H9 hQ
    |(refine H0 (wpAny_load ho ?_)
      rw[hc,hd];show wpAny M A (if(["enumerate","zip","dict_itemiterator","dict_reverseitemiterator","odict_iterator","itertools.zip_longest","itertools.pairwise"].contains n&&vs[0]?==some (rawInt _))=true then _ else _) Q E s;rw[J9 (by intro h;rw[hn,Bool.false_and]at h;cases h)];exact H9 hQ))
def RH(K:K2)(a:Addr):It:=
 ⟨λ i H=>∃xs x,dn K H a xs/\xs[i]?=some x,λ i H x H'=>H'=H/\∀xs,dn K H a xs->xs[i]?=some x,λ i H=>∃xs,dn K H a xs/\xs.length<=i⟩
def Um(K:K2)(a:Addr):It:=
 ⟨λ i H=>∃xs x,fE K H a xs/\xs[i]?=some x,λ i H x H'=>H'=H/\∀xs,fE K H a xs->xs[i]?=some x,λ i H=>∃xs,fE K H a xs/\xs.length<=i⟩
def RG(lo:Int)(n:Nat):It:=⟨λ i _=>i < n,λ i H x H'=>H'=H/\x=.int (lo+i),λ i _=>n<=i⟩
theorem yj{P:Program}{w:World}{K:K2}{tg:Expr}(a it:Addr):Turn P w K tg (RH K a) [it] it (λ i h=>h.IsListIter it a i) where
 mem:=by simp
 obj:=λ i h st b hb=>by
  have e:b=it:=by simpa using hb
  subst e;obtain⟨o,e,c,d⟩:=st;exact⟨o,e,λ v z=>by rw[d]at z;cases z⟩
 keep:=λ i h h' st k=>st.at λ o e=>k it (by simp) o e
 item:=by intro X hP hw hK hc i pins s σ H E I hf st hg;subst hP hw hK;obtain⟨xs,x,hq,hx⟩:=hg;obtain⟨av,rv,p,hz⟩:=I.list hq;obtain⟨u,hu,ru⟩:=rv.get hx;obtain⟨f0,f1,f2,f3,f4,f5⟩:=hf it (by simp);refine wpAny_pyNext_list_item st p.isList (x:=u) (by simpa using hu) λ h' og sb=>?_;have I1:Inv X pins σ H {s with heap:=h'}:=I.turned (t':=s.toks) (λ b o hb e=>(sb.2 b hb).trans e) f0 f1 f3 f4 f5;obtain⟨o,e,c,d⟩:=id og;exact⟨u,rfl,xp (s:={s with heap:=h'}) e c d (by decide) ⟨x,H,I1,ru,⟨rfl,λ ys hy=>by rw[I.rX hy hq];exact hx⟩,og,λ b hb=>(hf b hb).1⟩⟩
 done:=by intro X hP hw hK hc i pins s σ H E I hf st hg;subst hP hw hK;obtain⟨xs,hq,hx⟩:=hg;obtain⟨av,rv,p,hz⟩:=I.list hq;obtain⟨f0,f1,f2,f3,f4,f5⟩:=hf it (by simp);have hl:=rv.length;exact wpAny_pyNext_list_end (I.ok.hd hc) st p.isList (by simp;omega) λ h' eb=>⟨rfl,I.turned (t':=s.toks) (λ b o hb e=>eb b o hb e) f0 f1 f3 f4 f5⟩
 self:=λ _ _ _ _ _ st h=>wpAny_pyIter_listiter st h
theorem t_{P:Program}{w:World}{K:K2}{tg:Expr}(a it:Addr):Turn P w K tg (Um K a) [it] it (λ i h=>h.IsTupleIter it a i) where
 mem:=by simp
 obj:=λ i h st b hb=>by
  have e:b=it:=by simpa using hb
  subst e;obtain⟨o,e,c,d⟩:=st;exact⟨o,e,λ v z=>by rw[d]at z;cases z⟩
 keep:=λ i h h' st k=>st.at λ o e=>k it (by simp) o e
 item:=by intro X hP hw hK hc i pins s σ H E I hf st hg;subst hP hw hK;obtain⟨xs,x,hq,hx⟩:=hg;obtain⟨av,rv,p,hz⟩:=I.tuple hq;obtain⟨u,hu,ru⟩:=rv.get hx;obtain⟨f0,f1,f2,f3,f4,f5⟩:=hf it (by simp);refine wpAny_pyNext_tuple_item st (show s.heap.IsTuple a av.toArray from p) (x:=u) (by simpa using hu) λ h' og sb=>?_;have I1:Inv X pins σ H {s with heap:=h'}:=I.turned (t':=s.toks) (λ b o hb e=>(sb.2 b hb).trans e) f0 f1 f3 f4 f5;obtain⟨o,e,c,d⟩:=id og;exact⟨u,rfl,xp (s:={s with heap:=h'}) e c d (by decide) ⟨x,H,I1,ru,⟨rfl,λ ys hy=>by rw[I.nX hy hq];exact hx⟩,og,λ b hb=>(hf b hb).1⟩⟩
 done:=by intro X hP hw hK hc i pins s σ H E I hf st hg;subst hP hw hK;obtain⟨xs,hq,hx⟩:=hg;obtain⟨av,rv,p,hz⟩:=I.tuple hq;obtain⟨f0,f1,f2,f3,f4,f5⟩:=hf it (by simp);have hl:=rv.length;exact wpAny_pyNext_tuple_end (I.ok.hd hc) st (show s.heap.IsTuple a av.toArray from p) (by simp;omega) λ h' eb=>⟨rfl,I.turned (t':=s.toks) (λ b o hb e=>eb b o hb e) f0 f1 f3 f4 f5⟩
 self:=λ _ _ _ _ _ st h=>wpAny_pyIter_tupleiter st h
theorem ua{P:Program}{w:World}{K:K2}{tg:Expr}(it:Addr)(lo:Int)(n:Nat):Turn P w K tg (RG lo n) [it] it (λ i h=>IsRangeIter h it (lo+(i:Nat)*1) ((n:Int) - (i:Nat)) 1) where
 mem:=by simp
 obj:=λ i h st b hb=>by
  have e:b=it:=by simpa using hb
  subst e;exact⟨_,st,λ v z=>by
   have z':Data.fields _=Data.cell v:=z;cases z'⟩
 keep:=λ i h h' st k=>k it (by simp) _ st
 item:=by intro X hP hw hK hc i pins s σ H E I hf st hg;subst hP hw hK;obtain⟨f0,f1,f2,f3,f4,f5⟩:=hf it (by simp);have W:=Walks.range (prog:=X.prog) (w:=X.w) (I.ok.hd hc) it lo 1 n;refine W.item i s _ _ hg st λ v h' tk hv og kk=>?_;obtain⟨t,rfl⟩:=hv;have I1:Inv X pins σ H {s with heap:=h',toks:=tk}:=I.turned (λ b o hb e=>kk b o (by simpa using hb) e) f0 f1 f3 f4 f5;refine⟨_,rfl,xp (s:={s with heap:=h',toks:=tk}) (n:="range_iterator") og rfl rfl (by decide) ⟨.int (lo+i),H,I1,⟨t,?_⟩,⟨rfl,rfl⟩,og,λ b hb=>(hf b hb).1⟩⟩;rw[Int.mul_one]
 done:=by intro X hP hw hK hc i pins s σ H E I hf st hg;subst hP hw hK;obtain⟨f0,f1,f2,f3,f4,f5⟩:=hf it (by simp);exact wpAny_pyNext_range_end (I.ok.hd hc) st (by have:n<=i:=hg;omega) λ h' eb=>⟨rfl,I.turned (t':=s.toks) (λ b o hb e=>eb b o hb e) f0 f1 f3 f4 f5⟩
 self:=λ _ _ _ _ _ st h=>wpAny_pyIter_rangeiter st h
section
variable {X:Cx}{tg:Expr}
theorem Bn{pins:List (Addr×Obj)}{σ:St}{H:Hp}{s:Shared}{R:It->Hp->Prop}{E:Value->Shared->Prop}{lo hi:Int}{t u v:Tok}{tk:Nat}(I:Inv X pins σ H s)(h1: -(2^62)<=lo)(h2:lo < 2^62)(h3: -(2^62)<=hi)(h4:hi < 2^62) (q:R (RG lo (hi - lo).toNat) H):wpAny (model X.prog X.w) X.A (pyIter (.ref s.heap.objs.size)) (Vt X pins σ tg R) E {s with heap:=s.heap.push {cls:=.type "range",data:=.fields #[.int lo t,.int hi u,.int 1 v]},toks:=tk}:=by
 refine wpAny_pyIter_range (IsRange.new ..) (small_one h1 h2 h3 h4) ?_;have I1:Inv X pins σ H {s with heap:=s.heap.push {cls:=.type "range",data:=.fields #[.int lo t,.int hi u,.int 1 v]},toks:=tk}:=I.kept λ b o e=>j5 _ e;refine⟨(s.heap.push {cls:=.type "range",data:=.fields #[.int lo t,.int hi u,.int 1 v]}).objs.size,[(s.heap.push {cls:=.type "range",data:=.fields #[.int lo t,.int hi u,.int 1 v]}).objs.size],_,_,H,rfl,
  I1.kept (t':=tk) λ b o e=>j5 _ e,ua _ lo (hi - lo).toNat,?_,λ b hb=>?_,q⟩
 ·have e1:lo+((0:Nat):Int)*1=lo:=by simp
  have e2:(((hi - lo).toNat:Nat):Int) - ((0:Nat):Int)=Builtin.Range.rangeSize lo hi 1:=by rw[rangeSize_one];split <;> omega
  show IsRangeIter _ _ (lo+((0:Nat):Int)*1) ((((hi - lo).toNat:Nat):Int) - ((0:Nat):Int)) 1;rw[e1,e2];exact m9 _ rfl
 ·have e:b=(s.heap.push {cls:=.type "range",data:=.fields #[.int lo t,.int hi u,.int 1 v]}).objs.size:=by simpa using hb
  subst e;exact I1.iZ (G5 _) (I1.cp.fresh (G5 _))
def OZ(ta:TA):TI:=λ σ H R=>ta σ H λ vs H1=>∃j:Int,vs=[.int j]/\-(2^62)<=j/\j < 2^62/\R (RG 0 j.toNat) H1
theorem yL{a:Expr}{ta:TA}{p pos:Pos}(hg:Gl X "range")(hm:X.mg "range"=none)(ha:PA X [a] ta)(hs:starEach [a] X.env=[(false,eval a X.env)]:=by rfl):PI X tg (.Call (.Name "range" p) [a] [] pos) (OZ ta):=by
 intro pins s σ H R I h;refine Call_ (ef I hg hm boot_range (c4 (dF (ha pos pins s σ H _ I h) λ us s1 ⟨vs,H1,I1,r1,q1⟩=>?_) hs rfl));obtain⟨j,e,q1,q2,q⟩:=q1;subst e;cases r1 with
 |cons r rr=>cases rr;obtain⟨t,rfl⟩:=r;exact call_range_1 (Bn I1 (by omega) (by omega) q1 q2 (by simpa using q))
def RZ(wi:TI)(g:TG)(tb:TS):TS:=λ D σ H=>wi σ H λ J H1=>∃W:Nat->Nat->St->Hp->Prop,(∃m,W 0 m σ H1)/\∀i m σ H,W i m σ H->
 (J.stop i H/\D.nx σ H)\/(J.go i H/\∃N:St->Hp->Prop,(∀σ' H',N σ' H'->∃m',m' < m/\W (i+1) m' σ' H')/\∀x H',J.En i H x H'->g x σ H' λ σ2 H2=>tb {D with nx:=N,ct:=N,bk:=D.nx} σ2 H2)
def pF(fp:List Addr)(h:Heap):List (Addr×Obj):=fp.filterMap λ b=>(h.get? b).map λ o=>(b,o)
theorem dP{fp:List Addr}{h:Heap}{b:Addr}{o:Obj}(hb:b∈fp)(e:h.get? b=some o):(b,o)∈pF fp h:=mem_filterMap.mpr ⟨b,hb,by rw[e];rfl⟩
theorem yP{fp:List Addr}{h:Heap}{p:Addr×Obj}(hp:p∈pF fp h):p.1∈fp/\h.get? p.1=some p.2:=by
 obtain⟨b,hb,e⟩:=mem_filterMap.mp hp;cases q:h.get? b with
 |none=>rw[q]at e;cases e
 |some o=>rw[q]at e;have e':(b,o)=p:=B0 e;subst e';exact⟨hb,q⟩
theorem Inv.pinned {pins:List (Addr×Obj)}{σ:St}{H:Hp}{s:Shared}{fp:List Addr}(I:Inv X pins σ H s)(hf:∀b∈fp,iC X pins H b)(ho:∀b∈fp,∃o,s.heap.get? b=some o/\∀v,o.data≠.cell v):Inv X (pins++pF fp s.heap) σ H s:=
 I.eC λ p hp=>(B6.mp hp).elim (λ z=>I.pin p (j9 _ z)) λ z=>by obtain⟨hb,e⟩:=yP z;obtain⟨f0,f1,f2,_⟩:=hf p.1 hb;obtain⟨o,e',d⟩:=ho p.1 hb;rw[e]at e';cases e';exact⟨e,f0,f1,f2,d⟩
theorem Inv.lB {pins pl:List (Addr×Obj)}{σ:St}{H:Hp}{s:Shared}(I:Inv X (pins++pl) σ H s):Inv X pins σ H s:=I.eC λ p hp=>I.pin p (j9 _ (l5 _ hp))
theorem Lg{iter:Expr}{body:List Stmt}{wi:TI}{g:TG}{tb:TS}{pos:Pos}(hp:PassesOwn (model X.prog X.w) X.A X.env X.xe)(hc:X.calm=true)(hi:PI X tg iter wi)(hg:PG X tg g)(hb:tQ X body tb) (hs:∀x,foldedSetIterable iter X.env x=pure x:=by intro _;rfl):PS X (.For tg iter body [] pos) (RZ wi g tb):=by
 intro pins s σ H D I h;refine wpAny_For (dF (hi pins s σ H _ I h) λ v s1 h1=>dF h1 λ Rc s2 h2=>?_) hs;obtain⟨it,fp,tn,J,H2,e,I2,T,NU,f2,W,⟨m0,w0⟩,turn⟩:=h2;subst e;have JT:∀{H':Hp},(∀b∈fp,H' b=none)->∀b∈fp,iC X pins H' b:=λ hn b hb=>⟨hn b hb,(f2 b hb).2⟩;refine codeAny_forLoop_any (λ n s'=>∃i σ' H',Inv X pins σ' H' s'/\tn i s'.heap/\(∀b∈fp,H' b=none)/\W i n σ' H') ?_ m0 ⟨0,σ,H2,I2,NU,λ b hb=>(f2 b hb).1,w0⟩;rintro n s3 ⟨i,σ3,H3,I3,NT,PF,w3⟩;rcases turn i n σ3 H3 w3 with⟨stop,qn⟩|⟨go,N,hN,step⟩
 ·refine B2 hp (dF (T.done X rfl rfl rfl hc i pins s3 σ3 H3 X.xe I3 (JT PF) NT stop) λ r s4 ⟨hr,I4⟩=>?_);subst hr;exact wpAny_execs_nil ⟨σ3,H3,I4,qn⟩
 ·refine B2 hp (dF (T.item X rfl rfl rfl hc i pins s3 σ3 H3 X.xe I3 (JT PF) NT go) λ r s4 ⟨u,hr,h4⟩=>?_);subst hr;refine B2 hp (dF h4 λ _ s5 ⟨x,H5,I5,r5,y5,ED,TZ⟩=>?_);have Ur:=I5.pinned (JT TZ) (T.obj _ _ ED);refine B2 hp (dF (hg _ s5 σ3 H5 x u _ Ur r5 (step x H5 y5)) λ _ s6 ⟨σ6,H6,I6,q6⟩=>?_);refine B2 hp (dF (hb _ s6 σ6 H6 _ I6 q6) λ f s7 q7=>?_);have again:∀{σ7:St} {H7:Hp},Inv X (pins++pF fp s5.heap) σ7 H7 s7->N σ7 H7->∃m,m < n/\∃i σ' H',Inv X pins σ' H' s7/\tn i s7.heap/\(∀b∈fp,H' b=none)/\W i m σ' H':=λ{σ7 H7} I7 n7=>by obtain⟨m',hm,w7⟩:=hN σ7 H7 n7;refine⟨m',hm,i+1,σ7,H7,I7.lB,T.keep _ _ _ ED λ b hb o e=>(I7.pin (b,o) (j9 _ (j9 _ (dP hb e)))).1,λ b hb=>?_,w7⟩;obtain⟨o,e,d⟩:=T.obj _ _ ED b hb;exact(I7.pin (b,o) (j9 _ (j9 _ (dP hb e)))).2.1
  cases f with
  |next=>obtain⟨σ7,H7,I7,n7⟩:=q7;exact again I7 n7
  |cont=>obtain⟨σ7,H7,I7,n7⟩:=q7;exact again I7 n7
  |brk=>obtain⟨σ7,H7,I7,q7⟩:=q7;exact⟨σ7,H7,I7.lB,q7⟩
  |ret v=>obtain⟨x7,σ7,H7,I7,r7,q7⟩:=q7;exact⟨x7,σ7,H7,I7.lB,r7,q7⟩
end
abbrev R2:=V->V->Hp->VK->Prop
def fF(X:Cx)(f:Value->Value->Sem Value)(r:R2):Prop:=
 ∀(pins:List (Addr×Obj)) (s:Shared) (σ:St) (H:Hp) (x y:V) (v u:Value) (Q:VK),Inv X pins σ H s->RelV x v->RelV y u->r x y H Q->
  wpAny (model X.prog X.w) X.A (f v u) (EP X pins σ Q) X.xe s
def cW(X:Cx)(f:Value)(r:List V->Hp->VK->Prop):Prop:=
 ∀(pins:List (Addr×Obj)) (s:Shared) (σ:St) (H:Hp) (xs:List V) (us:List Value) (Q:VK),Inv X pins σ H s->Vals xs us->r xs H Q->
  wpAny (model X.prog X.w) X.A (call f us) (EP X pins σ Q) X.xe s
def NO(r:R2)(ta tb:TE):TE:=λ σ H Q=>ta σ H λ x H1=>tb σ H1 λ y H2=>r x y H2 Q
def rI(C:Int->Int->Prop)(g:Int->Int->V):R2:=λ x y H Q=>∃i j,x=.int i/\y=.int j/\C i j/\Q (g i j) H
def DY(g:Int->Int->V):R2:=λ x y H Q=>∃i j,x=.int i/\y=.int j/\Q (g i j) H
section
variable {X:Cx}{a b c:Expr}{ta tb tc:TE}{pos:Pos}
theorem MR(ha:PE X a ta)(hb:PE X b tb){pins:List (Addr×Obj)}{s:Shared}{σ:St}{H:Hp}{R:V->V->Hp->Prop}(I:Inv X pins σ H s) (h:ta σ H λ x H1=>tb σ H1 λ y H2=>R x y H2) {Q:Value->Shared->Prop} {f:Value->Value->Sem Value} (hf:∀v u s2 x y H2,Inv X pins σ H2 s2->RelV x v->RelV y u->R x y H2->wpAny (model X.prog X.w) X.A (f v u) Q X.xe s2):wpAny (model X.prog X.w) X.A (eval a X.env) (λ v s₁=>wpAny (model X.prog X.w) X.A (eval b X.env) (λ u s₂=>wpAny (model X.prog X.w) X.A (f v u) Q X.xe s₂) X.xe s₁) X.xe s:=by refine dF (ha pins s σ H _ I h) λ v s1 ⟨x,H1,I1,r1,q1⟩=>?_;refine dF (hb pins s1 σ H1 _ I1 q1) λ u s2 ⟨y,H2,I2,r2,q2⟩=>?_;exact hf v u s2 x y H2 I2 r1 r2 q2
theorem Oy{op:Operator}{r:R2}(ho:fF X (binaryOp op) r)(ha:PE X a ta)(hb:PE X b tb):PE X (.BinOp a op b pos) (NO r ta tb):=by intro pins s σ H Q I h;exact wpAny_BinOp (MR ha hb I h λ v u s2 x y H2 I2 rx ry q=>ho pins s2 σ H2 x y v u Q I2 rx ry q)
theorem Q7{f:Value->Value->Sem Value}{C:Int->Int->Prop}{g:Int->Int->Int} (rule:∀(i j:Int) (t u:Tok) (s:Shared) (Q:Value->Shared->Prop) (E:Value->Shared->Prop),C i j->Q (.int (g i j) s.toks) {s with toks:=s.toks+1}->wpAny (model X.prog X.w) X.A (f (.int i t) (.int j u)) Q E s):fF X f (rI C λ i j=>.int (g i j)):=by intro pins s σ H x y v u Q I rx ry h;obtain⟨i,j,rfl,rfl,hc,q⟩:=h;obtain⟨t,rfl⟩:=rx;obtain⟨t',rfl⟩:=ry;exact rule i j t t' s _ _ hc ⟨.int (g i j),H,I.tok _,⟨_,rfl⟩,q⟩
theorem LK{f:Value->Value->Sem Value}{g:Int->Int->Int} (rule:∀(i j:Int) (t u:Tok) (s:Shared) (Q:Value->Shared->Prop) (E:Value->Shared->Prop),Q (.int (g i j) s.toks) {s with toks:=s.toks+1}->wpAny (model X.prog X.w) X.A (f (.int i t) (.int j u)) Q E s):fF X f (DY λ i j=>.int (g i j)):=by intro pins s σ H x y v u Q I rx ry h;obtain⟨i,j,rfl,rfl,q⟩:=h;obtain⟨t,rfl⟩:=rx;obtain⟨t',rfl⟩:=ry;exact rule i j t t' s _ _ ⟨.int (g i j),H,I.tok _,⟨_,rfl⟩,q⟩
theorem LL{f:Value->Value->Sem Value}{g:Int->Int->Bool} (rule:∀(i j:Int) (t u:Tok) (s:Shared) (Q:Value->Shared->Prop) (E:Value->Shared->Prop),Q (.bool (g i j)) s->wpAny (model X.prog X.w) X.A (f (.int i t) (.int j u)) Q E s):fF X f (DY λ i j=>.bl (g i j)):=by intro pins s σ H x y v u Q I rx ry h;obtain⟨i,j,rfl,rfl,q⟩:=h;obtain⟨t,rfl⟩:=rx;obtain⟨t',rfl⟩:=ry;exact rule i j t t' s _ _ ⟨.bl (g i j),H,I,rfl,q⟩
def Nd(i j:Int):Prop:=0 < j/\j < 1073741824
def Qv(i j:Int):Prop:=0<=j/\j<=1000000/\i.natAbs < 2^64
def qA(i j:Int):Prop:=(-(2^64) < i/\i < 2^64)\/(-(2^64) < j/\j < 2^64)
theorem qA.ok {i j:Int}(h:qA i j):IntMulOk i j:=by
 rcases h with⟨h1,h2⟩|⟨h1,h2⟩
 ·exact .of_left (intBits_le_64 h1 h2)
 ·exact .of_right (intBits_le_64 h1 h2)
theorem LJ:fF X (binaryOp .Add) (DY λ i j=>.int (i+j)):=LK λ _ _ _ _ _ _ _ q=>add_int q
theorem Lx:fF X (binaryOp .Sub) (DY λ i j=>.int (i - j)):=LK λ _ _ _ _ _ _ _ q=>sub_int q
theorem LC:fF X (binaryOp .Mult) (rI qA λ i j=>.int (i*j)):=Q7 λ _ _ _ _ _ _ _ hc q=>mul_int q hc.ok
theorem Gx:fF X (binaryOp .FloorDiv) (rI Nd λ i j=>.int (i / j)):=Q7 λ i j _ _ _ _ _ hc q=>by have h1:(0:Int) < j:=hc.1;have h2:j < 1073741824:=hc.2;exact floordiv_int (by omega) (by rw[Int.fdiv_eq_ediv_of_nonneg i (by omega)];exact q) (.inl (PyProof.noPylong_small (by omega)))
theorem LD:fF X (binaryOp .Mod) (rI (λ _ j=>0 < j) λ i j=>.int (i % j)):=Q7 λ i j _ _ _ _ _ hc q=>by have h1:(0:Int) < j:=hc;exact mod_int' (by omega) (by rw[Int.fmod_eq_emod_of_nonneg i (by omega)];exact q)
theorem Lz:fF X (binaryOp .Pow) (rI Qv λ i j=>.int (i^j.toNat)):=Q7 λ _ _ _ _ _ _ _ hc q=>pow_int_small hc.1 hc.2.1 hc.2.2 q
theorem Lw:fF X (binaryOp .BitXor) (DY λ i j=>.int (Builtin.bitXor i j)):=LK λ _ _ _ _ _ _ _ q=>xor_int q
end
def NV:V->V->Bool
 | .bM,.bM=>true| .bM,.int _=>true| .int _,.bM=>true| .bM,.bl _=>true| .bl _,.bM=>true| .bM,.str _=>true| .str _,.bM=>true
 | .int _,.int _=>true| .bl _,.bl _=>true| .str _,.str _=>true| .DK _,.DK _=>true
 | .int _,.str _=>true| .str _,.int _=>true| .bl _,.str _=>true| .str _,.bl _=>true
 |_,_=>false
def VT:R2:=λ x y H Q=>NV x y=true/\Q (.bl (decide (x=y))) H
def VQ:R2:=λ x y H Q=>NV x y=true/\Q (.bl (!decide (x=y))) H
theorem xA{i j:Int}:decide (V.int i=V.int j)=(i==j):=by rw[A5];simp
theorem Dt{i j:Bool}:decide (V.bl i=V.bl j)=(i==j):=by rw[A5];simp
theorem xy{i j:Str}:decide (V.str i=V.str j)=(i==j):=by rw[A5];simp
theorem xB{i j:Array UInt8}:decide (V.DK i=V.DK j)=(i.toList==j.toList):=by rw[A5];cases i;cases j;simp
section
variable {X:Cx}{a b c:Expr}{ta tb tc:TE}{pos:Pos}
theorem br{pins:List (Addr×Obj)}{σ:St}{H:Hp}{s:Shared}{Q:VK}{k k':Bool}(I:Inv X pins σ H s)(q:Q (.bl k) H)(e:k=k'):EP X pins σ Q (.bool k') s:=by subst e;exact⟨.bl k,H,I,rfl,q⟩
theorem OG:fF X (compareOp .Eq) VT:=by
 intro pins s σ H x y v u Q I rx ry h;obtain⟨hs,q⟩:=h;cases x with
 |bM=>
  cases rx;cases y with
  |bM=>cases ry;exact PySem.EqNone.eq_none_none (br I q (by simp))
  |bl j=>cases ry;exact PySem.EqNone.eq_none_bool (br I q (by simp))
  |int j=>obtain⟨t',rfl⟩:=ry;exact PySem.EqNone.eq_none_int (br I q (by simp))
  |str j=>obtain⟨t',rfl⟩:=ry;exact PySem.EqNone.eq_none_str (br I q (by simp))
  |_=>exact absurd (show false=true from hs) p5
 |bl i=>
  cases rx;cases y with
  |bM=>cases ry;exact PySem.EqNone.eq_bool_none (br I q (by simp))
  |bl j=>cases ry;exact eq_bool (br I q Dt)
  |str j=>obtain⟨t',rfl⟩:=ry;exact PySem.EqMixed.eq_bool_str (br I q (by simp))
  |_=>exact absurd (show false=true from hs) p5
 |int i=>
  obtain⟨t,rfl⟩:=rx;cases y with
  |bM=>cases ry;exact PySem.EqNone.eq_int_none (br I q (by simp))
  |int j=>obtain⟨t',rfl⟩:=ry;exact eq_int (br I q xA)
  |str j=>obtain⟨t',rfl⟩:=ry;exact PySem.EqMixed.eq_int_str (br I q (by simp))
  |_=>exact absurd (show false=true from hs) p5
 |str i=>
  obtain⟨t,rfl⟩:=rx;cases y with
  |bM=>cases ry;exact PySem.EqNone.eq_str_none (br I q (by simp))
  |bl j=>cases ry;exact PySem.EqMixed.eq_str_bool (br I q (by simp))
  |int j=>obtain⟨t',rfl⟩:=ry;exact PySem.EqMixed.eq_str_int (br I q (by simp))
  |str j=>obtain⟨t',rfl⟩:=ry;exact eq_str (br I q xy)
  |_=>exact absurd (show false=true from hs) p5
 |DK i=>
  obtain⟨t,rfl⟩:=rx;cases y with
  |DK j=>obtain⟨t',rfl⟩:=ry;exact PySem.W.eq_bytes (br I q xB)
  |_=>exact absurd (show false=true from hs) p5
 |_=>cases y <;> exact absurd (show false=true from hs) p5
theorem OC:fF X (compareOp .NotEq) VQ:=by
 intro pins s σ H x y v u Q I rx ry h;obtain⟨hs,q⟩:=h;cases x with
 |bM=>
  cases rx;cases y with
  |bM=>cases ry;exact PySem.EqNone.ne_none_none (br I q (by simp))
  |bl j=>cases ry;exact PySem.EqNone.ne_none_bool (br I q (by simp))
  |int j=>obtain⟨t',rfl⟩:=ry;exact PySem.EqNone.ne_none_int (br I q (by simp))
  |str j=>obtain⟨t',rfl⟩:=ry;exact PySem.EqNone.ne_none_str (br I q (by simp))
  |_=>exact absurd (show false=true from hs) p5
 |bl i=>
  cases rx;cases y with
  |bM=>cases ry;exact PySem.EqNone.ne_bool_none (br I q (by simp))
  |bl j=>cases ry;exact ne_bool (br I q (J5 not Dt))
  |str j=>obtain⟨t',rfl⟩:=ry;exact PySem.EqMixed.ne_bool_str (br I q (by simp))
  |_=>exact absurd (show false=true from hs) p5
 |int i=>
  obtain⟨t,rfl⟩:=rx;cases y with
  |bM=>cases ry;exact PySem.EqNone.ne_int_none (br I q (by simp))
  |int j=>obtain⟨t',rfl⟩:=ry;exact ne_int (br I q (J5 not xA))
  |str j=>obtain⟨t',rfl⟩:=ry;exact PySem.EqMixed.ne_int_str (br I q (by simp))
  |_=>exact absurd (show false=true from hs) p5
 |str i=>
  obtain⟨t,rfl⟩:=rx;cases y with
  |bM=>cases ry;exact PySem.EqNone.ne_str_none (br I q (by simp))
  |bl j=>cases ry;exact PySem.EqMixed.ne_str_bool (br I q (by simp))
  |int j=>obtain⟨t',rfl⟩:=ry;exact PySem.EqMixed.ne_str_int (br I q (by simp))
  |str j=>obtain⟨t',rfl⟩:=ry;exact ne_str (br I q (J5 not xy))
  |_=>exact absurd (show false=true from hs) p5
 |DK i=>
  obtain⟨t,rfl⟩:=rx;cases y with
  |DK j=>obtain⟨t',rfl⟩:=ry;exact PySem.W.ne_bytes (br I q (J5 not xB))
  |_=>exact absurd (show false=true from hs) p5
 |_=>cases y <;> exact absurd (show false=true from hs) p5
theorem OD:fF X (compareOp .Lt) (DY λ i j=>.bl (decide (i < j))):=LL λ _ _ _ _ _ _ _ q=>lt_int q
theorem OE:fF X (compareOp .Gt) (DY λ i j=>.bl (decide (j < i))):=LL λ _ _ _ _ _ _ _ q=>gt_int q
theorem OF:fF X (compareOp .GtE) (DY λ i j=>.bl (decide (j<=i))):=LL λ _ _ _ _ _ _ _ q=>ge_int q
theorem yM:fF X (compareOp .In) (λ x y H Q=>∃i j,x=.str i/\y=.str j/\Q (.bl (!(Builtin.Str.occurrences j i 0 j.length 1).isEmpty)) H):=by intro pins s σ H x y v u Q I rx ry h;obtain⟨i,j,rfl,rfl,q⟩:=h;obtain⟨t,rfl⟩:=rx;obtain⟨t',rfl⟩:=ry;exact in_str (br I q rfl)
theorem LF:fF X (compareOp .Is) (λ x y H Q=>y=.bM/\Q (.bl (decide (x=.bM))) H):=by
 intro pins s σ H x y v u Q I rx ry h;obtain⟨rfl,q⟩:=h;cases ry;refine is_none_gen (br I q ?_);cases x <;> first
  |(cases rx;rfl)
  |(obtain⟨t,rfl⟩:=rx;rfl)
theorem fF.or {f:Value->Value->Sem Value}{r r':R2}(h:fF X f r)(h':fF X f r'):fF X f (λ x y H Q=>r x y H Q\/r' x y H Q):=by
 intro pins s σ H x y v u Q I rx ry q;rcases q with q|q
 ·exact h pins s σ H x y v u Q I rx ry q
 ·exact h' pins s σ H x y v u Q I rx ry q
theorem aH(b:Expr){op:CmpOp}(h:op≠.In:=by decide)(h2:op≠.NotIn:=by decide):behindInMarks op b=false:=by
 have e1:(op==CmpOp.In)=false:=by cases op <;> first|rfl|exact absurd rfl h
 have e2:(op==CmpOp.NotIn)=false:=by cases op <;> first|rfl|exact absurd rfl h2
 cases b <;> simp[behindInMarks,e1,e2]
theorem Gp{op:CmpOp}{r:R2}(ho:fF X (compareOp op) r)(ha:PE X a ta)(hb:PE X b tb)(hm:behindInMarks op b=false):PE X (.Compare a [op] [b] pos) (NO r ta tb):=by intro pins s σ H Q I h;exact wpAny_Compare1 (MR ha hb I h λ v u s2 x y H2 I2 rx ry q=>ho pins s2 σ H2 x y v u Q I2 rx ry q) hm
def NL(t:TE):TT:=λ σ H Q=>t σ H λ x H'=>∃k,x=.bl k/\Q k H'
theorem F_{op:CmpOp}{r:R2}(ho:fF X (compareOp op) r)(ha:PE X a ta)(hb:PE X b tb)(hm:behindInMarks op b=false):PT X (.Compare a [op] [b] pos) (NL (NO r ta tb)):=by
 intro pins s σ H Q I h;refine wpAny_isTrue_Compare1 (dF (ha pins s σ H _ I h) λ v s1 ⟨x,H1,I1,r1,q1⟩=>dF (hb pins s1 σ H1 _ I1 q1) λ u s2 ⟨y,H2,I2,r2,q2⟩=>
  dF (ho pins s2 σ H2 x y v u _ I2 r1 r2 q2) λ c s3 ⟨z,H3,I3,r3,k,e,q3⟩=>?_) hm
 subst e;cases r3;exact x4 ⟨H3,I3,q3⟩
theorem jA:(sizeLine:Nat) < 2^63:=by rw[G6];decide
theorem uL:fF X (binaryOp .Add) (λ x y H Q=>∃i j,x=.str i/\y=.str j/\i.length+j.length<=sizeLine/\Q (.str (i++j)) H):=by intro pins s σ H x y v u Q I rx ry h;obtain⟨i,j,rfl,rfl,hz,q⟩:=h;obtain⟨t,rfl⟩:=rx;obtain⟨t',rfl⟩:=ry;exact add_str (λ t' tk=>⟨.str (i++j),H,I.tok _,⟨_,rfl⟩,q⟩) hz
theorem vals1{x:V}{us:List Value}(r:Vals [x] us):∃u,us=[u]/\RelV x u:=by
 cases r with
 |cons r1 r2=>cases r2;exact⟨_,rfl,r1⟩
theorem vals2{x y:V}{us:List Value}(r:Vals [x,y] us):∃u w',us=[u,w']/\RelV x u/\RelV y w':=by
 cases r with
 |cons r1 r2=>
  cases r2 with
  |cons r3 r4=>cases r4;exact⟨_,_,rfl,r1,r3⟩
theorem zA(hc:X.calm=true):cW X (.builtin "max") (λ xs H Q=>∃i j,xs=[.int i,.int j]/\Q (.int (if j > i then j else i)) H):=by
 intro pins s σ H xs us Q I r h;obtain⟨i,j,rfl,q⟩:=h;obtain⟨u,w',rfl,⟨t,rfl⟩,⟨t',rfl⟩⟩:=vals2 r;refine max_two_ints (I.ok.hd hc) λ h' tk k=>⟨_,H,I.kept k,?_,q⟩;by_cases hj:j > i
 ·rw[J8 hj,J8 hj];exact⟨_,rfl⟩
 ·rw[J9 hj,J9 hj];exact⟨_,rfl⟩
theorem zx(hc:X.calm=true):cW X (.builtin "min") (λ xs H Q=>∃i j,xs=[.int i,.int j]/\Q (.int (if j < i then j else i)) H):=by
 intro pins s σ H xs us Q I r h;obtain⟨i,j,rfl,q⟩:=h;obtain⟨u,w',rfl,⟨t,rfl⟩,⟨t',rfl⟩⟩:=vals2 r;refine min_two_ints (I.ok.hd hc) λ h' tk k=>⟨_,H,I.kept k,?_,q⟩;by_cases hj:j < i
 ·rw[J8 hj,J8 hj];exact⟨_,rfl⟩
 ·rw[J9 hj,J9 hj];exact⟨_,rfl⟩
theorem zC:cW X (.type "int") (λ xs H Q=>(∃i,xs=[.int i]/\Q (.int i) H)\/∃k,xs=[.bl k]/\Q (.int (if k then 1 else 0)) H):=by
 intro pins s σ H xs us Q I r h;rcases h with⟨i,rfl,q⟩|⟨k,rfl,q⟩
 ·obtain⟨u,rfl,t,rfl⟩:=vals1 r;exact call_int_int ⟨.int i,H,I,⟨_,rfl⟩,q⟩
 ·obtain⟨u,rfl,r1⟩:=vals1 r;cases r1;exact call_int_bool ⟨.int (if k then 1 else 0),H,I.tok _,⟨_,rfl⟩,q⟩
end
structure Nb(h:Heap)(x dx C:Addr)(mA:Str->Option Value):Prop where
 obj:h.get? x=some (PySem.W.instObj C dx)
 ns:h.Ns1 dx mA
 ne:dx≠x
set_option tactic.hygienic true in
theorem yX{h:Heap}{dx:Addr}{mA:Str->Option Value}(n:h.Ns1 dx mA):∃od,h.get? dx=some od/\∀name,PySem.W.lookIn name od=some (mA name):=by
 obtain⟨o,es,ep,ho,hd,hk,_,hm⟩:=n;refine⟨o,ho,λ name=>?_⟩;have e:=hm name;unfold nsFind findBy at e;rw[<- Array.find?_toList]at e;unfold PySem.W.lookIn;rw[hd];dsimp only;split
 ·rename_i y q;rw[q]at e;exact J5 some e
 ·rename_i q;rw[q]at e;have a:es.toList.any (·.refKey)=false:=by rw[List.any_eq_false];intro y hy;obtain⟨z,t,CT⟩:=hk y (Array.mem_toList_iff.mp hy);simp[DictEntry.refKey,CT]
  have a':¬es.toList.any (·.refKey)=true:=by rw[a];exact p5
  rw[J9 a'];exact J5 some e
theorem Nb.look {h:Heap}{x dx C:Addr}{mA:Str->Option Value}(I:Nb h x dx C mA):∃od,PySem.W.InstAt h x (PySem.W.instObj C dx) C (some od)/\∀name,PySem.W.lookIn name od=some (mA name):=
 let⟨od,ho,hl⟩:=yX I.ns
 ⟨od,⟨I.obj,rfl,rfl,ho⟩,hl⟩
section
variable {P:Program}{w:World}{H H':Hp}{h h':Heap}{a C dx:Addr}{fs Xs:List (Str×V)}
theorem Hw(cp:jH P w H h)(e:H a=some (.ins C dx fs)):∃mA,Nb h a dx C mA/\(∀f,MY (fs.lookup f) (mA f))/\PySem.Within mA (fs.map (·.1))/\fs.length<=1000/\H dx=some (.own a):=by obtain⟨d,z,ne,ob,mA,n,r,q⟩:=(show cg P w H h a (.ins C dx fs)from cp a _ e);exact⟨mA,⟨ob,n,ne⟩,r,q,z,d⟩
end
structure Us(K:K2)(C:Addr):Prop where
 pg:PySem.W.plainGet K C Str.empty=true
 hd:PySem.W.hasDictIn K C=true
 po:PySem.W.plainOver K C=true
 sa:PySem.W.findIn K (.ref C) "__setattr__"=some (some (.builtin "object.__setattr__"))
theorem Us.get {K:K2}{C:Addr}(c:Us K C)(f:Str):PySem.W.plainGet K C f=true:=c.pg
section
variable {X:Cx}{pins:List (Addr×Obj)}{σ:St}{H:Hp}{s:Shared}{A:Around}{E:Value->Shared->Prop}{Q:Value->Shared->Prop}{c:Value}{b:Bool}
inductive kj(K:K2)(H:Hp):V->Value->Prop where
 |bM:kj K H .bM (.type "NoneType")
 |bl (x:Bool):kj K H (.bl x) (.type "bool")
 |int (i:Int):kj K H (.int i) (.type "int")
 |str (x:Str):kj K H (.str x) (.type "str")
 |NC (x:UInt64):kj K H (.NC x) (.type "float")
 |lst {a:Addr} {xs:List V} (e:H a=some (.lst xs)):kj K H (.ref a) (.type "list")
 |gB {a:Addr} {o:Obj} {xs:List V} (e:H a=some (.gB o (.lst xs))):kj K H (.ref a) (.type "list")
 |tup {a:Addr} {xs:List V} (e:H a=some (.tup xs)):kj K H (.ref a) (.type "tuple")
 |dK {a:Addr} {kvs:List (Key×V)} (e:H a=some (.dK kvs)):kj K H (.ref a) (.type "dict")
 |dT {a:Addr} {kvs:List (List Key×V)} (e:H a=some (.dT kvs)):kj K H (.ref a) (.type "dict")
 |ins {a C dx:Addr} {fs:List (Str×V)} (e:H a=some (.ins C dx fs)) (cl:Us K C) (ha:PySem.W.findIn K (.ref C) "__class__"=some (some (.builtin "object.__class__")))
   (hn:PySem.W.specialIn K (.builtin "object.__class__") "__get__"=some (some (.builtin "getset_descriptor.__get__"))) (UQ:PySem.W.takesIn K (.builtin "object.__class__")=some true)
   (hm:PySem.W.mroIn K C (.type "object")=some true):kj K H (.ref a) (.ref C)
theorem gU{x:V}{u t:Value}(I:Inv X pins σ H s)(rx:RelV x u)(ty:kj X.K H x t)(e:PySem.W.kitOne X.K t c=some b)(h:∀tk,Q (.bool b) {s with toks:=tk}):wpAny (model X.prog X.w) A (call (.builtin "isinstance") [u,c]) Q E s:=by
 cases ty with
 |bM=>cases(show u=Value.none from rx);exact B4 PySem.W.kitx_none I.oB True.intro e (λ z=>nomatch z) h
 |bl y=>cases(show u=Value.bool y from rx);exact B4 PySem.W.kitx_bool I.oB True.intro e (λ z=>nomatch z) h
 |int i=>obtain⟨t,q⟩:=(show ∃t,u=Value.int i t from rx);cases q;exact B4 PySem.W.kitx_int I.oB True.intro e (λ z=>nomatch z) h
 |str y=>obtain⟨t,q⟩:=(show ∃t,u=Value.str y t from rx);cases q;exact B4 PySem.W.kitx_str I.oB True.intro e (λ z=>nomatch z) h
 |NC y=>obtain⟨t,q⟩:=(show ∃t,u=Value.float y t from rx);cases q;exact B4 PySem.W.kitx_float I.oB True.intro e (λ z=>nomatch z) h
 |@lst a xs ea=>cases(show u=Value.ref a from rx);obtain⟨_,_,n,_,h1⟩:=(show cg X.prog X.w H s.heap a (.lst xs)from I.cp a _ ea);exact B4 PySem.W.kitx_list I.oB ⟨_,h1,rfl⟩ e (λ z=>nomatch z) h
 |@gB a ob xs ea=>cases(show u=Value.ref a from rx);obtain⟨_,_,_,n,_,h1⟩:=(show cg X.prog X.w H s.heap a (.gB ob (.lst xs))from I.cp a _ ea);exact B4 PySem.W.kitx_list I.oB ⟨_,h1,rfl⟩ e (λ z=>nomatch z) h
 |@tup a xs ea=>cases(show u=Value.ref a from rx);obtain⟨_,_,_,p⟩:=(show cg X.prog X.w H s.heap a (.tup xs)from I.cp a _ ea);obtain⟨o,h1,h2,_⟩:=p;exact B4 PySem.W.kitx_tuple I.oB ⟨o,h1,h2⟩ e (λ z=>nomatch z) h
 |@dK a kvs ea=>cases(show u=Value.ref a from rx);obtain⟨_,_,vs,_,p⟩:=(show cg X.prog X.w H s.heap a (.dK kvs)from I.cp a _ ea);obtain⟨o,es,ep,h1,h2,_⟩:=p;exact B4 PySem.W.kitx_dict I.oB ⟨o,h1,h2.1⟩ e (λ z=>nomatch z) h
 |@dT a kvs ea=>cases(show u=Value.ref a from rx);obtain⟨_,_,xs,_,o,es,ep,h1,h2,_⟩:=(show cg X.prog X.w H s.heap a (.dT kvs)from I.cp a _ ea);exact B4 PySem.W.kitx_dict I.oB ⟨o,h1,h2.1⟩ e (λ z=>nomatch z) h
 |@ins a C dx fs ea cl ha hn UQ hm=>cases(show u=Value.ref a from rx);obtain⟨mA,O,_⟩:=Hw I.cp ea;obtain⟨od,J,_⟩:=O.look;exact B4 (PySem.W.kitx_own (cl.get _) cl.hd ha hn UQ hm) I.oB J e (λ z=>nomatch z) h
end
structure dh(k:Nat)(A:Around):Prop where
 hd:A.handled=none
 dp:A.depth+2*k+5 < recursionLimit
 un:A.units+16*k+200 < cLine
theorem dh.mono {j k:Nat}{A:Around}(r:dh k A)(h:j<=k):dh j A:=⟨r.hd,by have:=r.dp;omega,by have:=r.un;omega⟩
theorem dh.deeper {k:Nat}{A:Around}(r:dh (k+1) A)(env:Env):dh k (A.deeper env):=
 ⟨r.hd,by have:=r.dp;show A.depth+1+2*k+5 < _;omega,by have:=r.un;show A.units+3+16*k+200 < _;omega⟩
theorem dh.in1 {k:Nat}{A:Around}(r:dh (k+1) A):dh k A.in1:=
 ⟨r.hd,by have:=r.dp;show A.depth+2*k+5 < _;omega,by have:=r.un;show A.units+1+16*k+200 < _;omega⟩
theorem dh.depth {k:Nat}{A:Around}(r:dh k A):A.depth < recursionLimit:=by have:=r.dp;omega
theorem dh.units {k:Nat}{A:Around}(r:dh k A):A.units+64 < cLine:=by have:=r.un;omega
def JS:TA:=λ _ H Q=>Q [] H
def Ag(ta:TE)(tr:TA):TA:=λ σ H Q=>ta σ H λ x H1=>tr σ H1 λ xs H2=>Q (x::xs) H2
section
variable {X:Cx}{e:Expr}{es:List Expr}{te:TE}{t:TA}{pos:Pos}
theorem ie:PA X [] JS:=λ _ _ _ _ H Q I h=>Calls.spliced_nil ⟨[],H,I,.nil,h⟩
theorem fL(ha:PE X e te)(hr:PA X es t)(hs:starEach (e::es) X.env=(false,eval e X.env)::starEach es X.env:=by rfl):PA X (e::es) (Ag te t):=by intro pos pins s σ H Q I h;rw[hs];show wpAny _ _ (spliced ((false,eval e X.env)::backTo pos (starEach es X.env))) _ _ s;refine Calls.spliced_cons (dF (ha pins s σ H _ I h) λ u s1 ⟨x,H1,I1,r1,q1⟩=>?_);exact dF (hr pos pins s1 σ H1 _ I1 q1) λ us s2 ⟨xs,H2,I2,r2,q2⟩=>⟨x::xs,H2,I2,.cons r1 r2,q2⟩
def RT(t:TA):TE:=λ σ H Q=>t σ H λ xs H1=>xs.length<=sizeLine/\∀p,H1 p=none->Q (.ref p) (upd H1 p (.tup xs))
def RX(t:TA):TE:=λ σ H Q=>t σ H λ xs H1=>xs.length<=sizeLine/\∀p,H1 p=none->Q (.ref p) (upd H1 p (.lst xs))
theorem Ln{x1}(h:PA X es t):PE X (.Tuple es x1 pos) (RT t):=by intro pins s σ H Q I hq;refine wpAny_Tuple_spliced (dF (h pos pins s σ H _ I hq) λ us s1 ⟨xs,H1,I1,r,z,q⟩=>⟨by rw[<- r.length];exact z,?_⟩);have hf:H1 s1.heap.objs.size=none:=I1.cp.fresh (G5 _);refine⟨.ref s1.heap.objs.size,upd H1 s1.heap.objs.size (.tup xs),I1.laid (t':=s1.toks) (λ b u e=>j5 _ e) (G5 _) ?_,rfl,q _ hf⟩;exact⟨z,us,r,⟨_,m9 _ rfl,rfl,_,rfl⟩⟩
theorem Lr(h:PA X es t):PE X (.List es pos) (RX t):=by intro pins s σ H Q I hq;refine wpAny_List_spliced (dF (h pos pins s σ H _ I hq) λ us s1 ⟨xs,H1,I1,r,z,q⟩=>⟨by rw[<- r.length];exact z,?_⟩);have hf:H1 s1.heap.objs.size=none:=I1.cp.fresh (G5 _);refine⟨.ref s1.heap.objs.size,upd H1 s1.heap.objs.size (.lst xs),I1.laid (t':=s1.toks) (λ b u e=>j5 _ e) (G5 _) ?_,rfl,q _ hf⟩;exact⟨z,us,0,r,m9 _ rfl⟩
end
abbrev Sp:=List V->Hp->VK->XK->Prop
abbrev DU:=List Env->Hp->Shared->XK->Value->Shared->Prop
structure tJ(P:Program)(w:World)(K:K2)(mg:Str->Option Value)(base:Heap)(A:Around)(outer:List Env)(s:Shared)(H:Hp):Prop where
 frames:A.frames=some outer
 mod:Mod K mg base
 bs:∀b o,base.get? b=some o->s.heap.get? b=some o/\H b=none
 Ei:base.objs.size<=s.heap.objs.size
 j':s.heap.FunFrames base outer
 MD:∀b∈zj outer,H b=none
 cp:jH P w H s.heap
 bare:AllBare s.gens
def CE(outer:List Env)(P:Program)(w:World)(H:Hp)(s:Shared)(Q:VK)(u:Value)(s':Shared):Prop:=
 ∃v H',s'.os=s.os/\AllBare s'.gens/\Un (zj outer) [] H H' s.heap s'.heap/\jH P w H' s'.heap/\RelV v u/\Q v H'
def CR(CX:DU)(outer:List Env)(P:Program)(w:World)(H:Hp)(s:Shared)(Q:VK)(E:XK)(r:Result)(s':Shared):Prop:=
 match r with
 | .ok (.ret u)=>CE outer P w H s Q u s'
 | .ok _=>False
 | .error e=>CX outer H s E e s'
structure bZ(P:Program)(w:World)(K:K2)(mg:Str->Option Value)(base:Heap)(CX:DU)(k:Nat)(f:Addr)(fd:FuncData)(ps:List Str)(sp:Sp):Prop where
 len:∀vs H Q E,sp vs H Q E->vs.length=ps.length
 run:∀(A:Around) (outer:List Env) (s:Shared) (H:Hp) (args:Args) (us:List Value) (vs:List V) (Q:VK) (E:XK),dh k A->tJ P w K mg base A outer s H->BindsTo s fd args (ps.zip us)->Vals vs us->sp vs H Q E->
  codeAny (model P w) A (.call (.ref f) args) (CR CX outer P w H s Q E) s
theorem tJ.in1 {P:Program}{w:World}{K:K2}{mg:Str->Option Value}{base:Heap}{A:Around}{outer:List Env}{s:Shared}{H:Hp}(e:tJ P w K mg base A outer s H):tJ P w K mg base A.in1 outer s H:=⟨e.frames,e.mod,e.bs,e.Ei,e.j',e.MD,e.cp,e.bare⟩
section
variable {X:Cx}{pins:List (Addr×Obj)}{σ:St}{H:Hp}{s s':Shared}
theorem Inv.PM (I:Inv X pins σ H s):tJ X.prog X.w X.K X.mg X.base X.A X.stack s H:=
 ⟨I.ok.frames,I.ok.mod,I.bs,D9 I.ok.Ei I.sz,I.stack,I.vZ,I.cp,I.bare⟩
theorem Inv.after {Q:VK}{u:Value}(I:Inv X pins σ H s)(h:CE X.stack X.prog X.w H s Q u s'):EP X pins σ Q u s':=by obtain⟨v,H',os,bare,un,cp,r,q⟩:=h;obtain⟨hh,g,d,t,DZ⟩:=s';obtain rfl:DZ=s.os:=os;exact⟨v,H',I.call (h':=hh) (g':=g) (d':=d) (t':=t) (ch:=[]) un cp bare (λ b z=>absurd z (by simp)),r,q⟩
end
def Iv(sp:Sp)(Dq:List V)(E:XK)(t:TA):TE:=λ σ H Q=>t σ H λ vs H1=>sp (vs++Dq) H1 Q E
def Binds(K:K2)(fd:FuncData)(ps:List Str)(ds:List Value):Prop:=
 ∀(s:Shared) (us:List Value),K.In s.heap->(us++ds).length=ps.length->BindsTo s fd ⟨us,[]⟩ (ps.zip (us++ds))
theorem Binds.all {K:K2}{fd:FuncData}{ps:List Str}(h:∀us:List Value,us.length=ps.length->bindArgs fd ⟨us,[]⟩=pure (ps.zip us)):Binds K fd ps []:=λ s us _ hl=>by rw[A6]at hl ⊢;exact .of_eq (h us hl)
def Passes(CX:DU)(X:Cx)(E:XK):Prop:=∀(pins:List (Addr×Obj)) (σ:St) (H:Hp) (s:Shared) (e:Value) (s':Shared),Inv X pins σ H s->CX X.stack H s E e s'->X.xe e s'
section
variable {X:Cx}{CX:DU}{k:Nat}{f C:Addr}{fd:FuncData}{ps:List Str}{sp:Sp}{Dq:List V}{ds:List Value}{E:XK}{x m:Str}{p pos apos:Pos}{e o:Expr}{es:List Expr}{ta:TE}{t:TA}
theorem Ke{pins:List (Addr×Obj)}{σ:St}{H:Hp}{s:Shared}{Q:VK}{us:List Value}{vs:List V}(F:bZ X.prog X.w X.K X.mg X.base CX k f fd ps sp)(hr:dh k X.A)(hb:Binds X.K fd ps ds)(hd:Vals Dq ds)(hx:Passes CX X E) (I:Inv X pins σ H s) (r:Vals vs us) (h:sp (vs++Dq) H Q E):wpAny (model X.prog X.w) X.A (call (.ref f) us) (EP X pins σ Q) X.xe s:=by
 have r2:Vals (vs++Dq) (us++ds):=r.append hd;have hl:(us++ds).length=ps.length:=by rw[<- r2.length];exact F.len _ _ _ _ h
 refine wpAny_call (E7 (F.run X.A X.stack s H ⟨us,[]⟩ (us++ds) (vs++Dq) Q E hr I.PM (hb s us I.oB hl) r2 h) λ r s' hq=>?_);cases r with
 |error e=>exact hx pins σ H s e s' I hq
 |ok fl=>
  cases fl with
  |ret u=>exact I.after hq
  |next=>exact False.elim hq
  |brk=>exact False.elim hq
  |cont=>exact False.elim hq
theorem Gq(F:bZ X.prog X.w X.K X.mg X.base CX k f fd ps sp)(hr:dh k X.A)(hg:Gl X x)(hm:X.mg x=some (.ref f))(hk:PySem.W.keepIn X.K (.ref f)=true)(hb:Binds X.K fd ps ds)(hd:Vals Dq ds)(hx:Passes CX X E) (ha:PA X (e::es) t) (hdb:(x==("__debug__":Str))=false:=by decide) (he:starEach (e::es) X.env=(false,eval e X.env)::starEach es X.env:=by rfl) (hpl:(backTo pos (starEach es X.env)).any (·.1)=false:=by rfl):PE X (.Call (.Name x p) (e::es) [] pos) (Iv sp Dq E t):=by intro pins s σ H Q I h;refine r9 (wV I hg hm ?_ hdb);refine PySem.W.callWith_K (h₀:=X.base) I.ok.mod.Ra hk (dF (ha pos pins s σ H _ I h) λ us s1 ⟨vs,H1,I1,r,q⟩=>⟨I1.oB,?_⟩) he hpl;exact Ke F hr hb hd hx I1 r q
end
def PK(X:Cx)(OT:List Keyword)(t:TA):Prop:=
 ∀(pos:Pos) (pins:List (Addr×Obj)) (s:Shared) (σ:St) (H:Hp) (Q:List V->Hp->Prop),Inv X pins σ H s->t σ H Q->wpAny (model X.prog X.w) X.A (evalAll ((backToKw pos (keywordEach OT X.env)).map (·.2))) (AP X pins σ Q) X.xe s
section
variable {X:Cx}{CX:DU}{k:Nat}{f C:Addr}{fd:FuncData}{ps ks:List Str}{sp:Sp}{E:XK}{x m:Str}{p pos apos SI:Pos}{e o:Expr}{es:List Expr}{OT:List Keyword}{te ta:TE}{t tk:TA}{nm:Option Str}
theorem Lj:PK X [] JS:=λ _ _ _ _ H Q I h=>wpAny_evalAll_nil ⟨[],H,I,.nil,h⟩
theorem Gh(ha:PE X e te)(hr:PK X OT t):PK X (⟨nm,e,SI⟩::OT) (Ag te t):=by intro pos pins s σ H Q I h;show wpAny _ _ (evalAll ((do let v <- eval e X.env;standAt pos;pure v)::(backToKw pos (keywordEach OT X.env)).map (·.2))) _ _ s;refine wpAny_evalAll_cons (H0 (dF (ha pins s σ H _ I h) λ u s1 ⟨x,H1,I1,r1,q1⟩=>H0 (wpAny_standAt (H9 ?_))));exact dF (hr pos pins s1 σ H1 _ I1 q1) λ us s2 ⟨xs,H2,I2,r2,q2⟩=>⟨x::xs,H2,I2,.cons r1 r2,q2⟩
variable {g:List Value->List Value->List Value}{gV:List V->List V->List V}
end
structure aO(N P:List Str)(sc:Scope):Prop where
 kind:sc.kind=.function
 co:sc.isCoroutine=false
 gen:sc.isGenerator=false
 nd:N.Nodup
 pre:N.take P.length=P
 par:∀x∈P,sc.names.lookup x=some .local\/sc.names.lookup x=some .cell
 LW:∀y∈sc.names,y.2≠.free
theorem oM{kindOf:Str->Option NameKind}{x:Str}:∀{binds:List (Str×Value)} {m:Str->Option Value},(∀v,(x,v)∉binds)->bindL kindOf binds m x=m x
 |[],_,_=>rfl
 |(n,v)::r,m,h=>by
  unfold bindL;rw[oM λ w hw=>h w (k9 _ hw)];split
  ·have:x≠n:=by rintro rfl;exact h v o8
   simp[this]
  ·rfl
theorem oO{kindOf:Str->Option NameKind}{x:Str}:∀{binds:List (Str×Value)} {m:Str->Option Value},(∀v,(x,v)∉binds)->bindC kindOf binds m x=m x
 |[],_,_=>rfl
 |(n,v)::r,m,h=>by
  unfold bindC;rw[oO λ w hw=>h w (k9 _ hw)];split
  ·rfl
  ·have:x≠n:=by rintro rfl;exact h v o8
   simp[this]
theorem oN{kindOf:Str->Option NameKind}{x:Str}{v:Value}:∀{P:List Str} {vs:List Value} {i:Nat} {m:Str->Option Value},P.Nodup->P[i]?=some x->vs[i]?=some v->kindOf x=some .local->
  bindL kindOf (P.zip vs) m x=some v
 |[],_,_,_,_,h,_,_=>by simp at h
 |_::_,[],_,_,_,_,h,_=>by simp at h
 |p::P,w::vs,0,m,nd,h1,h2,hk=>by simp at h1 h2;subst h1;subst h2;show bindL kindOf ((p,w)::P.zip vs) m p=_;unfold bindL;rw[oM λ v hv=>(nodup_cons.mp nd).1 (of_mem_zip hv).1,J8 hk];simp
 |p::P,w::vs,i+1,m,nd,h1,h2,hk=>by show bindL kindOf ((p,w)::P.zip vs) m x=_;unfold bindL;exact oN (i:=i) (nodup_cons.mp nd).2 (by simpa using h1) (by simpa using h2) hk
theorem oP{kindOf:Str->Option NameKind}{x:Str}{v:Value}:∀{P:List Str} {vs:List Value} {i:Nat} {m:Str->Option Value},P.Nodup->P[i]?=some x->vs[i]?=some v->kindOf x≠some .local->
  bindC kindOf (P.zip vs) m x=some v
 |[],_,_,_,_,h,_,_=>by simp at h
 |_::_,[],_,_,_,_,h,_=>by simp at h
 |p::P,w::vs,0,m,nd,h1,h2,hk=>by simp at h1 h2;subst h1;subst h2;show bindC kindOf ((p,w)::P.zip vs) m p=_;unfold bindC;rw[oO λ v hv=>(nodup_cons.mp nd).1 (of_mem_zip hv).1,J9 hk];simp
 |p::P,w::vs,i+1,m,nd,h1,h2,hk=>by show bindC kindOf ((p,w)::P.zip vs) m x=_;unfold bindC;exact oP (i:=i) (nodup_cons.mp nd).2 (by simpa using h1) (by simpa using h2) hk
def start(N:List Str)(vs:List V):St:=vs.map some++List.replicate (N.length - vs.length) none
def sO(CX:DU)(P:Program)(w:World)(K:K2)(mg:Str->Option Value)(base:Heap)(N:List Str)(qual:Str)(scope:Scope)(f:Addr)(cd:Value)(A:Around)(outer:List Env)(s:Shared)(H:Hp)(E:XK):Cx where
 prog:=P
 w:=w
 K:=K
 mg:=mg
 base:=base
 A:=A.deeper (envOfC qual scope s.heap.objs.size f cd)
 N:=N
 s₀:=s
 H₀:=H
 env:=envOfC qual scope s.heap.objs.size f cd
 outer:=outer
 stack:=envOfC qual scope s.heap.objs.size f cd::outer
 ex:=[]
 calm:=true
 fn:=λ _=>true
 pn:=[]
 xe:=λ e s'=>wpAny (model P w) (A.deeper (envOfC qual scope s.heap.objs.size f cd)) (leaving (envOfC qual scope s.heap.objs.size f cd) e) (λ _ NW=>CX outer H s E e NW) (λ e' NW=>CX outer H s E e' NW) s'
theorem sV{sc:Scope}{n:Nat}{x:Str}(h:sc.names.lookup x=some .cell):∃c,(cellsFrom n sc.names []).lookup x=some c:=by have q:=PySem.W.cellsFrom_some sc.names n [] (.inl h);exact Option.isSome_iff_exists.mp q
theorem ze{CX:DU}{P:Program}{w:World}{K:K2}{mg:Str->Option Value}{base:Heap}{N ps:List Str}{qual:Str}{scope:Scope}{f:Addr}{cd:Value}{A:Around}{outer:List Env}{s s1:Shared}{H:Hp}{E:XK}{us:List Value}{vs:List V} (S:aO N ps scope) (hd:A.handled=none) (e0:tJ P w K mg base A outer s H) (hl:vs.length=ps.length) (r:Vals vs us) (x:InCallC s s.heap.objs.size (bindL (envOfC qual scope s.heap.objs.size f cd).kindOf (ps.zip us) λ _=>none) (cellsFrom (s.heap.objs.size+1) scope.names []) (bindC (envOfC qual scope s.heap.objs.size f cd).kindOf (ps.zip us) λ _=>none) s1):Inv (sO CX P w K mg base N qual scope f cd A outer s H E) [] (start N vs) H s1:=by
 have hpl:ps.length<=N.length:=by have:=J5 List.length S.pre;rw[A0]at this;omega
 obtain⟨h1,tk,rfl,hk⟩:=x.done;have OM:∀b:Addr,b∉(sO CX P w K mg base N qual scope f cd A outer s H E).ex:=λ b z=>absurd (show b∈([]:List Addr)from z) (by simp);refine⟨⟨e0.mod,S.kind,rfl,rfl,G5 _,λ y z c h1 h2=>?_,λ y hy=>?_,λ y c _ h=>?_,λ _=>hd,Around.frames_deeper e0.frames,.inr ⟨rfl,rfl⟩,λ b z=>absurd z (OM b),e0.bs,e0.Ei,λ b _ _=>OM b,λ b z=>absurd z (OM b),e0.j',e0.MD⟩,
  rfl,e0.bare,Un.kept hk,⟨_,x.toInCall.ns,λ i y v h1 h2 h3=>?_⟩,λ y c h=>⟨_,x.cell y c h⟩,e0.cp.fresh (G5 _),λ y c h=>?_,λ p hp=>absurd (show p∈([]:List (Addr×Obj))from hp) (by simp),e0.cp.kept hk,?_⟩
 ·exact name_of_addr x.apart (m6 h1) (m6 h2)
 ·have hy:scope.names.lookup y=some .cell\/scope.names.lookup y=some .free:=hy;rcases hy with hy|hy
  ·exact sV hy
  ·exact absurd rfl (S.LW _ (m6 hy))
 ·exact G0 (x.above y c (m6 h))
 ·have hi:i < vs.length:=by
   unfold start at h2;by_cases hi:i < vs.length
   ·exact hi
   ·rw[c6 (by simpa using hi)]at h2;rw[i8]at h2;split at h2 <;> cases h2
  have ha:vs[i]?=some v:=by
   unfold start at h2;rw[c8 (by simpa using hi),u9]at h2;cases e:vs[i]? with
   |none=>rw[e]at h2;cases h2
   |some a=>rw[e]at h2;cases h2;rfl
  obtain⟨u,hu,rv⟩:=r.get ha;have hp:ps[i]?=some y:=by rw[<- S.pre,getElem?_take_of_lt (by omega)];exact h1
  have UB:ps.Nodup:=by rw[<- S.pre];exact S.nd.sublist (take_sublist _ _)
  refine⟨u,rv,?_⟩;rcases S.par y (l4 hp)with k|k
  ·exact .inl ⟨k,oN UB hp hu k⟩
  ·obtain⟨c,e⟩:=sV (n:=s.heap.objs.size+1) k;refine .inr ⟨.inl k,c,e,?_⟩;have q:=x.cell y c e;rw[oP UB hp hu (by show scope.names.lookup y≠_;rw[k];decide)]at q;exact q
 ·exact e0.cp.fresh (G0 (x.above y c (m6 h)))
 ·unfold start;show _=N.length;rw[p6,B5,k7];omega
theorem PH{CX:DU}{P:Program}{w:World}{K:K2}{mg:Str->Option Value}{base:Heap}{k:Nat}{f:Addr}{name qual:Str}{params:Arguments}{body:List Stmt}{scope:Scope}{dV kV doc pm c_ ct oc:Value}{an od:Option Addr} {IT:Array (Option Value)} {N ps:List Str} {sp:Sp} (lk:K.lookup f=some ⟨oc,od,.func (PySem.W.fnOf name qual params body scope dV kV doc pm an c_ ct),IT⟩) (hcd:PySem.W.codeIn K c_ qual=true) (S:aO N ps scope) (len:∀vs H Q E,sp vs H Q E->vs.length=ps.length) (mC:∀(A:Around) (outer:List Env) (s:Shared) (H:Hp) (vs:List V) (Q:VK) (E:XK),dh k (A.deeper (envOfC qual scope s.heap.objs.size f c_))->sp vs H Q E->
   ∃t,tQ (sO CX P w K mg base N qual scope f c_ A outer s H E) body t/\t {nx:=λ _ H'=>Q .bM H',rt:=Q} (start N vs) H):
  bZ P w K mg base CX (k+1) f (PySem.W.fnOf name qual params body scope dV kV doc pm an c_ ct) ps sp:=by
 refine⟨len,λ A outer s H args us vs Q E hr e0 hb r Hz=>?_⟩;have hl:=len _ _ _ _ Hz;have KX:K.In s.heap:=e0.mod.Ra.keeps λ b o e=>(e0.bs b o e).1;have lim:s.heap.NoLimit:=e0.mod.nolimit.keeps λ b o e=>(e0.bs b o e).1;have CS:∀y∈ps.zip us,scope.names.lookup y.1=some .local\/(scope.names.lookup y.1=some .cell/\((cellsFrom (s.heap.objs.size+1) scope.names []).lookup y.1).isSome=true):=λ⟨n,v⟩ hy=>by
  rcases S.par n (of_mem_zip hy).1 with q|q
  ·exact .inl q
  ·exact .inr ⟨q,PySem.W.cellsFrom_some _ _ _ (.inl q)⟩
 refine codeAny_call_function hr.depth (KX _ _ lk) rfl S.co S.gen rfl (PySem.W.codeRec_of KX hcd) (hb _ _ _ _ ?_);refine wpAny_newFunctionEnv_cells S.kind CS λ env he s1 x=>?_;subst he;refine⟨lim.keeps x.toInCall.keep,codeAny_func ?_⟩;obtain⟨t,ht,hq⟩:=mC A outer s H vs Q E (hr.deeper _) Hz;have I:Inv (sO CX P w K mg base N qual scope f c_ A outer s H E) [] (start N vs) H s1:=ze S hr.hd e0 hl r x;refine J3 (ht [] s1 (start N vs) H _ I hq) (λ fl s' hs=>?_) λ e s' hs=>hs;have fin:∀{σ':St} {H':Hp} {v:V} {u:Value},Inv (sO CX P w K mg base N qual scope f c_ A outer s H E) [] σ' H' s'->RelV v u->Q v H'->CE outer P w H s Q u s':=
  λ{σ' H' v u} J rv q=>⟨v,H',J.os,J.bare,J.base,J.cp,rv,q⟩
 cases fl with
 |ret u=>obtain⟨v,σ',H',J,rv,q⟩:=hs;exact fin J rv q
 |next=>obtain⟨σ',H',J,q⟩:=hs;exact fin (v:=V.bM) (u:=Value.none) J rfl q
 |brk=>obtain⟨_,_,_,q⟩:=hs;exact False.elim q
 |cont=>obtain⟨_,_,_,q⟩:=hs;exact False.elim q
section
variable {X:Cx}{x:Str}{p pos:Pos}{e:Expr}{es:List Expr}{t:TA}{id T:String}{r:List V->Hp->VK->Prop}
def Qz(r:List V->Hp->VK->Prop)(t:TA):TE:=λ σ H Q=>t σ H λ vs H1=>r vs H1 Q
theorem rK(hc:cW X (.builtin id) r)(hg:Gl X x)(hm:X.mg x=none)(hv:bootBuiltins x=some (.builtin id))(ha:PA X (e::es) t)(hn:x≠"__name__":=by decide)(hdb:(x==("__debug__":Str))=false:=by decide) (he:starEach (e::es) X.env=(false,eval e X.env)::starEach es X.env:=by rfl) (hpl:(backTo pos (starEach es X.env)).any (·.1)=false:=by rfl):PE X (.Call (.Name x p) (e::es) [] pos) (Qz r t):=by intro pins s σ H Q I h;refine r9 (ef I hg hm hv ?_ hn hdb);exact PyProof.Rows.callWith_builtin1 (dF (ha pos pins s σ H _ I h) λ us s1 ⟨vs,H1,I1,r1,q1⟩=>hc pins s1 σ H1 vs us Q I1 r1 q1) he hpl
theorem gP(hc:cW X (.type T) r)(hg:Gl X x)(hm:X.mg x=none)(hv:bootBuiltins x=some (.type T))(ha:PA X (e::es) t)(hn:x≠"__name__":=by decide)(hdb:(x==("__debug__":Str))=false:=by decide) (he:starEach (e::es) X.env=(false,eval e X.env)::starEach es X.env:=by rfl) (hpl:(backTo pos (starEach es X.env)).any (·.1)=false:=by rfl):PE X (.Call (.Name x p) (e::es) [] pos) (Qz r t):=by intro pins s σ H Q I h;refine r9 (ef I hg hm hv ?_ hn hdb);exact c4 (dF (ha pos pins s σ H _ I h) λ us s1 ⟨vs,H1,I1,r1,q1⟩=>hc pins s1 σ H1 vs us Q I1 r1 q1) he hpl
end
end L2
namespace HT
open PySem PyProof.Rows
def lexLt:List Int->List Int->Bool
 |[],[]=>false
 |[],_::_=>true
 |_::_,[]=>false
 |x::xs,y::ys=>if x=y then lexLt xs ys else decide (x < y)
theorem cZ(x y:Int)(xs ys:List Int):lexLt (x::xs) (y::ys)=if x=y then lexLt xs ys else decide (x < y):=rfl
theorem dS:lexLt [] []=false:=rfl
theorem dC(y:Int)(ys:List Int):lexLt [] (y::ys)=true:=rfl
theorem dD(x:Int)(xs:List Int):lexLt (x::xs) []=false:=rfl
theorem Dk(A:Around)(s:Shared)(a:Int)(t:Tok)(c:Int)(u:Tok):∃e,SeqAt.EqAt A s (.int a t) (.int c u) e/\(e=true↔a=c):=
 ⟨(a==c),SeqAt.EqAt.int_int a t c u,by simp⟩
theorem lS(A:Around)(s:Shared)(a:Int)(t:Tok)(c:Int)(u:Tok)(prog:Program)(w:World)(E:Value->Shared->Prop)(Q:Value->Shared->Prop)(h:Q (.bool (decide (a < c))) s):wpAny (model prog w) A (richCompare .Lt (.int a t) (.int c u)) Q E s:=
 (PyProof.Rows.lt_int h:wpAny (model prog w) A (compareOp .Lt (.int a t) (.int c u)) Q E s)
section
open PySem.SeqAt
open PySem.AutoSeq1 (wpAny_loadPart')
open PySem.MeetsSeq PySem.MeetsSeq2 PySem.MeetsSeq3
theorem nc(l b:Addr)(items e_:Array Value)(n n2:Nat)(dd ND:Option Addr)(sl Ni:Array (Option Value))(ns ms:List Int)(hi:IntsAre items.toList ns)(hj:IntsAre e_.toList ms):Meets (Builtin.«tuple.__lt__» ⟨[.ref l,.ref b],[]⟩)
   (λ _ R s=>s.heap.get? l=some {cls:=.type "tuple",dict:=dd,data:=.seq items n,slots:=sl}/\s.heap.get? b=some {cls:=.type "tuple",dict:=ND,data:=.seq e_ n2,slots:=Ni}/\
    R (.ok (.ret (.bool (lexLt ns ms)))) s):=
 .of_wp λ prog w A R s h=>by
  obtain⟨hp,g,d,tk,os⟩:=s;obtain⟨hl,hb,h⟩:=h;have f2:=AutoSeq1.sub_tuple_tuple;have z1:items.size=ns.length:=by rw[<- hi.length];simp
  have z2:e_.size=ms.length:=by rw[<- hj.length];simp
  wp_walk using A8 hl,A8 hb,wpAny_forIn_list _ (λ rest b s'=>b.1=none/\s'=⟨hp,g,d,tk,os⟩/\∃(vs ws:List Value) (dG Np:List Int),rest=vs.zip ws/\
   IntsAre vs dG/\IntsAre ws Np/\dG.length+e_.size=Np.length+items.size/\R (.ok (.ret (.bool (lexLt dG Np)))) ⟨hp,g,d,tk,os⟩) _
  case turn=>
   rintro⟨y,x⟩ rest b s' ⟨Jk,rfl,vs,ws,dG,Np,hz,SY,Rh,hlen,hR⟩;cases SY with
   |nil=>rw[zip_nil_left]at hz;cases hz
   |cons a t SX=>
    cases Rh with
    |nil=>rw[zip_nil_right]at hz;cases hz
    |cons c u SV=>
     rw[zip_cons_cons]at hz;injection hz with V' xf
     injection V' with hy hx
     subst hy hx;rw[cZ]at hR;simp only[y4]at hlen;obtain⟨e,he,Pp⟩:=Dk A.in1 ⟨hp,g,d,tk,os⟩ a t c u;refine H0 (he prog w _ _ ?_);cases e with
     |true=>
      rw[J8 (Pp.mp rfl)]at hR
      wp_walk
      exact⟨rfl,rfl,_,_,_,_,xf,SX,SV,by omega,hR⟩
     |false=>
      rw[J9 (λ q=>absurd (Pp.mpr q) p5)]at hR;have Wn:=lS A.in1 ⟨hp,g,d,tk,os⟩ a t c u prog w
      wp_walk using Wn
      exact⟨_,rfl,by simpa using hR⟩
  case fin=>
   rintro⟨b1,b2⟩ s' ⟨Jk,rfl,vs,ws,dG,Np,hz,SY,Rh,hlen,hR⟩;simp only at Jk;subst Jk;have hv:lexLt dG Np=decide (items.size < e_.size):=by
    cases SY with
    |nil=>
     cases Rh with
     |nil=>simp only[length_nil]at hlen;rw[dS];exact(A7 (by omega)).symm
     |cons c u hw=>simp only[length_nil,y4]at hlen;rw[dC];exact(C0 (by omega)).symm
    |cons a t hv=>
     cases Rh with
     |nil=>simp only[length_nil,y4]at hlen;rw[dD];exact(A7 (by omega)).symm
     |cons c u hw=>rw[zip_cons_cons]at hz;cases hz
   rw[hv]at hR
   wp_walk
   exact⟨_,rfl,by simpa[Builtin.Tuple.tupleCompareSizes]using hR⟩
  case h=>
   exact⟨rfl,rfl,items.toList,e_.toList,ns,ms,rfl,hi,hj,by omega,h⟩
end
section
variable {prog:Program}{w:World}{A:Around}{E:Value->Shared->Prop}{s:Shared}
theorem uS{l b:Addr}{items e_:Array Value}{ns ms:List Int}{Q:Value->Shared->Prop}(hl:IsTup s.heap l items)(hb:IsTup s.heap b e_)(hi:IntsAre items.toList ns)(hj:IntsAre e_.toList ms) (hu:A.units < cLine) (h:Q (.bool (lexLt ns ms)) s):wpAny (model prog w) A (compareOp .Lt (.ref l) (.ref b)) Q E s:=by
 obtain⟨⟨cls,dd,data,sl⟩,ho,hc,n,hd⟩:=id hl;obtain⟨⟨T8,ND,data2,Ni⟩,CO,Px,n2,hd2⟩:=id hb;simp only at hc hd Px hd2;subst hc hd Px hd2;exact richCompare_meets_room (op:=.Lt) ⟨_,ho,rfl⟩ ⟨_,CO,rfl⟩ PySem.F.slot_tuple_lt PySem.F.entry_tuple_lt (PySem.F.args_tuple_lt_2 _ _) (nc l b items e_ n n2 dd ND sl Ni ns ms hi hj)
  ⟨ho,CO,show Value.bool (lexLt ns ms)≠Value.notImplemented/\Q (.bool (lexLt ns ms)) s from⟨(λ x=>nomatch x),h⟩⟩ hu
theorem HY{t b:Addr}{vs ws:List Value}{Q:Value->Shared->Prop}(ht:IsTup s.heap t vs.toArray)(hb:IsTup s.heap b ws.toArray)(hv:vs≠[]) (h1:ws=[]->Q (.ref t) s) (h2:ws≠[]->Q (.ref s.heap.objs.size) {s with heap:=s.heap.push {cls:=.type "tuple",data:=.seq (vs++ws).toArray}}) (hsz:vs.length+ws.length<=sizeLine):wpAny (model prog w) A (binaryOp .Add (.ref t) (.ref b)) Q E s:=by
 obtain⟨⟨cls,dd,data,sl⟩,ho,hc,n,hd⟩:=id ht;obtain⟨⟨T8,ND,data2,Ni⟩,CO,Px,n2,hd2⟩:=id hb;simp only at hc hd Px hd2;subst hc hd Px hd2;have e:vs.toArray++ws.toArray=(vs++ws).toArray:=by simp
 by_cases hw:ws=[]
 ·exact concat_meets ⟨_,ho,rfl⟩ ⟨_,CO,rfl⟩ noFill_tuple_add seq_tuple_add PySem.F.slot_tuple_add PySem.F.entry_tuple_add (PySem.F.args_tuple_add_2 _ _)
   (tuple_addW1 t b vs.toArray ws.toArray n n2 dd ND sl Ni (by simpa using hv) (by simp[hw])) ⟨ho,CO,h1 hw⟩
 ·refine concat_meets ⟨_,ho,rfl⟩ ⟨_,CO,rfl⟩ noFill_tuple_add seq_tuple_add PySem.F.slot_tuple_add PySem.F.entry_tuple_add (PySem.F.args_tuple_add_2 _ _)
   (tuple_addW2 t b vs.toArray ws.toArray n n2 dd ND sl Ni (by simpa using hv) (by simpa using hw) (by rw[x8,x8];exact hsz)) ⟨ho,CO,?_⟩
  rw[e];exact h2 hw
def cf(n d:Nat):Option Int->Nat
 |none=>d
 |some v=>if v < 0 then(v+(n:Int)).toNat else min v.toNat n
theorem uo(n d:Nat)(hd:d<=n)(o:Option Int):cf n d o<=n:=by
 cases o with
 |none=>exact hd
 |some v=>
  show(if v < 0 then(v+(n:Int)).toNat else min v.toNat n)<=n;by_cases hv:v < 0
  ·rw[J8 hv];omega
  ·rw[J9 hv];exact Nat.min_le_right _ _
theorem xH(v:Int)(n d:Nat):(if v < 0 then max (v+(n:Int)) 0 else min v (n:Int))=((cf n d (some v):Nat):Int):=by
 show(if v < 0 then max (v+(n:Int)) 0 else min v (n:Int))=(((if v < 0 then(v+(n:Int)).toNat else min v.toNat n):Nat):Int);by_cases hv:v < 0
 ·simp only[J8 hv];omega
 ·simp only[J9 hv];omega
theorem vI(lo hi:Option Int)(n:Nat):Builtin.Slice.sliceAdjust lo hi 1 (n:Int)=(((cf n 0 lo:Nat):Int),((cf n n hi:Nat):Int)):=by
 have h1:¬((1:Int) < 0):=by omega
 unfold Builtin.Slice.sliceAdjust;simp only[h1,J4];refine Prod.ext ?_ ?_
 ·cases lo with
  |none=>rfl
  |some v=>exact xH v n 0
 ·cases hi with
  |none=>rfl
  |some v=>exact xH v n n
theorem uE(i j:Nat):Builtin.Slice.slicePlaces (i:Int) (j:Int) 1=j - i:=by
 unfold Builtin.Slice.slicePlaces;have h1:(1:Int) > 0:=by omega
 simp only[h1,J7,Int.ediv_one];split <;> omega
theorem lJ{v:Value}{o:Option Int}{Q:Option Int->Shared->Prop}(p:IsPart v o)(h:Q o s):wpAny (model prog w) A (Builtin.Slice.slicePartIndex v) Q E s:=by
 cases p with
 |none=>exact slicePart_none h
 |int i t=>exact slicePart_int h
theorem fh{sl:Addr}{vl vu:Value}{lo hi:Option Int}{n:Nat}{Q:Int×Int×Nat->Shared->Prop}(hs:s.heap.IsSliceOf sl vl vu .none)(pl:IsPart vl lo)(pu:IsPart vu hi) (h:Q (((cf n 0 lo:Nat):Int),1,cf n n hi - cf n 0 lo) s):wpAny (model prog w) A (Builtin.Slice.sliceApplied (.ref sl) (pure (n:Int))) Q E s:=by obtain⟨os,xg,Rq,HG⟩:=id hs;unfold Builtin.Slice.sliceApplied Builtin.Slice.sliceFields;refine H0 (H0 (G8 xg HG (x:=vl) rfl (H0 (G8 xg HG (x:=vu) rfl (H0 (G8 xg HG (x:=.none) rfl (H9 ?_)))))));refine H0 (slicePart_none ?_);show wpAny _ _ (if((1:Int)==0)=true then _ else _) _ _ s;rw[J9 (by decide)];refine H0 (lJ pl (H0 (lJ pu (H0 (H9 ?_)))));show wpAny _ _ (match Builtin.Slice.sliceAdjust lo hi 1 (n:Int)with|(lo,hi)=>pure (lo,(1:Int),Builtin.Slice.slicePlaces lo hi 1)) _ _ s;rw[vI lo hi n];show wpAny _ _ (pure (((cf n 0 lo:Nat):Int),(1:Int),Builtin.Slice.slicePlaces ((cf n 0 lo:Nat):Int) ((cf n n hi:Nat):Int) 1)) _ _ s;rw[uE];exact H9 h
theorem By(xs:Array Value)(i k:Nat):((List.range k).filterMap λ(m:Nat)=>xs[((i:Int)+(m:Int)*1).toNat]?).toArray=((xs.toList.drop i).take k).toArray:=by
 have e:(λ(m:Nat)=>xs[((i:Int)+(m:Int)*1).toNat]?)=λ m=>xs[i+m]?:=by
  funext m;have:((i:Int)+(m:Int)*1).toNat=i+m:=by omega
  rw[this]
 rw[e];have:=pick_run xs i k;rw[filterMap_map]at this;have e2:((λ x=>xs[x]?)∘λ x=>i+x)=λ m=>xs[i+m]?:=rfl;rw[e2]at this;rw[this]
theorem iY{t sl:Addr}{items:Array Value}{vl vu:Value}{lo hi:Option Int}{Q:Value->Shared->Prop}(ht:IsTup s.heap t items)(hs:s.heap.IsSliceOf sl vl vu .none)(pl:IsPart vl lo)(pu:IsPart vu hi) (hw:¬(cf items.size 0 lo=0/\cf items.size items.size hi=items.size)) (h:Q (.ref s.heap.objs.size) {s with heap:=s.heap.push {cls:=.type "tuple",data:=.seq ((items.toList.drop (cf items.size 0 lo)).take (cf items.size items.size hi - cf items.size 0 lo)).toArray}}) (hsz:items.size<=sizeLine):wpAny (model prog w) A (getItem (.ref t) (.ref sl)) Q E s:=by
 have xc:sizeOk (.seq ((items.toList.drop (cf items.size 0 lo)).take (cf items.size items.size hi - cf items.size 0 lo)).toArray):=by show((items.toList.drop (cf items.size 0 lo)).take (cf items.size items.size hi - cf items.size 0 lo)).toArray.size<=sizeLine;rw[x8,A0,length_drop,m8];omega
 have hj:cf items.size items.size hi<=items.size:=uo _ _ (G5 _) hi;obtain⟨os,xg,Rq,HG⟩:=id hs;have TL:s.TypeIs (.ref sl) "slice":=⟨os,xg,Rq⟩;unfold getItem
 try with_reducible refine C5 ?_
 first|refine H0 (H9 ?_)|skip
 refine H0 (wpAny_sequenceKey ht.typeIs (by decide) ?_);refine H0 (i9 (name:=Str.ofString "__getitem__") ht.typeIs a8
  (y8 a8 ht.typeIs entry_tuple_getitem ?_ (args_tuple_getitem _ _)))
 show wpAny _ _ (Builtin.Tuple.tupleItemsOf (.ref t) >>= _) _ _ s;refine H0 (tupleItemsOf_ ht ?_);refine H0 (E6 TL ?_);rw[J8 (by decide)];refine H0 (fh hs pl pu ?_);have Pb:¬((((cf items.size 0 lo:Nat):Int)==0&&(1:Int)==1&&(cf items.size items.size hi - cf items.size 0 lo)==items.size)=true):=by intro q;rw[z9,z9]at q;have q1:((cf items.size 0 lo:Nat):Int)=0:=eq_of_beq q.1.1;have q2:cf items.size items.size hi - cf items.size 0 lo=items.size:=eq_of_beq q.2;exact hw ⟨by omega,by omega⟩
 show wpAny _ _ (if(((cf items.size 0 lo:Nat):Int)==0&&(1:Int)==1&&(cf items.size items.size hi - cf items.size 0 lo)==items.size)=true then _ else _) _ _ s;rw[J9 Pb,By]
 first
  |exact H0 (m:=Builtin.Tuple.tupleExact _) (w9 (H9 ⟨_,rfl,H9 h⟩) xc)
  |exact H0 (m:=Builtin.Tuple.tupleExact _) (w9 (H0 (H9 (H9 ⟨_,rfl,H9 h⟩))) xc)
  |exact H0 (H0 (m:=Builtin.Tuple.tupleExact _) (w9 (H9 (H9 ⟨_,rfl,H9 h⟩)) xc))
  |exact H0 (H0 (m:=Builtin.Tuple.tupleExact _) (w9 (H9 ⟨_,rfl,H9 h⟩) xc))
end
end HT
namespace L2
open PySem PySem.Spec PyProof.Rows
abbrev TO:=St->Hp->(Option Int->Hp->Prop)->Prop
def PO(X:Cx)(e:Option Expr)(t:TO):Prop:=
 ∀(pins:List (Addr×Obj)) (s:Shared) (σ:St) (H:Hp) (Q:Option Int->Hp->Prop),Inv X pins σ H s->t σ H Q->
  wpAny (model X.prog X.w) X.A (evalPart e X.env) (λ u s'=>∃o H',Inv X pins σ H' s'/\IsPart u o/\Q o H') X.xe s
def Ey:TO:=λ _ H Q=>Q none H
def NM(t:TE):TO:=λ σ H Q=>t σ H λ x H1=>∃i,x=.int i/\Q (some i) H1
theorem intsAre_of{ns:List Int}:∀{us:List Value},Vals (ns.map V.int) us->IntsAre us ns:=by
 induction ns with
 |nil=>intro us r;rw[E5]at r;cases r;exact .nil
 |cons n ns ih=>
  intro us r;rw[C9]at r;cases r with
  |cons r1 r2=>obtain⟨t,e⟩:=r1;subst e;exact .cons n t (ih r2)
section
variable {X:Cx}{e:Expr}{te:TE}{lo hi:Option Expr}{tl th:TO}{pos p2:Pos}
theorem Gf:PO X none Ey:=by intro pins s σ H Q I h;rw[evalPart_none];exact H9 ⟨none,H,I,.none,h⟩
theorem Ge(h:PE X e te):PO X (some e) (NM te):=by intro pins s σ H Q I hw;rw[evalPart_some];refine dF (h pins s σ H _ I hw) λ u s1 ⟨x,H1,I1,r1,q1⟩=>?_;obtain⟨i,rfl,q⟩:=q1;obtain⟨t,rfl⟩:=r1;exact⟨some i,H1,I1,.int i t,q⟩
def xQ(X:Cx)(r:V->Option Int->Option Int->Hp->VK->Prop):Prop:=
 ∀(pins:List (Addr×Obj)) (s:Shared) (σ:St) (H:Hp) (x:V) (v vl vu:Value) (lo hi:Option Int) (sl:Addr) (Q:VK),Inv X pins σ H s->RelV x v->s.heap.IsSliceOf sl vl vu .none->IsPart vl lo->IsPart vu hi->r x lo hi H Q->
  ∃T id,typeLookup (.type T) "__getitem__"=pure (some (.builtin id))/\s.TypeIs v T/\wpAny (model X.prog X.w) X.A (getItem v (.ref sl)) (EP X pins σ Q) X.xe s
theorem xQ.or {r r':V->Option Int->Option Int->Hp->VK->Prop}(h:xQ X r)(h':xQ X r'):xQ X (λ x lo hi H Q=>r x lo hi H Q\/r' x lo hi H Q):=by
 intro pins s σ H x v vl vu lo hi sl Q I rx hs pl pu q;rcases q with q|q
 ·exact h pins s σ H x v vl vu lo hi sl Q I rx hs pl pu q
 ·exact h' pins s σ H x v vl vu lo hi sl Q I rx hs pl pu q
def VF(r:V->Option Int->Option Int->Hp->VK->Prop)(te:TE)(tl th:TO):TE:=λ σ H Q=>te σ H λ x H1=>tl σ H1 λ l H2=>th σ H2 λ u H3=>r x l u H3 Q
theorem BD{r:V->Option Int->Option Int->Hp->VK->Prop}(hr:xQ X r)(he:PE X e te)(hl:PO X lo tl)(hu:PO X hi th):PE X (.Subscript e (.Slice lo hi none p2) pos) (VF r te tl th):=by intro pins s σ H Q I h;refine Subscript_ (dF (he pins s σ H _ I h) λ v s1 ⟨x,H1,I1,r1,q1⟩=>?_);refine wpAny_Slice (dF (hl pins s1 σ H1 _ I1 q1) λ vl s2 ⟨l,H2,I2,pl,q2⟩=>dF (hu pins s2 σ H2 _ I2 q2) λ vu s3 ⟨u,H3,I3,pu,q3⟩=>?_);rw[evalPart_none];refine H9 ?_;have I4:Inv X pins σ H3 {s3 with heap:=s3.heap.push {cls:=.type "slice",data:=.fields #[vl,vu,.none]}}:=I3.kept (t':=s3.toks) λ b ob q=>j5 _ q;obtain⟨T,id,hT,ht,hg⟩:=hr pins {s3 with heap:=s3.heap.push {cls:=.type "slice",data:=.fields #[vl,vu,.none]}} σ H3 x v vl vu l u s3.heap.objs.size Q I4 r1 (Heap.IsSliceOf.new ..) pl pu q3;show wpAny (model X.prog X.w) X.A (subscriptTail e (.Slice lo hi none p2) v (.ref s3.heap.objs.size)) (EP X pins σ Q) X.xe {s3 with heap:=s3.heap.push {cls:=.type "slice",data:=.fields #[vl,vu,.none]}};exact tail_any (ops:=[.ref s3.heap.objs.size,v]) ht hT hg (by with_unfolding_all rfl)
def sQ(xs:List V)(lo hi:Option Int):List V:=(xs.drop (HT.cf xs.length 0 lo)).take (HT.cf xs.length xs.length hi - HT.cf xs.length 0 lo)
theorem jQ(xs:List V)(lo hi:Option Int):(sQ xs lo hi).length<=xs.length:=by unfold sQ;rw[A0,length_drop];omega
def N'(K:K2):V->Option Int->Option Int->Hp->VK->Prop:=λ x lo hi H Q=>∃a xs,x=.ref a/\fE K H a xs/\
 ¬(HT.cf xs.length 0 lo=0/\HT.cf xs.length xs.length hi=xs.length)/\∀p,H p=none->Q (.ref p) (upd H p (.tup (sQ xs lo hi)))
theorem JW:xQ X (N' X.K):=by
 intro pins s σ H x v vl vu lo hi sl Q I rx hs pl pu h;obtain⟨a,xs,rfl,hx,hw,q⟩:=h;cases rx;obtain⟨av,r,ht,hz⟩:=I.tuple hx;have hlen:av.toArray.size=xs.length:=by rw[x8];exact r.length.symm
 refine⟨"tuple",_,a8.lookup,ht.typeIs,?_⟩;refine HT.iY ht hs pl pu (by rw[hlen];exact hw) ?_ (by rw[hlen];exact hz);rw[hlen];refine⟨.ref s.heap.objs.size,_,I.laid (t':=s.toks) (o:=.tup (sQ xs lo hi)) (λ b ob q=>j5 _ q) (G5 _) ?_,rfl,q _ (I.cp.fresh (G5 _))⟩;exact⟨D9 (jQ xs lo hi) hz,_,(r.drop (HT.cf xs.length 0 lo)).take (HT.cf xs.length xs.length hi - HT.cf xs.length 0 lo),IsTup.new _ _⟩
def Og(K:K2):R2:=λ x y H Q=>∃a b xs ys,x=.ref a/\y=.ref b/\fE K H a xs/\fE K H b ys/\xs≠[]/\xs.length+ys.length<=sizeLine/\
 (ys=[]->Q (.ref a) H)/\(ys≠[]->∀p,H p=none->Q (.ref p) (upd H p (.tup (xs++ys))))
theorem Vals.pM {xs:List V}{us:List Value}(r:Vals xs us):us=[]↔xs=[]:=by
 cases r with
 |nil=>simp
 |cons _ _=>simp
theorem Gy:fF X (binaryOp .Add) (Og X.K):=by intro pins s σ H x y v u Q I rx ry h;obtain⟨a,b,xs,ys,rfl,rfl,ha,hb,hx,hz,q1,q2⟩:=h;cases rx;cases ry;obtain⟨av,r1,p1,_⟩:=I.tuple ha;obtain⟨Mn,r2,p2,_⟩:=I.tuple hb;refine HT.HY p1 p2 (λ z=>hx (r1.pM.mp z)) (λ z=>⟨.ref a,H,I,rfl,q1 (r2.pM.mp z)⟩) (λ z=>?_) (by rw[<- r1.length,<- r2.length];exact hz);refine⟨.ref s.heap.objs.size,_,I.laid (t':=s.toks) (o:=.tup (xs++ys)) (λ b ob q=>j5 _ q) (G5 _) ?_,rfl,q2 (λ w=>z (r2.pM.mpr w)) _ (I.cp.fresh (G5 _))⟩;exact⟨by rw[p6];exact hz,_,r1.append r2,IsTup.new _ _⟩
end
def za(n:Nat)(i:Int):Option Nat:=if 0<=i then(if i < n then some i.toNat else none)else if -(n:Int)<=i then some (i+n).toNat else none
def eW{α:Type}(xs:List α)(i:Int):Option α:=(za xs.length i).bind λ j=>xs[j]?
theorem wZ{n:Nat}{i:Int}{j:Nat}(h:za n i=some j):seqIndex? i n=some j/\j < n/\-(n:Int)<=i/\i < n:=by
 unfold za at h;by_cases h0:0<=i
 ·rw[J8 h0]at h;by_cases h1:i < n
  ·rw[J8 h1]at h;have e:i.toNat=j:=B0 h;exact⟨by rw[seqIndex_of h0 h1,e],by omega,by omega,h1⟩
  ·rw[J9 h1]at h;cases h
 ·rw[J9 h0]at h;by_cases h1: -(n:Int)<=i
  ·rw[J8 h1]at h;have e:(i+n).toNat=j:=B0 h;exact⟨by rw[seqIndex_neg (by omega) h1,e],by omega,h1,by omega⟩
  ·rw[J9 h1]at h;cases h
theorem qu{α:Type}{xs:List α}{i:Int}{v:α}(h:eW xs i=some v):∃j,seqIndex? i xs.length=some j/\xs[j]?=some v/\j < xs.length/\-(xs.length:Int)<=i/\i < xs.length:=by
 unfold eW at h;cases e:za xs.length i with
 |none=>rw[e]at h;cases h
 |some j=>rw[e]at h;obtain⟨h1,h2,h3,h4⟩:=wZ e;exact⟨j,h1,h,h2,h3,h4⟩
theorem aR{α:Type}{xs:List α}{j:Nat}{v:α}(h:xs[j]?=some v):eW xs (j:Int)=some v:=by
 have hj:j < xs.length:=(g9.mp h).1;have e:za xs.length (j:Int)=some j:=by unfold za;rw[J8 (by omega),J8 (by omega)];simp
 unfold eW;rw[e];exact h
def qx(b:Expr):Prop:=∀o i,subscripted b false o i=operate [o,i] (getItem o i)
def xS(X:Cx)(r:R2):Prop:=
 ∀(value slice:Expr) (pins:List (Addr×Obj)) (s:Shared) (σ:St) (H:Hp) (x y:V) (v u:Value) (Q:VK),Inv X pins σ H s->RelV x v->RelV y u->r x y H Q->
  subscripted slice false v u=operate [v,u] (getItem v u)->wpAny (model X.prog X.w) X.A (subscriptTail value slice v u) (EP X pins σ Q) X.xe s
def Ui(X:Cx)(id:String)(r:V->List V->Hp->VK->Prop):Prop:=
 ∀(pins:List (Addr×Obj)) (s:Shared) (σ:St) (H:Hp) (x:V) (xs:List V) (v:Value) (us:List Value) (Q:VK),Inv X pins σ H s->RelV x v->Vals xs us->r x xs H Q->
  wpAny (model X.prog X.w) X.A (call (.builtin id) (v::us)) (EP X pins σ Q) X.xe s
section
variable {X:Cx}{a b:Expr}{ta tb:TE}{pos:Pos}
theorem xS.or {r r':R2}(h:xS X r)(h':xS X r'):xS X (λ x y H Q=>r x y H Q\/r' x y H Q):=by
 intro value slice pins s σ H x y v u Q I rx ry q hs;rcases q with q|q
 ·exact h value slice pins s σ H x y v u Q I rx ry q hs
 ·exact h' value slice pins s σ H x y v u Q I rx ry q hs
theorem Oz{r:R2}(hr:xS X r)(ha:PE X a ta)(hb:PE X b tb)(hs:qx b):PE X (.Subscript a b pos) (NO r ta tb):=by intro pins s σ H Q I h;exact Subscript_ (MR ha hb I h λ v u s2 x y H2 I2 rx ry q=>hr a b pins s2 σ H2 x y v u Q I2 rx ry q (hs _ _))
def Of(K:K2):R2:=λ x y H Q=>∃p xs i v,x=.ref p/\y=.int i/\dn K H p xs/\eW xs i=some v/\Q v H
def Od(K:K2):R2:=λ x y H Q=>∃p xs i v,x=.ref p/\y=.int i/\fE K H p xs/\eW xs i=some v/\Q v H
def Oe:R2:=λ x y H Q=>∃z i c,x=.str z/\y=.int i/\z.length<=sizeLine/\eW z.cps.toList i=some c/\Q (.str ⟨#[c]⟩) H
theorem Hr:xS X (Of X.K):=by
 intro value slice pins s σ H x y v u Q I rx ry h hs;obtain⟨p,xs,i,z,rfl,rfl,hq,he,q⟩:=h;cases rx;obtain⟨t,rfl⟩:=ry;obtain⟨av,r,pl,hz⟩:=I.list hq;obtain⟨j,h1,h2,h3,h4,h5⟩:=qu he;obtain⟨w,ew,nk⟩:=r.get h2;have hl:=r.length;have hn:=jA;have fin:EP X pins σ Q w s:=⟨z,H,I,nk,q⟩;by_cases h0:0<=i
 ·have hj:i.toNat=j:=by rw[seqIndex_of h0 h5]at h1;exact B0 h1
  exact item_listR pl.isList h0 (by omega) (by rw[hj];simpa using ew) fin hs
 ·have hj:(i+(av.toArray.size:Int)).toNat=j:=by rw[seqIndex_neg (by omega) h4]at h1;rw[x8,<- hl];exact B0 h1
  exact subscriptTail_builtinR (x:=w) pl.isList.typeIs slot_list_getitem.lookup
   (wpAny_getItem_list_neg (Q:=λ r s'=>r=w/\EP X pins σ Q r s') pl.isList (by omega) (by rw[x8] <;> omega) (by omega) (by rw[hj];simpa using ew) ⟨rfl,fin⟩) hs
theorem Mk:xS X (Od X.K):=by
 intro value slice pins s σ H x y v u Q I rx ry h hs;obtain⟨p,xs,i,z,rfl,rfl,hq,he,q⟩:=h;cases rx;obtain⟨t,rfl⟩:=ry;obtain⟨av,r,pl,hz⟩:=I.tuple hq;obtain⟨j,h1,h2,h3,h4,h5⟩:=qu he;obtain⟨w,ew,nk⟩:=r.get h2;have hl:=r.length;have hn:=jA;have fin:EP X pins σ Q w s:=⟨z,H,I,nk,q⟩;exact subscriptTail_builtinR (x:=w) pl.typeIs slot_tuple_getitem.lookup
  (getItem_tuple (j:=j) (Q:=λ r s'=>r=w/\EP X pins σ Q r s') pl (by omega) (by omega) (by rw[x8,<- hl];exact h1) (by simpa using ew) ⟨rfl,fin⟩) hs
theorem Ml:xS X Oe:=by
 intro value slice pins s σ H x y v u Q I rx ry h hs;obtain⟨z,i,c,rfl,rfl,hz,he,q⟩:=h;obtain⟨t,rfl⟩:=rx;obtain⟨t',rfl⟩:=ry;obtain⟨j,h1,h2,h3,h4,h5⟩:=qu he;have hl:z.cps.toList.length=z.length:=by simp[Str.length]
 rw[hl]at h1 h4 h5;have hn:=jA;exact tail_any (typeIs_str s z t) slot_str_getitem.lookup (getItem_str (c:=c) (by
  have e1:decide (i < -(2^63:Int))=false:=A7 (by omega);have e2:decide (i ≥ 2^63)=false:=A7 (by omega);rw[e1,e2,Bool.or_false]) (by rw[h1];simpa using h2) ⟨.str ⟨#[c]⟩,H,I.tok _,⟨_,rfl⟩,q⟩) hs
def VR(K:K2):R2:=λ x y H Q=>Of K x y H Q\/Od K x y H Q\/Oe x y H Q
theorem Mm:xS X (VR X.K):=Hr.or (Mk.or Ml)
theorem uR(av:List Value)(n j:Nat)(u:Value):Obj.mapSeq (·.setIfInBounds j u) {cls:=.type "list",data:=.seq av.toArray n}={cls:=.type "list",data:=.seq (av.set j u).toArray n}:=by simp[Obj.mapSeq]
theorem Inv.lst {pins:List (Addr×Obj)}{σ:St}{H:Hp}{s:Shared}{p:Addr}{xs:List V}(I:Inv X pins σ H s)(h:H p=some (.lst xs)):∃(av:List Value) (n:Nat),Vals xs av/\s.heap.get? p=some {cls:=.type "list",data:=.seq av.toArray n}/\xs.length<=sizeLine:=by obtain⟨z,av,n,r,e⟩:=I.cp p _ h;exact⟨av,n,r,e,z⟩
theorem Inv.L7 {pins:List (Addr×Obj)}{σ:St}{H:Hp}{s:Shared}{p:Addr}{xs ys:List V}{av its':List Value}{n n':Nat}{f:Obj->Obj}(I:Inv X pins σ H s)(h:H p=some (.lst xs)) (ho:s.heap.get? p=some {cls:=.type "list",data:=.seq av.toArray n}) (hf:f {cls:=.type "list",data:=.seq av.toArray n}={cls:=.type "list",data:=.seq its'.toArray n'}) (r:Vals ys its') (hz:ys.length<=sizeLine) (t:Nat):Inv X pins σ (upd H p (.lst ys)) {s with heap:=s.heap.update p f,toks:=t}:=by
 have e:(s.heap.update p f).get? p=some {cls:=.type "list",data:=.seq its'.toArray n'}:=by rw[j8 f ho (by rw[hf] <;> rfl),hf]
 refine I.write (x:=p) (e:=p) (by rw[h];trivial) (.inl rfl) (λ b u hb q=>(j6 _ _ (J6 hb)).trans q) ⟨_,e⟩ ?_;exact⟨hz,its',n',r,e⟩
def Ob:V->V->V->Hp->(Hp->Prop)->Prop:=λ o i v H Q=>∃p xs k j,o=.ref p/\i=.int k/\H p=some (.lst xs)/\za xs.length k=some j/\Q (upd H p (.lst (xs.set j v)))
theorem set_list:M_ X Ob:=by
 intro pins s σ H o i v ov iv u Q I ro ri rv h;obtain⟨p,xs,k,j,rfl,rfl,hp,hj,q⟩:=h;cases ro;obtain⟨t,rfl⟩:=ri;obtain⟨av,n,r,ho,hz⟩:=I.lst hp;obtain⟨h1,h2,h3,h4⟩:=wZ hj;have hl:=r.length;have hn:=jA;have I':Inv X pins σ (upd H p (.lst (xs.set j v))) {s with heap:=s.heap.update p (Obj.mapSeq (·.setIfInBounds j u))}:=
  I.L7 hp ho (uR av n j u) (r.set rv j) (by rw[length_set];exact hz) s.toks
 by_cases h0:0<=k
 ·have hk:k.toNat=j:=by rw[seqIndex_of h0 h4]at h1;exact B0 h1
  exact PySem.W.ki_setAt ho h0 (by omega) (by rw[x8,<- hl];exact h4) (by rw[hk];exact⟨_,I',q⟩)
 ·have hk:(k+(av.toArray.size:Int)).toNat=j:=by rw[seqIndex_neg (by omega) h3]at h1;rw[x8,<- hl];exact B0 h1
  exact PySem.W.ki_setBack ho (by omega) (by rw[x8,<- hl];exact h3) (by omega) (by rw[hk];exact⟨_,I',q⟩)
theorem iI(lo hi:Option Int)(n:Nat):(sliceBounds lo hi none n).1=((HT.cf n 0 lo:Nat):Int)/\(sliceBounds lo hi none n).2.1=((HT.cf n n hi:Nat):Int)/\(sliceBounds lo hi none n).2.2=1:=by
 refine⟨?_,?_,rfl⟩
 ·cases lo with
  |none=>simp[sliceBounds,HT.cf]
  |some i=>
   simp only[sliceBounds,HT.cf,Option.getD_none,show(1:Int) > 0 by decide,J7];by_cases h:i < 0
   ·simp only[h,J7] <;> omega
   ·simp only[h,J4] <;> omega
 ·cases hi with
  |none=>simp[sliceBounds,HT.cf]
  |some i=>
   simp only[sliceBounds,HT.cf,Option.getD_none,show(1:Int) > 0 by decide,J7];by_cases h:i < 0
   ·simp only[h,J7] <;> omega
   ·simp only[h,J4] <;> omega
theorem ng(av:List Value)(lo hi:Option Int):slicePick av.toArray lo hi none=((av.drop (HT.cf av.length 0 lo)).take (HT.cf av.length av.length hi - HT.cf av.length 0 lo)).toArray:=by obtain⟨h1,h2,h3⟩:=iI lo hi av.toArray.size;unfold slicePick;rw[h1,h2,h3];simp only[sliceRange_one,pick_run,x8] <;> rfl
def Oa(K:K2):V->Option Int->Option Int->Hp->VK->Prop:=λ x lo hi H Q=>∃a xs,x=.ref a/\dn K H a xs/\∀p,H p=none->Q (.ref p) (upd H p (.lst (sQ xs lo hi)))
theorem EI:xQ X (Oa X.K):=by intro pins s σ H x v vl vu lo hi sl Q I rx hs pl pu h;obtain⟨a,xs,rfl,hx,q⟩:=h;cases rx;obtain⟨av,r,ht,hz⟩:=I.list hx;have hlen:=r.length;refine⟨"list",_,slot_list_getitem.lookup,ht.isList.typeIs,?_⟩;refine wpAny_getItem_list_slice ht.isList hs pl pu .none (by simp) ?_ (by rw[x8] <;> omega);rw[ng,<- hlen];refine⟨.ref s.heap.objs.size,_,I.laid (t':=s.toks) (o:=.lst (sQ xs lo hi)) (λ b ob q=>j5 _ q) (G5 _) ?_,rfl,q _ (I.cp.fresh (G5 _))⟩;exact⟨D9 (jQ xs lo hi) hz,_,0,(r.drop (HT.cf xs.length 0 lo)).take (HT.cf xs.length xs.length hi - HT.cf xs.length 0 lo),m9 _ rfl⟩
def fV:V->Bool
 | .bM=>true
 | .bl _=>true
 | .int _=>true
 | .str _=>true
 |_=>false
def Jn:V->V->Bool
 | .bM,.bM=>true
 | .bl a,.bl b=>a==b
 | .bl a,.int b=>(if a then 1 else 0)==b
 | .int a,.bl b=>a==(if b then 1 else 0)
 | .int a,.int b=>a==b
 | .str a,.str b=>a==b
 |_,_=>false
theorem ME{A:Around}{s:Shared}{y x:V}{u v:Value}(ry:RelV y u)(rx:RelV x v)(fy:fV y=true)(fx:fV x=true):SeqAt.EqAt A s u v (Jn y x):=by
 cases y with
 |bM=>
  cases ry;cases x with
  |bM=>cases rx;exact SeqAt.EqAt.same _
  |bl b=>cases rx;exact SeqAt.EqAt.none_bool b
  |int b=>obtain⟨t,rfl⟩:=rx;exact SeqAt.EqAt.none_int b t
  |str b=>obtain⟨t,rfl⟩:=rx;exact SeqAt.EqAt.none_str b t
  |_=>exact absurd (show false=true from fx) p5
 |bl a=>
  cases ry;cases x with
  |bM=>cases rx;exact SeqAt.EqAt.bool_none a
  |bl b=>cases rx;exact SeqAt.EqAt.bool_bool a b
  |int b=>obtain⟨t,rfl⟩:=rx;exact SeqAt.EqAt.bool_int a b t
  |str b=>obtain⟨t,rfl⟩:=rx;exact SeqAt.EqAt.bool_str a b t
  |_=>exact absurd (show false=true from fx) p5
 |int a=>
  obtain⟨t',rfl⟩:=ry;cases x with
  |bM=>cases rx;exact SeqAt.EqAt.int_none a t'
  |bl b=>cases rx;exact SeqAt.EqAt.int_bool a t' b
  |int b=>obtain⟨t,rfl⟩:=rx;exact SeqAt.EqAt.int_int a t' b t
  |str b=>obtain⟨t,rfl⟩:=rx;exact SeqAt.EqAt.int_str a t' b t
  |_=>exact absurd (show false=true from fx) p5
 |str a=>
  obtain⟨t',rfl⟩:=ry;cases x with
  |bM=>cases rx;exact SeqAt.EqAt.str_none a t'
  |bl b=>cases rx;exact SeqAt.EqAt.str_bool a t' b
  |int b=>obtain⟨t,rfl⟩:=rx;exact SeqAt.EqAt.str_int a t' b t
  |str b=>obtain⟨t,rfl⟩:=rx;exact SeqAt.EqAt.str_str a t' b t
  |_=>exact absurd (show false=true from fx) p5
 |_=>exact absurd (show false=true from fy) p5
def HN(x:V)(u:Value):Bool:=match u with
 | .none=>Jn .bM x
 | .bool b=>Jn (.bl b) x
 | .int i _=>Jn (.int i) x
 | .str z _=>Jn (.str z) x
 |_=>false
theorem Dj{x y:V}{u:Value}(r:RelV y u)(f:fV y=true):HN x u=Jn y x:=by
 cases y with
 |bM=>cases r;rfl
 |bl b=>cases r;rfl
 |int i=>obtain⟨t,rfl⟩:=r;rfl
 |str z=>obtain⟨t,rfl⟩:=r;rfl
 |_=>exact absurd (show false=true from f) p5
theorem qv{x:V}:∀{xs:List V} {us:List Value},Vals xs us->xs.all fV=true->us.any (HN x)=xs.any λ y=>Jn y x
 |_,_,.nil,_=>rfl
 |y::xs,u::us,.cons r t,f=>by rw[all_cons,z9]at f;rw[any_cons,any_cons,Dj r f.1,qv t f.2]
theorem md{A:Around}{s:Shared}{x:V}{v:Value}(rx:RelV x v)(fx:fV x=true):∀{xs:List V} {us:List Value},Vals xs us->xs.all fV=true->∀u∈us,SeqAt.EqAt A s u v (HN x u)
 |_,_,.nil,_=>λ u hu=>by cases hu
 |y::xs,u::us,.cons r t,f=>λ u' hu=>by
  rw[all_cons,z9]at f;rcases D1.mp hu with rfl|hu
  ·rw[Dj r f.1];exact ME r rx f.1 fx
  ·exact md rx fx t f.2 u' hu
def CA(x:V)(xs:List V):Bool:=xs.any λ y=>Jn y x
def VS(K:K2)(neg:Bool):R2:=λ x y H Q=>∃p xs,y=.ref p/\(dn K H p xs\/fE K H p xs)/\fV x=true/\xs.all fV=true/\Q (.bl (if neg then !CA x xs else CA x xs)) H
theorem yN:fF X (compareOp .In) (VS X.K false):=by
 intro pins s σ H x y v u Q I rx ry h;obtain⟨p,xs,rfl,hq,fx,fs,q⟩:=h;cases ry;rcases hq with hq|hq
 ·obtain⟨av,r,pl,hz⟩:=I.list hq;refine SeqAt.in_listAt (HN x) pl.isList (λ w hw=>md rx fx r fs w (by simpa using hw)) ⟨.bl _,H,I,rfl,?_⟩;rw[show av.toArray.any (HN x)=av.any (HN x) by simp,qv r fs];exact q
 ·obtain⟨av,r,pl,hz⟩:=I.tuple hq;refine SeqAt.in_tupleAt (HN x) pl (λ w hw=>md rx fx r fs w (by simpa using hw)) ⟨.bl _,H,I,rfl,?_⟩;rw[show av.toArray.any (HN x)=av.any (HN x) by simp,qv r fs];exact q
theorem pG:fF X (compareOp .NotIn) (λ x y H Q=>∃i j,x=.str i/\y=.str j/\Q (.bl (!(!(Builtin.Str.occurrences j i 0 j.length 1).isEmpty))) H):=by intro pins s σ H x y v u Q I rx ry h;obtain⟨i,j,rfl,rfl,q⟩:=h;obtain⟨t,rfl⟩:=rx;obtain⟨t',rfl⟩:=ry;exact notIn_str ⟨.bl _,H,I,rfl,q⟩
theorem qo:cW X (.builtin "len") (λ xs H Q=>∃p ys,xs=[.ref p]/\(dn X.K H p ys\/fE X.K H p ys)/\Q (.int ys.length) H):=by
 intro pins s σ H xs us Q I r h;obtain⟨p,ys,rfl,hq,q⟩:=h;obtain⟨u,rfl,rx⟩:=vals1 r;cases rx;have hn:=jA;rcases hq with hq|hq
 ·obtain⟨av,r',pl,hz⟩:=I.list hq;have hlen:=r'.length;exact Calls.call_len_list pl.isList (by simp only[x8] <;> omega) ⟨.int ys.length,H,I.tok _,⟨s.toks+1,by rw[x8,hlen]⟩,q⟩
 ·obtain⟨av,r',pl,hz⟩:=I.tuple hq;have hlen:=r'.length;exact len_tuple pl (by simp only[x8] <;> omega) ⟨.int ys.length,H,I.tok _,⟨s.toks+1,by rw[x8,hlen]⟩,q⟩
theorem qm:cW X (.builtin "len") (λ xs H Q=>∃z,xs=[.str z]/\z.length<=sizeLine/\Q (.int z.length) H):=by intro pins s σ H xs us Q I r h;obtain⟨z,rfl,hz,q⟩:=h;obtain⟨u,rfl,t,rfl⟩:=vals1 r;have hn:=jA;exact len_str (by omega) ⟨.int z.length,H,I.tok _,⟨_,rfl⟩,q⟩
theorem cW.or {f:Value}{r r':List V->Hp->VK->Prop}(h:cW X f r)(h':cW X f r'):cW X f (λ xs H Q=>r xs H Q\/r' xs H Q):=by
 intro pins s σ H xs us Q I rs q;rcases q with q|q
 ·exact h pins s σ H xs us Q I rs q
 ·exact h' pins s σ H xs us Q I rs q
theorem ql:cW X (.type "list") (λ xs H Q=>∃p ys,xs=[.ref p]/\(dn X.K H p ys\/fE X.K H p ys)/\∀l,H l=none->Q (.ref l) (upd H l (.lst ys))):=by
 intro pins s σ H xs us Q I r h;obtain⟨p,ys,rfl,hq,q⟩:=h;obtain⟨u,rfl,rx⟩:=vals1 r;cases rx;have fin:∀(av:List Value),Vals ys av->ys.length<=sizeLine->∀(h':Heap) (c':Nat),(∀b o',s.heap.get? b=some o'->h'.get? b=some o')->
   h'.get? s.heap.objs.size=some {cls:=.type "list",dict:=none,data:=.seq av.toArray c',slots:=#[]}->EP X pins σ Q (.ref s.heap.objs.size) {s with heap:=h'}:=λ av r' hz h' c' kp e=>
  ⟨.ref s.heap.objs.size,_,I.laid (t':=s.toks) kp (G5 _) (show cg X.prog X.w _ h' _ (.lst ys)from⟨hz,av,c',r',e⟩),rfl,q _ (I.cp.fresh (G5 _))⟩
 rcases hq with hq|hq
 ·obtain⟨av,r',pl,hz⟩:=I.list hq;have hlen:=r'.length;obtain⟨o,ho,hc,n,hd⟩:=pl.isList;exact call_list_seq p (.inl rfl) ho hc hd (λ h' c' kp e=>fin av r' hz h' c' kp e) (by simp only[x8] <;> omega)
 ·obtain⟨av,r',pl,hz⟩:=I.tuple hq;have hlen:=r'.length;obtain⟨o,ho,hc,n,hd⟩:=pl;exact call_list_seq p (.inr rfl) ho hc hd (λ h' c' kp e=>fin av r' hz h' c' kp e) (by simp only[x8] <;> omega)
theorem nL:cW X (.type "tuple") (λ xs H Q=>∃p ys,xs=[.ref p]/\((dn X.K H p ys/\∀l,H l=none->Q (.ref l) (upd H l (.tup ys)))\/(fE X.K H p ys/\Q (.ref p) H))):=by
 intro pins s σ H xs us Q I r h;obtain⟨p,ys,rfl,h⟩:=h;obtain⟨u,rfl,rx⟩:=vals1 r;cases rx;rcases h with⟨hq,q⟩|⟨hq,q⟩
 ·obtain⟨av,r',pl,hz⟩:=I.list hq;have hlen:=r'.length;refine call_tuple_list pl.isList (λ h' kp=>?_) (by simp only[x8] <;> omega);have I1:Inv X pins σ H {s with heap:=h'}:=I.kept (t':=s.toks) kp;have I2:Inv X pins σ (upd H h'.objs.size (.tup ys)) {s with heap:=h'.push {cls:=.type "tuple",data:=.seq av.toArray}}:=
   I1.laid (t':=s.toks) (λ b o e=>j5 _ e) (G5 _) (show cg X.prog X.w _ _ _ (.tup ys)from⟨hz,av,r',IsTup.new _ _⟩)
  exact⟨.ref h'.objs.size,_,I2,rfl,q _ (I1.cp.fresh (G5 _))⟩
 ·obtain⟨av,r',pl,hz⟩:=I.tuple hq;exact call_tuple_same pl ⟨.ref p,H,I,rfl,q⟩
def RO(K:K2)(T:String)(x:V)(H:Hp):Prop:=match x with
 | .str _=>T="str"
 | .int _=>T="int"
 | .ref p=>(T="list"/\∃xs,dn K H p xs)\/(T="tuple"/\∃o,K.lookup p=some o/\o.cls=.type "tuple"/\o.dict=none)\/
   (T="dict"/\((∃kvs,H p=some (.dK kvs))\/∃kvs,H p=some (.dT kvs)))\/(T="set"/\∃S n,H p=some (.set S n))
 |_=>False
theorem JI{pins:List (Addr×Obj)}{σ:St}{H:Hp}{s:Shared}{T:String}{x:V}{v:Value}(I:Inv X pins σ H s)(r:RelV x v)(ty:RO X.K T x H):s.TypeIs v T/\∀a,v=.ref a->∃ob,s.heap.get? a=some ob/\ob.dict=none:=by
 cases x with
 |str z=>obtain⟨t,rfl⟩:=r;cases(show T="str" from ty);exact⟨typeIs_str s z t,λ _ e=>nomatch e⟩
 |int i=>obtain⟨t,rfl⟩:=r;cases(show T="int" from ty);exact⟨typeIs_int s i t,λ _ e=>nomatch e⟩
 |ref p=>
  cases r;rcases ty with⟨rfl,xs,hq⟩|⟨rfl,o,hk,hc,hd⟩|⟨rfl,hk⟩|⟨rfl,S,n,hk⟩
  ·obtain⟨av,_,pl,_⟩:=I.list hq;refine⟨pl.isList.typeIs,λ a e=>?_⟩;cases e;obtain⟨o,n,e,c,hd,_⟩:=pl;exact⟨o,e,hd⟩
  ·refine⟨⟨o,I.oB p o hk,hc⟩,λ a e=>?_⟩;cases e;exact⟨o,I.oB _ o hk,hd⟩
  ·have z:∃o,s.heap.get? p=some o/\o.ExactDict:=by
    rcases hk with⟨kvs,hk⟩|⟨kvs,hk⟩
    ·obtain⟨_,_,_,_,o,_,_,e,ex,_⟩:=I.cp p _ hk;exact⟨o,e,ex⟩
    ·obtain⟨_,_,_,_,o,_,_,e,ex,_⟩:=I.cp p _ hk;exact⟨o,e,ex⟩
   obtain⟨o,e,ex⟩:=z;refine⟨⟨o,e,ex.1⟩,λ a e2=>?_⟩;cases e2;exact⟨o,e,ex.2.1⟩
  ·obtain⟨o,_,_,_,e,ex,_⟩:=I.cp p _ hk;refine⟨⟨o,e,ex.1⟩,λ a e2=>?_⟩;cases e2;exact⟨o,e,ex.2.1⟩
 |_=>exact False.elim ty
def VI(K:K2)(T:String)(r:V->List V->Hp->VK->Prop)(to:TE)(t:TA):TE:=λ σ H Q=>to σ H λ x H1=>RO K T x H1/\t σ H1 λ xs H2=>r x xs H2 Q
variable {o e:Expr}{es:List Expr}{to:TE}{t:TA}{name:Str}{apos bS:Pos}{T id:String}{r:V->List V->Hp->VK->Prop}
theorem IS(pa:PlainAttrs T)(slot:Slot T name id)(hty:typeOf (.builtin id)=pure (.type "method_descriptor"))(hm:Ui X id r)(ho:PE X o to)(ha:PA X (e::es) t) (hbase:attributeBase o name X.env (eval o X.env)=eval o X.env:=by rfl) (hfew:((backTo bS (starEach (e::es) X.env)).all (λ x=>!x.1)&&(backToKw bS (keywordEach [] X.env)).all (λ x=>x.1.isSome)
   &&decide ((e::es).length+([]:List Keyword).length+(if([]:List Keyword).isEmpty then 0 else 1) < 30))=true:=by rfl)
  (hline:(apos.endLine==bS.line)=true:=by rfl) (hs:starEach (e::es) X.env=(false,eval e X.env)::starEach es X.env:=by rfl) (hplain:(backTo bS (starEach es X.env)).any (·.1)=false:=by rfl):
  PE X (.Call (.Attribute o name apos) (e::es) [] bS) (VI X.K T r to t):=by
 intro pins s σ H Q I h;refine wpAny_Call_method_late hbase hfew hline rfl (dF (ho pins s σ H _ I h) λ v s1 ⟨x,H1,I1,r1,ty,q1⟩=>?_);obtain⟨h1,h2⟩:=JI I1 r1 ty;refine⟨T,id,pa,slot,hty,h1,h2,?_⟩;have hA:=ha bS pins s1 σ H1 _ I1 q1;rw[hs]at hA ⊢;refine Calls.callWith_builtin (by show(false||(backTo bS (starEach es X.env)).any (·.1))=false;rw[hplain] <;> rfl) (Calls.evalArgs_plain ?_);exact dF hA λ us s2 ⟨vs,H2,I2,r2,q2⟩=>hm pins s2 σ H2 x vs v us Q I2 r1 r2 q2
end
def Jw(X:Cx)(id:String)(r:V->List V->Hp->VK->Prop):Prop:=
 ∀(pins:List (Addr×Obj)) (s:Shared) (σ:St) (H:Hp) (x:V) (xs:List V) (v:Value) (us:List Value) (Q:VK),Inv X pins σ H s->RelV x v->Vals xs us->r x xs H Q->
  wpAny (model X.prog X.w) X.A (call (.builtin id) (v::us)) (EP X pins σ Q) X.xe s
theorem Vals.one:∀{x:V} {us:List Value},Vals [x] us->∃u,us=[u]/\RelV x u
 |_,_,.cons r .nil=>⟨_,rfl,r⟩
theorem Vals.zero:∀{us:List Value},Vals [] us->us=[]
 |_,.nil=>rfl
theorem Vals.dropLast {xs:List V}{us:List Value}(h:Vals xs us):Vals xs.dropLast us.dropLast:=by
 induction h with
 |nil=>exact .nil
 |cons r t ih=>
  cases t with
  |nil=>exact .nil
  |cons q t'=>exact .cons r ih
theorem Vals.eraseIdx:∀{xs:List V} {us:List Value} (i:Nat),Vals xs us->Vals (xs.eraseIdx i) (us.eraseIdx i)
 |_,_,_,.nil=>.nil
 |_,_,0,.cons _ t=>t
 |_,_,i+1,.cons r t=>.cons r (Vals.eraseIdx i t)
theorem Vals.rep {xs:List V}{us:List Value}(h:Vals xs us):∀k:Nat,Vals (List.replicate k xs).flatten (List.replicate k us).flatten
 |0=>.nil
 |k+1=>by rw[m7,m7,x3,x3];exact Vals.append h (Vals.rep h k)
theorem vi{α:Type}(l:List α):l.eraseIdx (l.length - 1)=l.dropLast:=by
 induction l with
 |nil=>rfl
 |cons a r ih=>
  cases r with
  |nil=>rfl
  |cons b r=>
   have e:(a::b::r).length - 1=((b::r).length - 1)+1:=by have h1:(a::b::r).length=r.length+2:=rfl;have h2:(b::r).length=r.length+1:=rfl;omega
   rw[e,eraseIdx_cons_succ,ih]
   all_goals rfl
theorem ox{α:Type}:∀(l:List α) (i:Nat),(l.eraseIdx i).length<=l.length
 |[],_=>G5 _
 |_::_,0=>Nat.le_succ _
 |_::r,i+1=>Nat.succ_le_succ (ox r i)
theorem foldl_rep(av:List Value):∀(k:Nat) (acc:List Value),
  List.foldl (λ x1 x2=>x1++x2) acc.toArray (List.replicate k av.toArray)=(acc++(List.replicate k av).flatten).toArray
 |0,acc=>by simp
 |k+1,acc=>by
  have e:acc.toArray++av.toArray=(acc++av).toArray:=by simp
  have e2:(acc++av)++(List.replicate k av).flatten=acc++(List.replicate (k+1) av).flatten:=by rw[m7,x3,append_assoc]
  rw[<- e2,<- foldl_rep av k (acc++av),<- e,m7,foldl_cons]
section
variable {X:Cx}{pins:List (Addr×Obj)}{σ:St}{H:Hp}{s:Shared}{l b:Addr}{xs ys zs:List V}
theorem Inv.L8 {av its':List Value}{n:Nat}{f:Array Value->Array Value}{t':Nat}(I:Inv X pins σ H s)(hH:H l=some (.lst xs)) (e:s.heap.get? l=some {cls:=.type "list",data:=.seq av.toArray n}) (hf:f av.toArray=its'.toArray) (hv:Vals ys its') (hz:ys.length<=sizeLine):Inv X pins σ (upd H l (.lst ys)) {s with heap:=s.heap.update l (Obj.mapSeq f),toks:=t'}:=by have q:=PySem.IsL.update e f;rw[hf]at q;refine I.write (x:=l) (e:=l) (by rw[hH];exact trivial) (.inl rfl) (λ b' u hb hu=>(j6 s.heap (Obj.mapSeq f) (J6 hb)).trans hu) ⟨_,q⟩ ?_;exact⟨hz,its',_,hv,q⟩
theorem Inv.OR {av:List Value}{t':Nat}(I:Inv X pins σ H s)(hv:Vals ys av)(hz:ys.length<=sizeLine):Inv X pins σ (upd H s.heap.objs.size (.lst ys)) {s with heap:=s.heap.push {cls:=.type "list",data:=.seq av.toArray},toks:=t'}:=
 I.laid (λ _ _ q=>j5 _ q) (G5 _) ⟨hz,av,0,hv,m9 _ rfl⟩
theorem Inv.fresh (I:Inv X pins σ H s):H s.heap.objs.size=none:=I.cp.fresh (G5 _)
theorem Inv.yW (I:Inv X pins σ H s)(hH:H l=some (.lst xs)):xs.length<=sizeLine/\∃(av:List Value) (n:Nat),Vals xs av/\xs.length=av.length/\s.heap.get? l=some {cls:=.type "list",data:=.seq av.toArray n}:=by obtain⟨z,av,n,r,e⟩:=I.cp l _ hH;exact⟨z,av,n,r,r.length,e⟩
theorem BS{n:Nat}(h:n<=sizeLine):Builtin.List.listTooLong n=false:=by unfold Builtin.List.listTooLong;exact A7 (by omega)
end
section
variable {X:Cx}
def wy:V->List V->Hp->VK->Prop:=λ x vs H Q=>∃l xs y,x=.ref l/\vs=[y]/\H l=some (.lst xs)/\xs.length < sizeLine/\Q .bM (upd H l (.lst (xs++[y])))
theorem yS:Jw X "list.append" wy:=by intro pins s σ H x vs v us Q I rx rv h;obtain⟨l,xs,y,rfl,rfl,hH,hz,q⟩:=h;cases rx;obtain⟨u,rfl,ru⟩:=rv.one;obtain⟨z,av,n,r,hl,e⟩:=I.yW hH;refine J1 F.slot_list_append ⟨_,e,rfl⟩ F.entry_list_append (F.args_list_append_2 _ _) (PySem.list_append l av.toArray n u (by rw[x8];omega)) ⟨e,?_⟩;refine⟨.bM,_,I.L8 (its':=av++[u]) hH e (by simp) (r.append (.cons ru .nil)) ?_,rfl,q⟩;rw[p6,k4];omega
def Sg:V->List V->Hp->VK->Prop:=λ x vs H Q=>∃l xs y,x=.ref l/\vs=[]/\H l=some (.lst xs)/\xs[xs.length - 1]?=some y/\Q y (upd H l (.lst xs.dropLast))
theorem L1:Jw X "list.pop" Sg:=by
 intro pins s σ H x vs v us Q I rx rv h;obtain⟨l,xs,y,rfl,rfl,hH,hy,q⟩:=h;cases rx;have S5:=rv.zero;subst S5;obtain⟨z,av,n,r,hl,e⟩:=I.yW hH;obtain⟨u,hu,ru⟩:=r.get hy;have Mo:av.toArray[av.toArray.size - 1]?=some u:=by show av.toArray[av.length - 1]?=some u;rw[<- k5,<- hl];exact hu
 refine J1 F.slot_list_pop ⟨_,e,rfl⟩ F.entry_list_pop (F.args_list_pop_1 _) (MeetsSeq.list_pop_last l av.toArray n u Mo (by rw[x8];omega)) ⟨e,?_⟩;refine⟨y,_,I.L8 (its':=av.dropLast) hH e ?_ r.dropLast ?_,ru,q⟩
 ·show av.toArray.eraseIdxIfInBounds (av.toArray.size - 1)=av.dropLast.toArray;rw[x8,eraseIdxIfInBounds_toArray,vi]
 ·rw[length_dropLast];omega
def KH:V->List V->Hp->VK->Prop:=λ x vs H Q=>∃l xs i k y,x=.ref l/\vs=[.int i]/\H l=some (.lst xs)/\-(2^63)<=i/\i < 2^63/\seqIndex? i xs.length=some k/\xs[k]?=some y/\Q y (upd H l (.lst (xs.eraseIdx k)))
theorem BV:Jw X "list.pop" KH:=by
 intro pins s σ H x vs v us Q I rx rv h;obtain⟨l,xs,i,k,y,rfl,rfl,hH,h1,h2,hk,hy,q⟩:=h;cases rx;obtain⟨u,rfl,ru⟩:=rv.one;obtain⟨t,rfl⟩:=ru;obtain⟨z,av,n,r,hl,e⟩:=I.yW hH;obtain⟨w,hw,nk⟩:=r.get hy;refine J1 F.slot_list_pop ⟨_,e,rfl⟩ F.entry_list_pop (F.args_list_pop_2 _ _)
  (MeetsSeq.list_pop_at l av.toArray n i t k w (fitsIndex_both h1 h2) (by rw[x8,<- hl];exact hk) (by rw[<- k5];exact hw) (by rw[x8];omega)) ⟨e,?_⟩
 refine⟨y,_,I.L8 (its':=av.eraseIdx k) hH e ?_ (r.eraseIdx k) ?_,nk,q⟩
 ·show av.toArray.eraseIdxIfInBounds k=(av.eraseIdx k).toArray;rw[eraseIdxIfInBounds_toArray]
 ·have:=ox xs k;omega
def Sh:R2:=λ x y H Q=>∃l b xs zs,x=.ref l/\y=.ref b/\H l=some (.lst xs)/\H b=some (.lst zs)/\xs.length+zs.length<=sizeLine/\∀p,H p=none->Q (.ref p) (upd H p (.lst (xs++zs)))
theorem LI:fF X (binaryOp .Add) Sh:=by
 intro pins s σ H x y v u Q I rx ry h;obtain⟨l,b,xs,zs,rfl,rfl,hH,hB,hz,q⟩:=h;cases rx;cases ry;obtain⟨z,av,n,r,hl,e⟩:=I.yW hH;obtain⟨z2,Mn,n2,r2,Pj,e2⟩:=I.yW hB;refine PySem.P.add_list e e2 ?_ (by rw[x8,x8];omega);have ea:av.toArray++Mn.toArray=(av++Mn).toArray:=by simp
 rw[ea];exact⟨.ref _,_,I.OR (t':=s.toks) (r.append r2) (by rw[p6];omega),rfl,q _ I.fresh⟩
def Sf:R2:=λ x y H Q=>∃l k xs,x=.ref l/\y=.int k/\H l=some (.lst xs)/\-(2^63)<=k/\k < 2^63/\xs.length*k.toNat<=sizeLine/\
 ∀p,H p=none->Q (.ref p) (upd H p (.lst (List.replicate k.toNat xs).flatten))
theorem len_rep{α:Type}(xs:List α)(k:Nat):(List.replicate k xs).flatten.length=k*xs.length:=by
 induction k with
 |zero=>simp
 |succ k ih=>rw[m7,x3,p6,ih,Nat.succ_mul,Nat.add_comm]
theorem Ly:fF X (binaryOp .Mult) Sf:=by
 intro pins s σ H x y v u Q I rx ry h;obtain⟨l,k,xs,rfl,rfl,hH,h1,h2,hz,q⟩:=h;cases rx;obtain⟨t,rfl⟩:=ry;obtain⟨z,av,n,r,hl,e⟩:=I.yW hH;have hlen:av.toArray.size*k.toNat<=sizeLine:=by rw[x8,<- hl];exact hz
 have TH:¬av.toArray.size*k.toNat > (2^63 - 1) / 8:=by
  have:(sizeLine:Nat)<=(2^63 - 1) / 8:=by decide
  omega
 have Tx:¬(!Builtin.List.listFitsIndex k)=true:=by rw[fitsIndex_both h1 h2];exact p5
 have Ph:¬Builtin.List.listTooLong (av.toArray.size*k.toNat)=true:=by rw[BS hlen];exact p5
 have CP:List.foldl (λ x1 x2=>x1++x2) #[] (List.replicate (if av.toArray.isEmpty=true then 0 else k.toNat) av.toArray)=(List.replicate k.toNat av).flatten.toArray:=by
  have f0:∀m:Nat,List.foldl (λ x1 x2=>x1++x2) #[] (List.replicate m av.toArray)=(List.replicate m av).flatten.toArray:=λ m=>by have:=foldl_rep av m [];rw[nil_append]at this;exact this
  rw[f0];cases av with
  |nil=>simp
  |cons a r'=>rw[J9 (by simp)]
 refine wpAny_binaryOp_repeat_ref (T:="list") (U:="int") (by decide) ⟨_,e,rfl⟩ (λ s'=>typeIs_int s' k t) noFill_list_mul F.fills_int_mul F.slot_int_rmul repeat_list F.slot_int_index.lookup
  (J1 F.slot_int_rmul (typeIs_int s k t) F.entry_int_rmul (F.args_int_rmul_2 _ _) (int___rmul___int_list k t l av.toArray n)
   ⟨e,rfl,⟨_,e,rfl⟩,J1 F.slot_list_mul ⟨_,e,rfl⟩ F.entry_list_mul (F.args_list_mul_2 _ _) (AutoListH.list___mul___list_int_3 l av.toArray n k t Tx TH Ph) ⟨e,?_⟩⟩)
 rw[CP];exact⟨.ref _,_,I.OR (t':=s.toks) (r.rep k.toNat) (by rw[len_rep,Nat.mul_comm];exact hz),rfl,q _ I.fresh⟩
end
section
variable {prog:Program}{w:World}{A:Around}{E:Value->Shared->Prop}{s:Shared}
set_option maxRecDepth 100000 in
end
end L2
namespace Vz
open PySem PySem.W PySem.Calls PyProof.Rows
theorem jZ{P:Params}{h:Heap}:∀(ns:List Int) (vs:List Value),WellAll P h vs (ns.map WData.int)->IntsAre vs ns:=by
 intro ns
 induction ns with
 |nil=>intro vs w;rw[E5]at w;cases w;exact .nil
 |cons n ns ih=>
  intro vs w;rw[C9]at w;cases w with
  |cons a b=>cases a;exact .cons _ _ (ih _ b)
theorem yw{l:OpenLaw}{n:Nat}(hn:l.most=some n){P:Params}{h:Heap}{args:List WData}{vals:List Value} (HC:l.row.toRowW.claim.pre args=true) (SU:WellAll P h vals args):∃a vs ns,vals=[Value.ref a]/\args=[WData.list (ns.map WData.int)]/\h.get? a=some {cls:=.type "list",data:=.seq vs.toArray}/\IntsAre vs ns/\ns.length<=n:=by
 have Wk:WShape.hasAll [] args [.list .int]=true:=(pre_splitW HC).1;have hc:l.pre.holds [] {args:=args}=true:=(pre_splitW HC).2;obtain⟨d,r,rfl,h1,h2⟩:=hasAllW_cons Wk;obtain rfl:=hasAllW_nil h2;obtain⟨xs,rfl,h3⟩:=hasW_list h1;obtain⟨ns,rfl⟩:=items_int h3;have hlen:ns.length<=n:=by
  unfold OpenLaw.pre at hc;have h4:(WTm.not (.lt (.lit (.int (n:Int))) (.len (.arg 0)))).holds [] {args:=[.list (ns.map .int)]}=true:=by have h4:=(holds_andW hc).1;rw[hn]at h4;exact h4
  have h5:=condW_of h4 (w_not (w_lt w_lit (w_len_list (w_arg rfl))));rw[B5]at h5;refine y3 λ q=>?_;have q':(n:Int) < ((ns.length:Nat):Int):=by omega
  first
   |(rw[C0 q']at h5;exact absurd h5 (by decide))
   |(simp at h5;omega)
 cases SU with
 |cons w1 w2=>
  cases w2;cases w1 with
  |list ho CZ=>exact⟨_,_,ns,rfl,rfl,ho,jZ ns _ CZ,hlen⟩
theorem yJ(l:OpenLaw)(args:List WData):l.row.toRowW.claim.post args (.bool true) args=true:=
 postW_of (r:=l.row.toRowW) (X:=(true==true))
  (show WShape.has [] (.bool true) .bool=true by first|rfl|decide|simp[WShape.has,WShape.arms,WShape.armsAll])
  (show(WTm.eq .res (.lit (.bool true))).value [] {args:=args,res:=some (.bool true),after:=args}=some (.bool (true==true))from w_eq_bool (w_res rfl) w_lit) rfl
theorem tv{l:OpenLaw}{n:Nat}{q:Program}{loose:List Str}{XP:(Str->Option Value)->Heap->Prop}{YP:World->Heap->Prop}{d:DefRec} (hn:l.most=some n) (CY:d.params.defaults=[]) (call:∀(w:World) (s₀ s₁:Shared) (mg mb:Str->Option Value) (fa:Addr) (o:Obj) (pm cd doc:Value) (a:Addr) (vs:List Value) (ns:List Int),
   Ground q loose [] XP w s₀ mg mb s₁.heap->YP w s₁.heap->
   s₁.heap.get? fa=some o->o.data=.func (docDef d.name d.params d.body d.scope pm cd doc)->s₁.heap.CodeRec cd d.name->mg d.name=some (.ref fa)->
   s₁.heap.get? a=some {cls:=.type "list",data:=.seq vs.toArray}->IntsAre vs ns->ns.length<=n->s₁.gens=#[]->
   codeAny (model l.prog w) callerA (.call (.ref fa) ⟨[.ref a],[]⟩) (λ r s'=>r=.ok (.ret (.bool true))/\OldK s₁.heap s'.heap/\s'.os=s₁.os/\AllBare s'.gens) s₁):
  WalkO q loose XP YP l.row.toRowW d [] (λ f vs=>PySem.call f vs):=by
 intro w s₀ s₁ mg mb G Y fa o pm cd doc dV kV ho hd hcd hD Pe hg args vals as HC WM YE SU YK;obtain rfl:dV=.none:=Dflts.none hD CY;obtain rfl:kV=.none:=Dflts.noKw hD;obtain⟨a,vs,ns,rfl,rfl,CN,hints,hlen⟩:=yw hn HC SU;refine enter_call (E7 (call w s₀ s₁ mg mb fa o pm cd doc a vs ns G Y ho (fd_plain hd) hcd Pe CN hints hlen hg) λ r s' hq=>?_);obtain⟨rfl,h2,h3,h4⟩:=hq;exact⟨.inl ⟨.bool true,.bool true,[],rfl,λ _=>rfl,.bool true,yJ l _,λ _=>⟨List.Pairwise.nil,λ _ hm=>(nomatch hm)⟩⟩,h2,h3,h4⟩
end Vz
namespace L2
open PySem PySem.Spec PyProof.Rows
theorem nV:∀{vs:List Value} {ns:List Int},IntsAre vs ns->Vals (ns.map V.int) vs
 |_,_,.nil=>.nil
 |_,_,.cons n t h=>.cons ⟨t,rfl⟩ (nV h)
def Io(H:Hp):Prop:=∀b,H b=none\/∃o xs,H b=some (.gB o (.lst xs))
theorem Cf{P:Program}{w:World}{K:K2}{mg mb:Str->Option Value}{CX:DU}{k:Nat}{fa a:Addr}{fd:FuncData}{x:Str}{sp:Sp}{s₁:Shared}{vs:List Value}{ns:List Int} (KX:K.In s₁.heap) (U2:s₁.heap.Ns mainGlobals mg) (hb:s₁.heap.Ns builtinsNs mb) (W7:∀x:Str,x≠"__name__"->mb x=bootBuiltins x) (Tq:s₁.heap.NoLimit) (hg:s₁.gens=#[]) (ha:s₁.heap.get? a=some {cls:=.type "list",data:=.seq vs.toArray}) (hi:IntsAre vs ns) (hl:ns.length<=sizeLine) (hr:dh k callerA) (F:∀base:Heap,K.In base->base.Ns mainGlobals mg->bZ P w K mg base CX k fa fd [x] sp) (Py:∀(s:Shared) (u:Value),BindsTo s fd ⟨[u],[]⟩ [(x,u)]) (Hz:∀H:Hp,Io H->dn K H a (ns.map V.int)->sp [.ref a] H (λ v _=>v=.bl true) λ _ _ _=>False) (TV:∀H e s',CX [] H s₁ (λ _ _ _=>False) e s'->False):codeAny (model P w) callerA (.call (.ref fa) ⟨[.ref a],[]⟩) (λ r s'=>r=.ok (.ret (.bool true))/\OldK s₁.heap s'.heap/\s'.os=s₁.os/\AllBare s'.gens) s₁:=by
 have rv:=nV hi;have SF:=hi.length;have core:∀H:Hp,Io H->dn K H a (ns.map V.int)->jH P w H s₁.heap->(∀b,H b≠none->b=a)->(H a≠none->K.lookup a=none)->
   codeAny (model P w) callerA (.call (.ref fa) ⟨[.ref a],[]⟩) (λ r s'=>r=.ok (.ret (.bool true))/\OldK s₁.heap s'.heap/\s'.os=s₁.os/\AllBare s'.gens) s₁:=by
  intro H hO hS cp hA hK;have xO:∀{b:Addr} {o:Obj},s₁.heap.get? b=some o->H b=none->(pW s₁.heap H).get? b=some o:=λ e n=>CV e n;have OM:∀{b:Addr} {o:Obj} {es:Array DictEntry} {ep:Nat},s₁.heap.get? b=some o->o.data=.dict es ep->H b=none:=λ{b o es ep} e d=>by
   cases q:H b with
   |none=>rfl
   |some u=>have e':b=a:=hA b (by rw[q];simp);subst e';rw[ha]at e;cases e;have d':Data.seq vs.toArray _=Data.dict es ep:=d;cases d'
  have Q8:∀{b:Addr} {m:Str->Option Value},s₁.heap.Ns b m->(pW s₁.heap H).Ns b m:=λ{b m} ⟨o,es,ep,e,d,r⟩=>⟨o,es,ep,xO e (OM e d),d,r⟩;have Ve:K.In (pW s₁.heap H):=λ b o e=>xO (KX b o e) (by
   cases q:H b with
   |none=>rfl
   |some u=>
    have e':b=a:=hA b (by rw[q];simp);subst e';rw[hK (by rw[q];simp)]at e;cases e)
  have hM:Mod K mg (pW s₁.heap H):=⟨Ve,Q8 U2,⟨mb,Q8 hb,W7⟩,let⟨mc,h1,h2⟩:=Tq;⟨mc,Q8 h1,h2⟩⟩;have e0:tJ P w K mg (pW s₁.heap H) callerA [] s₁ H:=⟨rfl,hM,λ b o e=>GR e,E4 (zf _ _),trivial,λ b hb=>absurd (show b∈([]:List Addr)from hb) (by simp),cp,.of_eq hg⟩;refine E7 ((F _ Ve (Q8 U2)).run callerA [] s₁ H ⟨[.ref a],[]⟩ [.ref a] [.ref a] _ _ hr e0 (Py s₁ (.ref a)) (.cons rfl .nil) (Hz H hO hS)) λ r s' h=>?_;cases r with
  |error e=>exact(TV H e s' h).elim
  |ok fl=>
   cases fl with
   |next=>exact False.elim h
   |brk=>exact False.elim h
   |cont=>exact False.elim h
   |ret u=>
    obtain⟨v,H',os,bare,un,Te,r',q⟩:=h;have q':v=.bl true:=q;subst q';obtain rfl:u=Value.bool true:=r';refine⟨rfl,OldK.of_keep λ b o e=>?_,os,bare⟩;cases q:H b with
    |none=>exact un.keep b o e q (by intro z;exact absurd (show b∈([]:List Addr)from z) (by simp)) (by simp)
    |some u=>
     rcases hO b with z|⟨ob,xs,z⟩
     ·rw[q]at z;cases z
     ·have z2:=un.nE b ob _ z;obtain⟨e1,_⟩:=cp b _ z;obtain⟨e2,_⟩:=Te b _ z2;rw[e]at e1;cases e1;exact e2
 cases hk:K.lookup a with
 |some o=>have e:=KX a o hk;rw[ha]at e;cases e;refine core (λ _=>none) (λ _=>.inl rfl) (.inr ⟨_,vs.toArray,_,hk,rfl,rfl,rfl,by rw[x8,SF];exact hl,by simpa using rv⟩) (λ b u z=>by have z':(none:Option HO)=some u:=z;cases z') (λ b z=>absurd rfl z) λ z=>absurd rfl z
 |none=>
  refine core (λ b=>if b=a then some (.gB {cls:=.type "list",data:=.seq vs.toArray} (.lst (ns.map V.int)))else none) (λ b=>?_) (.inl (.inr ⟨{cls:=.type "list",data:=.seq vs.toArray},J8 rfl⟩)) (λ b u z=>?_) (λ b z=>?_) λ _=>hk
  ·by_cases hb:b=a
   ·exact .inr ⟨_,_,J8 hb⟩
   ·exact .inl (J9 hb)
  ·by_cases hb:b=a
   ·have z':=(J8 hb).symm.trans z;cases z';subst hb;exact⟨ha,by rw[B5];exact hl,vs,_,rv,ha⟩
   ·have z':=(J9 hb).symm.trans z;cases z'
  ·by_cases hb:b=a
   ·exact hb
   ·exact absurd (J9 hb) z
theorem Ep{l:PySem.W.OpenLaw}{n k:Nat}{q:Program}{loose:List Str}{XP:(Str->Option Value)->Heap->Prop}{YP:World->Heap->Prop}{d:DefRec}{K:Params->K2}{CX:World->DU}{sp:World->Sp}{x:Str}
  (hn:l.most=some n) (Pd:n<=sizeLine) (CY:d.params.defaults=[]) (hr:dh k callerA)
  (hY:∀(w:World) (h:Heap),YP w h->(K w.params).In h)
  (F:∀(w:World) (mg:Str->Option Value) (fa:Addr) (h:Heap),(K w.params).In h->h.Ns mainGlobals mg->mg d.name=some (.ref fa)->
   ∃fd:FuncData,(∀(s:Shared) (u:Value),BindsTo s fd ⟨[u],[]⟩ [(x,u)])/\
    ∀base:Heap,(K w.params).In base->base.Ns mainGlobals mg->bZ l.prog w (K w.params) mg base (CX w) k fa fd [x] (sp w))
  (Hz:∀(w:World) (H:Hp) (a:Addr) (ns:List Int),ns.length<=n->Io H->dn (K w.params) H a (ns.map V.int)->sp w [.ref a] H (λ v _=>v=.bl true) λ _ _ _=>False)
  (TV:∀(w:World) (H:Hp) (s:Shared) (e:Value) (s':Shared),CX w [] H s (λ _ _ _=>False) e s'->False):
  PySem.W.WalkO q loose XP YP l.row.toRowW d [] (λ f vs=>PySem.call f vs):=by
 refine Vz.tv hn CY λ w s₀ s₁ mg mb fa o pm cd doc a vs ns G Y ho hd hcd Pe CN hints hlen hg=>?_;have KX:=hY w _ Y;obtain⟨fd,hb,hF⟩:=F w mg fa _ KX G.T.g Pe;exact Cf KX G.T.g G.T.b G.T.builtins G.T.nolimit hg CN hints (D9 hlen Pd) hr hF hb (λ H hO hS=>Hz w H a ns hlen hO hS) λ H e s'=>TV w H s₁ e s'
def eU(s:Stmt):Arguments:=match s with
 | .FunctionDef _ a _ _ _ _ _ _ _ _=>a
 |_=>{posonlyargs:=[],args:=[],vararg:=none,kwonlyargs:=[],kw_defaults:=[],kwarg:=none,defaults:=[]}
def dE(s:Stmt):List Stmt:=match s with
 | .FunctionDef _ _ b _ _ _ _ _ _ _=>b
 |_=>[]
def ay(s:Stmt):Scope:=match s with
 | .FunctionDef _ _ _ _ _ _ sc _ _ _=>sc
 |_=>{kind:=.function,names:=[],isGenerator:=false,isCoroutine:=false}
abbrev fc:DU:=λ _ _ _ _ _ _=>False
abbrev E0:XK:=λ _ _ _=>False
theorem OB{X:Cx}:Passes fc X E0:=λ _ _ _ _ _ _ _ h=>h.elim
structure f_(K:K2)(x qual:Str)(st:Stmt)(f:Addr)(fd:FuncData):Prop where
 ex:∃(oc:Value) (od:Option Addr) (kV doc pm:Value) (an:Option Addr) (c_ ct:Value) (IT:Array (Option Value)),
  fd=PySem.W.fnOf x qual (eU st) (dE st) (ay st) .none kV doc pm an c_ ct/\K.lookup f=some ⟨oc,od,.func fd,IT⟩/\PySem.W.codeIn K c_ qual=true
 kp:PySem.W.keepIn K (.ref f)=true
section
variable {P:Program}{w:World}{K:K2}{mg:Str->Option Value}{base:Heap}
theorem f_.ok {x qual:Str}{st:Stmt}{f:Addr}{fd:FuncData}{N ps:List Str}{k:Nat}{sp:Sp}(F:f_ K x qual st f fd)(S:aO N ps (ay st))(len:∀vs H Q E,sp vs H Q E->vs.length=ps.length) (mC:∀(c_:Value) (A:Around) (outer:List Env) (s:Shared) (H:Hp) (vs:List V) (Q:VK) (E:XK),dh k (A.deeper (envOfC qual (ay st) s.heap.objs.size f c_))->sp vs H Q E->
   ∃t,tQ (sO fc P w K mg base N qual (ay st) f c_ A outer s H E).Nl (dE st) t/\t {nx:=λ _ H'=>Q .bM H',rt:=Q} (start N vs) H):bZ P w K mg base fc (k+1) f fd ps sp:=by
 obtain⟨oc,od,kV,doc,pm,an,c_,ct,IT,rfl,lk,hcd⟩:=F.ex;refine PH lk hcd S len λ A outer s H vs Q E hr Hz=>?_;obtain⟨t,h,q⟩:=mC c_ A outer s H vs Q E hr Hz;exact⟨t,h.Nl,q⟩
theorem f_.binds {x qual:Str}{st:Stmt}{f:Addr}{fd:FuncData}{ps:List Str}(F:f_ K x qual st f fd) (h:∀(kV doc pm:Value) (an:Option Addr) (c_ ct:Value) (us:List Value),us.length=ps.length->bindArgs (PySem.W.fnOf x qual (eU st) (dE st) (ay st) .none kV doc pm an c_ ct) ⟨us,[]⟩=pure (ps.zip us)):Binds K fd ps []:=by obtain⟨oc,od,kV,doc,pm,an,c_,ct,IT,rfl,lk,hcd⟩:=F.ex;exact .all (h kV doc pm an c_ ct)
theorem MC{x qual:Str}{st:Stmt}{f:Addr}{oc:Value}{od an:Option Addr}{IT:Array (Option Value)}{kV doc pm c_ ct:Value}(l:K.lookup f=some ⟨oc,od,.func (PySem.W.fnOf x qual (eU st) (dE st) (ay st) .none kV doc pm an c_ ct),IT⟩) (c:PySem.W.codeIn K c_ qual=true) (k:PySem.W.keepIn K (.ref f)=true):f_ K x qual st f (PySem.W.fnOf x qual (eU st) (dE st) (ay st) .none kV doc pm an c_ ct):=⟨⟨oc,od,kV,doc,pm,an,c_,ct,IT,rfl,l,c⟩,k⟩
end
end L2
namespace L2
open PySem PySem.Spec PyProof.Rows
section
variable {X:Cx}{pins:List (Addr×Obj)}{σ:St}{H:Hp}{s:Shared}
theorem Inv.lF {D:Addr}{o:HO}(I:Inv X pins σ H s)(hn:H D=none)(new:cg X.prog X.w (upd H D o) s.heap D o) (hL:D≠X.env.locals) (hs:X.s₀.heap.objs.size<=D) (hc:∀x c,X.env.cells.lookup x=some c->c≠D) (hp:∀p∈X.pn++pins,p.1≠D):Inv X pins σ (upd H D o) s:=by
 have ne:∀{b:Addr} {u:HO},H b=some u->b≠D:=λ e=>ck e hn;have nb:∀(b:Addr) (ob:Obj),X.s₀.heap.get? b=some ob->b≠D:=λ b ob e=>D5 (q9 (D6 e) hs);refine⟨I.ok,I.os,I.bare,⟨I.base.keep,I.base.slot,λ b ob e n hx=>?_,I.base.there,λ b xs e=>?_,λ b ob u e=>?_,λ b ps e=>?_⟩,I.loc,I.cell,?_,λ x c e=>?_,λ p O'=>?_,λ b u e=>?_,I.len⟩
 ·rw[bg (nb b ob e)];exact I.base.free b ob e n hx
 ·have q:=I.base.oS b xs e;rw[bg (ne q)];exact q
 ·have q:=I.base.nE b ob u e;rw[bg (ne q)];exact q
 ·obtain⟨m,q⟩:=I.base.oV b ps e;exact⟨m,by rw[bg (ne q)];exact q⟩
 ·rw[bg (J6 hL)];exact I.free
 ·rw[bg (hc x c e)];exact I.fU x c e
 ·obtain⟨e,n,r⟩:=I.pin p O';exact⟨e,by rw[bg (hp p O')];exact n,r⟩
 ·by_cases hb:b=D
  ·subst hb;rw[bW]at e;cases e;exact new
  ·rw[bg hb]at e;exact(I.cp b u e).jV (λ c v _ q=>q) (λ c q=>by rw[bg (ne q)];exact q) λ c xs q=>by rw[bg (ne q)];exact q
end
def eB(cells:List (Str×Addr)):List (Str×NameKind)->List (Str×Addr)->List (Str×Addr)
 |[],acc=>acc
 |(n,k)::r,acc=>if(k==.free)=true then eB cells r ((n,(cells.lookup n).getD 0)::acc)else eB cells r acc
theorem iq{cells:List (Str×Addr)}:∀(names:List (Str×NameKind)) (acc:List (Str×Addr)),(∀n,(n,NameKind.free)∈names->∃c,cells.lookup n=some c)-> (∀x c,acc.lookup x=some c->cells.lookup x=some c)->∀x c,(eB cells names acc).lookup x=some c->cells.lookup x=some c
 |[],acc,_,h,x,c,e=>h x c e
 |(n,k)::r,acc,hc,h,x,c,e=>by
  unfold eB at e;by_cases hk:(k==NameKind.free)=true
  ·rw[J8 hk]at e;refine iq r _ (λ m hm=>hc m (k9 _ hm)) (λ y d q=>?_) x c e;have xi:k=NameKind.free:=by simpa using hk
   obtain⟨c0,e0⟩:=hc n (by rw[xi];exact o8);rw[y0]at q;cases hy:(y==n)with
   |true=>
    rw[hy]at q;have yn:y=n:=by simpa using hy
    subst yn;rw[e0]at q;rw[e0];exact q
   |false=>rw[hy]at q;exact h y d q
  ·rw[J9 hk]at e;exact iq r _ (λ m hm=>hc m (k9 _ hm)) h x c e
theorem gF{cells:List (Str×Addr)}{x:Str}:∀(names:List (Str×NameKind)) (acc:List (Str×Addr)),((acc.lookup x).isSome=true)->((eB cells names acc).lookup x).isSome=true
 |[],acc,h=>h
 |(n,k)::r,acc,h=>by
  unfold eB;split
  ·refine gF r _ ?_;rw[y0];cases hy:(x==n)with
   |true=>rfl
   |false=>exact h
  ·exact gF r _ h
theorem jF{cells:List (Str×Addr)}{x:Str}:∀(names:List (Str×NameKind)) (acc:List (Str×Addr)),(x,NameKind.free)∈names->((eB cells names acc).lookup x).isSome=true
 |[],acc,h=>absurd h (by simp)
 |(n,k)::r,acc,h=>by
  unfold eB;rcases D1.mp h with e|h
  ·cases e;rw[J8 (by decide)];refine gF r _ ?_;rw[y0];simp
  ·split
   ·exact jF r _ h
   ·exact jF r _ h
theorem fA{scope:Scope}{env:Env}(hc:∀n,(n,NameKind.free)∈scope.names->∃c,env.cells.lookup n=some c):closureFor scope env=pure (eB env.cells scope.names []):=by
 unfold closureFor;have all:∀(names:List (Str×NameKind)) (acc:List (Str×Addr)),(∀n,(n,NameKind.free)∈names->∃c,env.cells.lookup n=some c)->
   (forIn names acc (λ(x:Str×NameKind) (cs:List (Str×Addr))=>(match x with|(name,kind)=>if(kind==.free)=true then(do let c <- cellOf env name;pure (ForInStep.yield ((name,c)::cs)))else pure (ForInStep.yield cs):Sem (ForInStep (List (Str×Addr))))))=(pure (eB env.cells names acc):Sem (List (Str×Addr))):=by
  intro names
  induction names with
  |nil=>intro acc _;rfl
  |cons y r ih=>
   intro acc hc;obtain⟨n,k⟩:=y;rw[forIn_cons];unfold eB;dsimp only;by_cases hk:(k==NameKind.free)=true
   ·rw[J8 hk,J8 hk];have xi:k=NameKind.free:=by simpa using hk
    obtain⟨c0,e0⟩:=hc n (by rw[xi];exact o8);unfold cellOf;rw[e0];exact ih _ λ m hm=>hc m (k9 _ hm)
   ·rw[J9 hk,J9 hk];exact ih _ λ m hm=>hc m (k9 _ hm)
 have q:=all scope.names [] hc;refine Eq.trans ?_ (J5 (λ m=>m >>= pure) q);rfl
theorem lQ{env:Env}:∀{names:List (Str×NameKind)} {x:Str},names.lookup x=some .free-> (names.map λ(n,k)=>if(k==NameKind.free&&env.scope.kind==.function&&env.kindOf n==some .cell)then(n,NameKind.cell)else(n,k)).lookup x=some .cell\/ (names.map λ(n,k)=>if(k==NameKind.free&&env.scope.kind==.function&&env.kindOf n==some .cell)then(n,NameKind.cell)else(n,k)).lookup x=some .free
 |[],_,h=>by simp at h
 |(n,k)::r,x,h=>by
  have ih:=@lQ env r x;rw[C9];dsimp only;cases hx:x==n with
  |true=>
   rw[y0,hx]at h;have h':k=NameKind.free:=by simpa using h
   subst h';split
   ·left;rw[y0,hx]
   ·right;rw[y0,hx]
  |false=>
   rw[y0,hx]at h;have ih:=ih h;split
   ·rw[y0,hx];exact ih
   ·rw[y0,hx];exact ih
theorem qh{prog:Program}{w:World}{A:Around}{R:Result->Shared->Prop}{s:Shared}{elt target iter:Expr}{ifs:List Expr}{scope:Scope}{pos:Pos}{it acc:Value}{env:Env}(I:Nat->Shared->Prop) (turn:∀n s,I n s->wpAny (model prog w) A (pyNext it) (λ r s1=>match r with
   |none=>R (.ok .next) s1
   |some v=>wpAny (model prog w) A (letOwnedTupleGo target it v) (λ _ s2=>wpAny (model prog w) A (assign target env v) (λ _ s3=>
     wpAny (model prog w) A (forIn ifs true λ c r=>if r=true then do let ok <- isTrue c env (eval c env);pure (ForInStep.yield ok)else pure (ForInStep.yield r)) (λ ok s4=>
      if ok=true then wpAny (model prog w) A (eval elt env) (λ x s5=>
       wpAny (model prog w) A (call (.builtin "list.append") [acc,x]) (λ _ s6=>∃m,m < n/\I m s6) (λ _ _=>False) s5) (λ _ _=>False) s4
      else ∃m,m < n/\I m s4) (λ _ _=>False) s3) (λ _ _=>False) s2) (λ _ _=>False) s1) (λ _ _=>False) s)
  (n:Nat) (h:I n s):
  codeAny (model prog w) A (.compLoop (.ListComp elt [⟨target,iter,ifs,0⟩] scope pos) 0 it acc env) R s:=by
 refine codeAny_loop rfl I (λ n s hI=>?_) n h;show wpAny _ A ((compTurn (.ListComp elt [⟨target,iter,ifs,0⟩] scope pos) 0 it acc env).onRaise (λ x=>do noteFrame x env;theTreesLotGoes x)) _ _ s;refine wpAny_noted ?_;rw[compTurn_list];refine wpAny_noRaise (H0 (wpAny_standAt (H0 (J3 (turn n s hI) (λ r s1 h1=>?_) λ _ _ h'=>h'))));cases r with
 |none=>exact H9 h1
 |some v=>
  refine H0 (J3 h1 (λ _ s2 h2=>?_) λ _ _ h'=>h');refine H0 (J3 h2 (λ _ s3 h3=>H0 (J3 h3 (λ ok s4 h4=>?_) λ _ _ h'=>h')) λ _ _ h'=>h');cases ok with
  |false=>exact H9 ⟨rfl,h4⟩
  |true=>exact H0 (H0 (J3 h4 (λ x s5 h5=>H0 (J3 h5 (λ _ s6 h6=>H9 (H9 ⟨rfl,h6⟩)) λ _ _ h'=>h')) λ _ _ h'=>h'))
end L2
namespace L2
open PySem PySem.Spec PyProof.Rows
def bH(X:Cx)(scope:Scope)(cl:List (Str×Addr))(tgs:List Str)(fr:List Nat)(C:Addr)(fp:List Addr)(s:Shared)(H:Hp):Cx:=
 {X with N:=tgs++fr.map (λ j=>X.N.getD j ""),s₀:=s,H₀:=H,env:=compEnvC scope cl C X.env,outer:=X.stack,ex:=fp,fn:=λ x=>scope.names.lookup x==some .cell,pn:=[]}
def eV(n:Nat)(fr:List Nat)(σ:St):St:=List.replicate n none++fr.map (λ j=>σ.getD j none)
structure DV(X:Cx)(scope:Scope)(C:Addr)(h1:Heap)(cl:List (Str×Addr)):Prop where
 look:∀x c,cl.lookup x=some c->X.env.cells.lookup x=some c\/(C < c/\h1.IsCell c none)
 inj:∀x y c,cl.lookup x=some c->cl.lookup y=some c->x=y
 has:∀x,(x,NameKind.free)∈scope.names\/(x,NameKind.cell)∈scope.names->∃c,cl.lookup x=some c
 Xt:∀x c,scope.names.lookup x=some .free->cl.lookup x=some c->X.env.cells.lookup x=some c
 own:∀x c,scope.names.lookup x=some .cell->cl.lookup x=some c->C < c
structure jd(X:Cx)(scope:Scope)(fr:List Nat):Prop where
 kind:scope.kind=.function
 cells:∀y∈scope.names,y.2=.cell->scope.names.lookup y.1=some .cell
 names:∀y∈scope.names,y.2=.local->scope.names.lookup y.1=some .local
 has:∀n,(n,NameKind.free)∈scope.names->X.env.kindOf n=some .cell\/X.env.kindOf n=some .free
 fr:∀j∈fr,j < X.N.length/\scope.names.lookup (X.N.getD j "")=some .free
def iB(n:Nat)(g:TG):Prop:=∀x σ H Q,g x σ H Q->g x σ H λ σ2 H2=>Q σ2 H2/\σ2.length=σ.length/\∀k,n<=k->σ2[k]?=σ[k]?
theorem gW{n i:Nat}(h:i < n):iB n (cB i):=λ x σ H Q q=>⟨q,by simp,λ k hk=>by rw[l7 (by omega)]⟩
def kZ(n:Nat)(g:xP):Prop:=∀xs σ H Q,g xs σ H Q->g xs σ H λ σ2 H2=>Q σ2 H2/\σ2.length=σ.length/\∀k,n<=k->σ2[k]?=σ[k]?
theorem Df{n:Nat}:kZ n pY:=λ xs σ H Q q=>⟨q.1,q.2,rfl,λ _ _=>rfl⟩
def NH(X:Cx)(ifs:List Expr)(t:TT):Prop:=
 ∀(pins:List (Addr×Obj)) (s:Shared) (σ:St) (H:Hp) (Q:Bool->Hp->Prop),Inv X pins σ H s->t σ H Q->
  wpAny (model X.prog X.w) X.A (forIn ifs true λ c r=>if r=true then do let ok <- isTrue c X.env (eval c X.env);pure (ForInStep.yield ok)else pure (ForInStep.yield r)) (TP X pins σ Q) X.xe s
def RR:TT:=λ _ H Q=>Q true H
theorem Gj{X:Cx}:NH X [] RR:=λ _ s σ H Q I h=>wpAny_tests_nil ⟨H,I,h⟩
theorem Gi{X:Cx}{c:Expr}{t:TT}(h:PT X c t):NH X [c] t:=λ pins s σ H Q I q=>wpAny_tests_one (h pins s σ H Q I q)
def lH(wi:TI)(g:TG)(tt:TT)(te:TE)(n:Nat)(fr:List Nat):TE:=λ σ H Q=>wi σ H λ J H1=>∃W:Nat->Nat->List V->Hp->Prop,(∃m,W 0 m [] H1)/\∀i m acc H,W i m acc H->
 acc.length<=sizeLine/\((J.stop i H/\∀p,H p=none->Q (.ref p) (upd H p (.lst acc)))\/
  (J.go i H/\∃N:List V->Hp->Prop,(∀DP H',N DP H'->∃m',m' < m/\W (i+1) m' DP H')/\∀x H',J.En i H x H'->g x (eV n fr σ) H' λ σ2 H2=>tt σ2 H2 λ b H3=>if b=true then te σ2 H3 λ y H4=>N (acc++[y]) H4 else N acc H3))
theorem gq{env:Env}:∀{names:List (Str×NameKind)} {x:Str} {k0:NameKind}, (names.map λ(n,k)=>if(k==NameKind.free&&env.scope.kind==.function&&env.kindOf n==some .cell)then(n,NameKind.cell)else(n,k)).lookup x=some k0->(k0=.cell\/k0=.free)->(x,NameKind.free)∈names\/(x,NameKind.cell)∈names
 |[],_,_,h,_=>by simp at h
 |(n,k)::r,x,k0,h,hk=>by
  have ih:=@gq env r x k0;rw[C9]at h;dsimp only at h;cases hx:x==n with
  |true=>
   have xn:x=n:=by simpa using hx
   subst xn;by_cases Pu:(k==NameKind.free&&env.scope.kind==.function&&env.kindOf x==some .cell)=true
   ·have:k=NameKind.free:=by have:=(z9 _ _).mp Pu;have:=(z9 _ _).mp this.1;simpa using this.1
    subst this;exact .inl o8
   ·rw[J9 Pu,y0,hx]at h;have h':k=k0:=by simpa using h
    subst h';rcases hk with e|e
    ·subst e;exact .inr o8
    ·subst e;exact .inl o8
  |false=>
   have z:(x,NameKind.free)∈r\/(x,NameKind.cell)∈r:=by
    refine ih ?_ hk;split at h
    ·rw[y0,hx]at h;exact h
    ·rw[y0,hx]at h;exact h
   exact z.imp (k9 _) (k9 _)
theorem gR{x n:Str}{a:Addr}{acc:List (Str×Addr)}{c:Addr}(h:((n,a)::acc).lookup x=some c):(x=n/\c=a)\/(x≠n/\acc.lookup x=some c):=by
 rw[y0]at h;cases e:x==n with
 |true=>rw[e]at h;exact .inl ⟨by simpa using e,(B0 h).symm⟩
 |false=>rw[e]at h;exact .inr ⟨by simpa using e,h⟩
set_option tactic.hygienic true in
theorem qi:∀(names:List (Str×NameKind)) (h:Heap) (acc:List (Str×Addr)) (x:Str) (c:Addr),(cellsFrom h.objs.size names acc).lookup x=some c->acc.lookup x=some c\/(h.objs.size<=c/\(pushCells h names).IsCell c none)
 |[],_,_,_,_,e=>.inl e
 |(n,k)::r,h,acc,x,c,e=>by
  unfold cellsFrom at e;unfold pushCells;split at e
  ·rename_i hk;rw[J8 hk];have sz:=C2 h {cls:=.type "cell",data:=.cell none};rw[<- sz]at e;rcases qi r _ _ x c e with z|z
   ·rcases gR z with⟨_,q⟩|⟨_,q⟩
    ·subst q;exact .inr ⟨G5 _,_,pushCells_keeps r _ _ _ (m9 _ rfl),rfl⟩
    ·exact .inl q
   ·exact .inr ⟨by have:=z.1;rw[sz]at this;omega,z.2⟩
  ·rename_i hk;rw[J9 hk];exact qi r h acc x c e
theorem vA:∀(names:List (Str×NameKind)) (n:Nat) (acc:List (Str×Addr)),(∀x c,acc.lookup x=some c->c < n)->(∀x y c,acc.lookup x=some c->acc.lookup y=some c->x=y)->∀x y c,(cellsFrom n names acc).lookup x=some c->(cellsFrom n names acc).lookup y=some c->x=y
 |[],_,_,_,hi=>hi
 |(m,k)::r,n,acc,lt,hi=>by
  unfold cellsFrom;split
  ·refine vA r (n+1) _ (λ x c e=>?_) (λ x y c e1 e2=>?_)
   ·rcases gR e with⟨_,q⟩|⟨_,q⟩
    ·rw[q];exact Nat.lt_succ_self n
    ·exact x9 (lt x c q)
   ·rcases gR e1 with⟨a1,q1⟩|⟨a1,q1⟩ <;> rcases gR e2 with⟨a2,q2⟩|⟨a2,q2⟩
    ·rw[a1,a2]
    ·exact absurd (q1▸lt y c q2) (C8 _)
    ·exact absurd (q2▸lt x c q1) (C8 _)
    ·exact hi x y c q1 q2
  ·exact vA r n acc lt hi
theorem kW{x:Str}:∀(names:List (Str×NameKind)) (n:Nat) (acc:List (Str×Addr)),(∃c,acc.lookup x=some c)->∃c,(cellsFrom n names acc).lookup x=some c
 |[],_,_,h=>h
 |(m,k)::r,n,acc,⟨c,h⟩=>by
  unfold cellsFrom;split
  ·refine kW r _ _ ?_;rw[y0];cases x==m with
   |true=>exact⟨_,rfl⟩
   |false=>exact⟨c,h⟩
  ·exact kW r n acc ⟨c,h⟩
theorem vB{x:Str}:∀(names:List (Str×NameKind)) (n:Nat) (acc:List (Str×Addr)),(x,NameKind.cell)∈names->∃c,(cellsFrom n names acc).lookup x=some c
 |[],_,_,h=>absurd h (by simp)
 |(m,k)::r,n,acc,h=>by
  unfold cellsFrom;rcases D1.mp h with e|h
  ·cases e;rw[J8 (by decide)];exact kW r _ _ ⟨n,by rw[y0];simp⟩
  ·split
   ·exact vB r _ _ h
   ·exact vB r _ _ h
set_option tactic.hygienic true in
theorem vC{x:Str}:∀(names:List (Str×NameKind)) (n:Nat) (acc:List (Str×Addr)),(x,NameKind.cell)∉names->(cellsFrom n names acc).lookup x=acc.lookup x
 |[],_,_,_=>rfl
 |(m,k)::r,n,acc,h=>by
  unfold cellsFrom;split
  ·rename_i hk;rw[vC r _ _ λ z=>h (k9 _ z),y0];cases e:x==m with
   |false=>rfl
   |true=>
    have e1:x=m:=by simpa using e
    have e2:k=.cell:=by simpa using hk
    subst e1 e2;exact absurd o8 h
  ·exact vC r n acc λ z=>h (k9 _ z)
set_option tactic.hygienic true in
theorem vy{x:Str}{lo:Nat}:∀(names:List (Str×NameKind)) (n:Nat) (acc:List (Str×Addr)),lo<=n->((x,NameKind.cell)∈names\/∀c,acc.lookup x=some c->lo<=c)->∀c,(cellsFrom n names acc).lookup x=some c->lo<=c
 |[],_,_,_,h,c,e=>by
  rcases h with h|h
  ·cases h
  ·exact h c e
 |(m,k)::r,n,acc,hn,h,c,e=>by
  unfold cellsFrom at e;split at e
  ·refine vy r (n+1) _ (by omega) ?_ c e;rcases h with h|h
   ·rcases D1.mp h with q|q
    ·cases q;exact .inr λ c e=>by
      rcases gR e with⟨_,z⟩|⟨z,_⟩
      ·rw[z];exact hn
      ·exact absurd rfl z
    ·exact .inl q
   ·exact .inr λ c e=>by
     rcases gR e with⟨_,z⟩|⟨_,z⟩
     ·rw[z];exact hn
     ·exact h c z
  ·rename_i hk;refine vy r n acc hn ?_ c e;rcases h with h|h
   ·rcases D1.mp h with q|q
    ·cases q;exact absurd rfl hk
    ·exact .inl q
   ·exact .inr h
section
variable {M:Model}{A:Around}{E:Value->Shared->Prop}{s:Shared}
theorem yR{scope:Scope}{globals:Addr}{closure:List (Str×Addr)}{qual:Str}{func:Option Addr}{code:Value}{env:Env}{builtins:Addr}{Q:Env->Shared->Prop} (hQ:Q (newEnv scope s.heap.objs.size globals (cellsFrom (s.heap.objs.size+1) scope.names closure) qual func code (some env) builtins) {s with heap:=pushCells (s.heap.push {cls:=.type "dict",data:=.dict #[]}) scope.names}):wpAny M A (newFunctionEnv scope globals closure [] qual func code (some env) builtins) Q E s:=by simp only[newFunctionEnv,Option.isSome_some,J7];refine H0 (wpAny_alloc ?_);refine H0 (wpAny_layCells _ (λ name kind cells=>by cases WQ:kind==NameKind.cell <;> simp[WQ]) _ _ _ _ ?_);rw[show({s with heap:=s.heap.push {cls:=.type "dict",data:=.dict #[]}}:Shared).heap.objs.size=s.heap.objs.size+1 from C2 ..];exact H0 (H9 (H9 hQ))
end
section
variable {X:Cx}{scope:Scope}{tgs:List Str}{fr:List Nat}
theorem MP{pins:List (Addr×Obj)}{σ:St}{H:Hp}{s:Shared}{fp:List Addr}{C:Addr}{h1:Heap}{cl:List (Str×Addr)}(B:jd X scope fr)(L:DV X scope C h1 cl)(I:Inv X pins σ H s)(hC:s.heap.objs.size<=C)(f:∀b∈fp,iC X pins H b)(Ee:∀b∈fp,b < s.heap.objs.size): (bH X scope cl tgs fr C fp s H).Ok:=by
 refine⟨I.ok.mod,B.kind,I.ok.glob,I.ok.blt,hC,L.inj,λ x hx=>?_,λ x c h e=>?_,I.ok.hd,I.ok.frames,.inl rfl,λ b hb=>⟨D5 (q9 (Ee b hb) hC),λ x c e=>?_⟩,
  I.bs,D9 I.ok.Ei I.sz,λ b o e hb=>?_,λ b hb hs=>?_,I.stack,I.vZ⟩
 ·rcases hx with hx|hx
  ·exact L.has x (gq hx (.inl rfl))
  ·exact L.has x (gq hx (.inr rfl))
 ·exact D9 hC (G0 (L.own x c (by simpa[bH]using h) e))
 ·rcases L.look x c e with z|z
  ·exact(f b hb).2.2.2.2.1 x c z
  ·exact λ q=>absurd (q8 hC z.1) (Nat.not_lt.mpr (G0 (q▸Ee b hb)))
 ·rcases(f b hb).2.2.2.1 with z|z
  ·exact I.ok.yQ b o e z
  ·exact absurd (q9 (D6 e) (D9 I.ok.Ei z)) (C8 _)
 ·rcases D1.mp (I.oW b hs)with z|z
  ·exact(f b hb).2.1 z
  ·exact(f b hb).2.2.1 z
theorem Ib{pins:List (Addr×Obj)}{σ:St}{H:Hp}{s s1:Shared}{fp:List Addr}{C:Addr}{m:Str->Option Value}{cl:List (Str×Addr)}(B:jd X scope fr)(L:DV X scope C s1.heap cl)(I:Inv X pins σ H s)(hC:s.heap.objs.size<=C)(f:∀b∈fp,iC X pins H b)(Ee:∀b∈fp,b < s.heap.objs.size) (ho:s1.os=s.os) (hg:AllBare s1.gens) (hk:∀b o,s.heap.get? b=some o->s1.heap.get? b=some o) (hn:s1.heap.Ns C m):Inv (bH X scope cl tgs fr C fp s H) [] (eV tgs.length fr σ) H s1:=by
 refine⟨MP B L I hC f Ee,ho,hg,Un.kept hk,⟨m,hn,λ i x v e1 e2 e3=>?_⟩,λ x c e=>?_,I.cp.fresh hC,λ x c e=>?_,λ p hp=>absurd hp (by simp[bH]),I.cp.kept hk,by simp[eV,bH]⟩
 ·-- a free name:av T9 value
  have e1:(tgs++fr.map (λ j=>X.N.getD j ""))[i]?=some x:=e1;have hi:tgs.length<=i:=by refine y3 λ eR=>?_;unfold eV at e2;rw[c8 (by simpa using eR),i8,J8 eR]at e2;cases e2
  unfold eV at e2;rw[c6 (by simpa using hi),k7,u9]at e2;rw[c6 hi,u9]at e1;cases ej:fr[i - tgs.length]? with
  |none=>rw[ej]at e1;cases e1
  |some j=>
   rw[ej]at e1 e2;have PQ:X.N.getD j ""=x:=B0 e1;have Vl:σ.getD j none=some v:=B0 e2;obtain⟨hj,hl⟩:=B.fr j (l4 ej);have hN:X.N[j]?=some x:=by rw[c7,i5 hj]at PQ;rw[i5 hj];exact J5 some PQ
   have hs:σ[j]?=some (some v):=by
    have Po:j < σ.length:=by rw[I.len];exact hj
    rw[c7,i5 Po]at Vl;rw[i5 Po];exact J5 some Vl
   rw[PQ]at hl;obtain⟨m0,xh,WN⟩:=I.loc;have CQ:(x,NameKind.free)∈scope.names:=m6 hl;have kinds:=B.has x CQ;obtain⟨u,ru,lu⟩:=WN j x v hN hs (by rcases kinds with z|z;exact .inr (.inl z);exact .inr (.inr z));refine⟨u,ru,.inr ⟨lQ hl,?_⟩⟩;obtain⟨c,hc⟩:=L.has x (.inl CQ);refine⟨c,hc,?_⟩;rcases lu with⟨kl,_⟩|⟨_,c',zi,z⟩
   ·rcases kinds with z|z <;> (rw[z]at kl;cases kl)
   ·have:c=c':=by have:=L.Xt x c hl hc;rw[this]at zi;exact B0 zi
    subst this;obtain⟨o,ho,hd⟩:=z;exact⟨o,hk _ _ ho,hd⟩
 ·rcases L.look x c e with z|z
  ·obtain⟨v,o,va,hd⟩:=I.cell x c z;exact⟨v,o,hk _ _ va,hd⟩
  ·exact⟨none,z.2⟩
 ·rcases L.look x c e with z|z
  ·exact I.fU x c z
  ·exact I.cp.fresh (D9 hC (G0 z.1))
theorem MQ{pins:List (Addr×Obj)}{σ:St}{H:Hp}{s:Shared}{h2:Heap}(B:jd X scope fr)(I:Inv X pins σ H s)(hs:s.heap.objs.size<=h2.objs.size):DV X scope h2.objs.size (pushCells (h2.push {cls:=.type "dict",data:=.dict #[]}) scope.names) (cellsFrom (h2.objs.size+1) scope.names (eB X.env.cells scope.names [])):=by
 have look:∀x c,(eB X.env.cells scope.names []).lookup x=some c->X.env.cells.lookup x=some c:=
  iq scope.names [] (λ n hn=>I.ok.has n (B.has n hn)) λ x c e=>by simp at e
 have sz:=C2 h2 {cls:=.type "dict",data:=.dict #[]};refine⟨λ x c e=>?_,vA _ _ _ (λ x c e=>?_) (λ x y c e1 e2=>I.ok.inj x y c (look x c e1) (look y c e2)),λ x h=>?_,λ x c h e=>?_,λ x c h e=>?_⟩
 ·rw[<- sz]at e;rcases qi _ _ _ x c e with z|z
  ·exact .inl (look x c z)
  ·exact .inr ⟨q9 (by rw[sz];exact Nat.lt_succ_self _) z.1,z.2⟩
 ·obtain⟨v,hv⟩:=I.cell x c (look x c e);exact x9 (q9 hv.lt hs)
 ·rcases h with h|h
  ·exact kW _ _ _ (Option.isSome_iff_exists.mp (jF scope.names [] h))
  ·exact vB _ _ _ h
 ·rw[vC _ _ _ λ z=>by have:=B.cells _ z rfl;rw[h]at this;cases this]at e;exact look x c e
 ·exact vy (lo:=h2.objs.size+1) _ _ _ (G5 _) (.inl (m6 h)) c e
end
end L2
namespace L2
open PySem PySem.Spec PyProof.Rows
section
variable {X:Cx}{scope:Scope}{tgs:List Str}{fr:List Nat}{tg elt iter:Expr}{ifs:List Expr}{pos:Pos}{wi:TI}{g:TG}{tt:TT}{te:TE}
theorem toF{α:Type}{M:Model}{A:Around}{E:Value->Shared->Prop}{s:Shared}{t:Sem α}{Q Q':α->Shared->Prop}(hE:∀e s,E e s->False)(h:wpAny M A t Q E s)(hQ:∀a s,Q a s->Q' a s):wpAny M A t Q' (λ _ _=>False) s:=
 J3 h hQ hE
theorem oK{pins:List (Addr×Obj)}{σ:St}{H:Hp}{s:Shared}{R:Value->Addr->Result->Shared->Prop}{E:Value->Shared->Prop}{J:It}{fp:List Addr}{it:Addr}{tn:Nat->Heap->Prop}{Qe:List V->Hp->Prop} (B:jd X scope fr) (hc:X.calm=true) (hE:∀e s,X.xe e s->False) (hg:∀cl C fp s H,PG (bH X scope cl tgs fr C fp s H) tg g) (gk:iB tgs.length g) (ht:∀cl C fp s H,NH (bH X scope cl tgs fr C fp s H) ifs tt) (he:∀cl C fp s H,PE (bH X scope cl tgs fr C fp s H) elt te) (I:Inv X pins σ H s) (T:Turn X.prog X.w X.K tg J fp it tn) (st:tn 0 s.heap) (f:∀b∈fp,iC X pins H b) (W:Nat->Nat->List V->Hp->Prop) (m0:Nat) (w0:W 0 m0 [] H) (turn:∀i m acc H,W i m acc H->acc.length<=sizeLine/\((J.stop i H/\Qe acc H)\/(J.go i H/\∃N:List V->Hp->Prop,(∀DP H',N DP H'->∃m',m' < m/\W (i+1) m' DP H')/\∀x H',J.En i H x H'->g x (eV tgs.length fr σ) H' λ σ2 H2=>tt σ2 H2 λ b H3=>
   if b=true then te σ2 H3 λ y H4=>N (acc++[y]) H4 else N acc H3)))
  (fin:∀(D C:Addr) (s1:Shared) (H1:Hp) (acc:List V) (av:List Value),s.heap.objs.size<=D->s.heap.objs.size<=C->D≠C->Inv X pins σ H1 s1->H1 C=none->H1 D=none->(∃m,s1.heap.Ns C m)->
   s1.heap.PlainList D av.toArray->Vals acc av->acc.length<=sizeLine->Qe acc H1->R (.ref D) C (.ok .next) s1):
  wpAny (model X.prog X.w) X.A (newList []) (λ acc s3=>wpAny (model X.prog X.w) X.A (newFunctionEnv scope X.env.globals (eB X.env.cells scope.names []) [] X.env.qual none .none (some X.env)) (λ Qf s4=>
   codeAny (model X.prog X.w) X.A (.compStart (.ListComp elt [⟨tg,iter,ifs,0⟩] scope pos) 0 (.ref it) acc {Qf with scope:=relabel scope X.env}) (R acc Qf.locals) s4) E s3) E s:=by
 have Ee:∀b∈fp,b < s.heap.objs.size:=λ b hb=>by obtain⟨o,e,_⟩:=T.obj 0 _ st b hb;exact D6 e
 refine w9 (yR ?_);dsimp only;generalize TU:s.heap.push {cls:=.type "list",dict:=none,data:=.seq ([]:List Value).toArray}=H2;have hC:H2.objs.size=s.heap.objs.size+1:=by rw[<- TU,C2]
 have L0:=MQ (h2:=H2) B I (by omega);have Pa:(pushCells (H2.push {cls:=.type "dict",data:=.dict #[]}) scope.names).Ns H2.objs.size (λ _=>none):=(Heap.Ns.new H2 (.type "dict")).keeps (pushCells_keeps _ _);have SJ:∀b o,H2.get? b=some o->(pushCells (H2.push {cls:=.type "dict",data:=.dict #[]}) scope.names).get? b=some o:=λ b o e=>pushCells_keeps _ _ b o (j5 _ e);generalize pushCells (H2.push {cls:=.type "dict",data:=.dict #[]}) scope.names=h1 at L0 Pa SJ ⊢;have MA:s.heap.objs.size≠H2.objs.size:=by omega
 have HJ:s.heap.objs.size<=H2.objs.size:=by omega
 have below:∀b,b < s.heap.objs.size->b≠H2.objs.size/\b≠s.heap.objs.size:=λ b hb=>⟨by omega,by omega⟩;have old:∀b o,s.heap.get? b=some o->h1.get? b=some o:=λ b o e=>SJ b o (TU▸j5 _ e);have j_:h1.PlainList s.heap.objs.size #[]:=⟨_,SJ _ _ (TU▸m9 _ rfl)⟩;have Uu:tn 0 h1:=T.keep _ _ _ st λ b _ o e=>old b o e;have SE:∀x c,(cellsFrom (H2.objs.size+1) scope.names (eB X.env.cells scope.names [])).lookup x=some c->X.env.cells.lookup x=some c\/H2.objs.size < c:=λ x c e=>(L0.look x c e).imp id λ z=>z.1;generalize cellsFrom (H2.objs.size+1) scope.names (eB X.env.cells scope.names [])=cl at L0 SE ⊢;generalize YU:H2.objs.size=C at*;generalize PC:s.heap.objs.size=D at*;have Xi:∀b,b < D->b < s.heap.objs.size:=λ b hb=>by rw[PC];exact hb
 have fD:=I.iZ (b:=D) (H':=H) (E4 PC) (I.cp.fresh (E4 PC));have Iw:∀b,b≠X.env.locals->b∉X.fs->b∉zj X.stack:=λ b h1 h2 hb=>(D1.mp (I.oW b hb)).elim h1 h2;have Tu:∀b∈fp,b∉zj X.stack:=λ b hb=>Iw b (f b hb).2.1 (f b hb).2.2.1;have X_:∀x c,cl.lookup x=some c->c≠D:=λ x c e=>(SE x c e).elim (fD.2.2.2.2.1 x c) λ z q=>absurd (q8 HJ (q▸z)) (C8 _);have loop:∀s3:Shared,s3={s with heap:=h1}->
   codeAny (model X.prog X.w) X.A (.compLoop (.ListComp elt [⟨tg,iter,ifs,0⟩] scope pos) 0 (.ref it) (.ref D) (compEnvC scope cl C X.env)) (R (.ref D) C) s3:=by
  rintro s3 rfl;have Yx:Inv (bH X scope cl tgs fr C fp s H) [] (eV tgs.length fr σ) H {s with heap:=h1}:=
   Ib B L0 I (by rw[PC];exact HJ) f (λ b hb=>Xi b (Ee b hb)) rfl I.bare old Pa
  refine qh (λ n s'=>∃(i:Nat) (acc:List V) (av:List Value) (H':Hp),Inv (bH X scope cl tgs fr C fp s H) [] (eV tgs.length fr σ) H' s'/\tn i s'.heap/\(∀b∈fp,H' b=none)/\H' D=none/\
   s'.heap.PlainList D av.toArray/\Vals acc av/\W i n acc H') ?_ m0 ⟨0,[],[],H,Yx,Uu,λ b hb=>(f b hb).1,fD.1,j_,.nil,w0⟩
  rintro n s3 ⟨i,acc,av,H3,I3,NT,PF,Xj,⟨nl,CN⟩,Q4,w3⟩;obtain⟨hz,h⟩:=turn i n acc H3 w3;have Vv:Inv (bH X scope cl tgs fr C fp s H) [(D,{cls:=.type "list",data:=.seq av.toArray nl})] (eV tgs.length fr σ) H3 s3:=I3.eC λ p hp=>by
   have e:p=(D,{cls:=.type "list",data:=.seq av.toArray nl}):=by simpa using hp
   subst e;exact⟨CN,Xj,MA,Iw D fD.2.1 fD.2.2.1,λ v e=>by cases e⟩
  have fY:∀{H':Hp},(∀b∈fp,H' b=none)->∀b∈fp,iC (bH X scope cl tgs fr C fp s H) [(D,{cls:=.type "list",data:=.seq av.toArray nl})] H' b:=λ hn b hb=>
   ⟨hn b hb,(below b (Ee b hb)).1,Tu b hb,.inl hb,λ x c e=>(SE x c e).elim ((f b hb).2.2.2.2.1 x c) λ z q=>absurd (q9 (Ee b hb) (D9 HJ (G0 (q▸z)))) (C8 _),λ p hp=>by
    have e:p=(D,{cls:=.type "list",data:=.seq av.toArray nl}):=by simpa[bH]using hp
    subst e;exact J6 (below b (Ee b hb)).2⟩
  rcases h with⟨stop,q⟩|⟨go,N,hN,step⟩
  ·refine dF (T.done (bH X scope cl tgs fr C fp s H) rfl rfl rfl hc i _ s3 _ H3 _ Vv (fY PF) NT stop) λ r s4 ⟨hr,I4⟩=>?_;subst hr;have pD:=I4.pin (D,{cls:=.type "list",data:=.seq av.toArray nl}) (by simp);have IX:Inv X pins σ H3 s4:=I.Qg (ch:=fp) I4.os I4.base I4.cp I4.bare λ b hb=>⟨(f b hb).2.2.2.1,(f b hb).2.1,(f b hb).2.2.2.2.1,(f b hb).2.2.2.2.2⟩;obtain⟨m4,Wx,_⟩:=I4.loc;exact fin D C s4 H3 acc av (G5 _) HJ MA IX I4.free pD.2.1 ⟨m4,Wx⟩ ⟨nl,pD.1⟩ Q4 hz q
  ·refine dF (T.item (bH X scope cl tgs fr C fp s H) rfl rfl rfl hc i _ s3 _ H3 _ Vv (fY PF) NT go) λ r s4 ⟨u,hr,h4⟩=>?_;subst hr;refine dF h4 λ _ s5 ⟨x,H5,I5,r5,y5,ED,TZ⟩=>?_;have Ur:=I5.pinned (fY TZ) (T.obj _ _ ED);refine toF hE (hg _ _ _ _ _ _ s5 _ H5 x u _ Ur r5 (gk x _ H5 _ (step x H5 y5))) λ _ s6 ⟨σ6,H6,I6,q6,SG,k6⟩=>?_;refine toF hE (ht _ _ _ _ _ _ s6 σ6 H6 _ I6 q6) λ ok s7 ⟨H7,I7,q7⟩=>?_;have wk:∀{H':Hp} {s':Shared} {pl:List (Addr×Obj)},Inv (bH X scope cl tgs fr C fp s H) pl σ6 H' s'->Inv (bH X scope cl tgs fr C fp s H) pl (eV tgs.length fr σ) H' s':=λ J=>
    J.weak SG.symm λ k v e=>by
     by_cases hk:tgs.length<=k
     ·rw[k6 k hk];exact e
     ·unfold eV at e;rw[c8 (by simpa using hk),i8,J8 (by omega)]at e;cases e
   cases ok with
   |false=>simp only[p7,J4]at q7 ⊢;obtain⟨m',hm,w7⟩:=hN _ _ q7;have pD:=I7.pin (D,{cls:=.type "list",data:=.seq av.toArray nl}) (by simp);refine⟨m',hm,i+1,acc,av,H7,wk (I7.eC (pins':=[]) λ p hp=>absurd hp (by simp)),T.keep _ _ _ ED λ b hb o e=>(I7.pin (b,o) (j9 _ (j9 _ (dP hb e)))).1,λ b hb=>?_,pD.2.1,⟨nl,pD.1⟩,Q4,w7⟩;obtain⟨o,e,d⟩:=T.obj _ _ ED b hb;exact(I7.pin (b,o) (j9 _ (j9 _ (dP hb e)))).2.1
   |true=>
    simp only[J7]at q7 ⊢;refine toF hE (he _ _ _ _ _ _ s7 σ6 H7 _ I7 q7) λ uy s8 ⟨y,H8,I8,r8,n8⟩=>?_;obtain⟨m',hm,w8⟩:=hN _ _ n8;have pD:=I8.pin (D,{cls:=.type "list",data:=.seq av.toArray nl}) (by simp);have hits:av.toArray.size<=sizeLine:=by have:=Q4.length;simp only[x8];omega
    refine wpAny_list_append_plain (hsz:=hits) (show s8.heap.PlainList D av.toArray from⟨nl,pD.1⟩) λ h9 Tr US=>?_;have I9:Inv (bH X scope cl tgs fr C fp s H) [] σ6 H8 {s8 with heap:=h9,toks:=s8.toks}:=
     (I8.eC (pins':=[]) λ p hp=>absurd hp (by simp)).turned (it:=D) (λ b o hb e=>US.extBut b o hb e) pD.2.1 MA (.inr (E4 PC)) X_ λ p hp=>absurd hp (by simp[bH])
    refine⟨m',hm,i+1,acc++[y],av++[uy],H8,wk I9,T.keep _ _ _ ED λ b hb o e=>US.extBut b o (below b (Ee b hb)).2 (I8.pin (b,o) (j9 _ (j9 _ (dP hb e)))).1,λ b hb=>?_,pD.2.1,?_,Q4.append (.cons r8 .nil),w8⟩
    ·obtain⟨o,e,d⟩:=T.obj _ _ ED b hb;exact(I8.pin (b,o) (j9 _ (j9 _ (dP hb e)))).2.1
    ·have e:(av++[uy]).toArray=av.toArray.push uy:=by simp
     rw[e];exact Tr
 exact codeAny_compStart_list (loop _ rfl) (T.self _ 0 _ _ _ Uu (loop _ rfl))
theorem iR(B:jd X scope fr)(hc:X.calm=true)(hE:∀e s,X.xe e s->False)(hi:PI X tg iter wi) (hg:∀cl C fp s H,PG (bH X scope cl tgs fr C fp s H) tg g) (gk:iB tgs.length g) (ht:∀cl C fp s H,NH (bH X scope cl tgs fr C fp s H) ifs tt) (he:∀cl C fp s H,PE (bH X scope cl tgs fr C fp s H) elt te) (hs:∀x,foldedSetIterable iter X.env x=pure x:=by intro _;rfl):PE X (.ListComp elt [⟨tg,iter,ifs,0⟩] scope pos) (lH wi g tt te tgs.length fr):=by intro pins s σ H Q I h;rw[eval_ListComp];have Nx:=fA (scope:=scope) (env:=X.env) λ n hn=>I.ok.has n (B.has n hn);refine wpAny_comprehension_free (use:=none) rfl hs Nx B.kind B.names (J3 (hi pins s σ H _ I h) (λ xv s1 h1=>J3 h1 (λ Rc s2 h2=>?_) λ _ _ e=>e) λ _ _ e=>e);obtain⟨it,fp,tn,J,H2,rfl,I2,T,NU,f2,W,⟨m0,w0⟩,turn⟩:=h2;refine oK (R:=λ acc C=>compPost (model X.prog X.w) X.A X.xe none (EP X pins σ Q) acc C) (Qe:=λ acc H=>∀p,H p=none->Q (.ref p) (upd H p (.lst acc))) B hc hE hg gk ht he I2 T NU f2 W m0 w0 turn ?_;intro D C s1 H1 acc av hD hC MA I1 nC nD ⟨m,hn⟩ hl rv hz q;refine⟨m,hn,λ h' jf=>?_⟩;have fC:=I2.iZ (b:=C) (H':=H1) hC nC;have fD:=I2.iZ (b:=D) (H':=H1) hD nD;have I3:Inv X pins σ H1 {s1 with heap:=h',toks:=s1.toks}:=I1.turned (it:=C) (λ b o hb e=>jf.extBut b o hb e) nC fC.2.1 fC.2.2.2.1 fC.2.2.2.2.1 fC.2.2.2.2.2;obtain⟨k,e⟩:=hl.extBut jf.extBut MA;exact⟨.ref D,upd H1 D (.lst acc),I3.lF nD ⟨hz,av,k,rv,e⟩ fD.2.1 (D9 I2.sz hD) fD.2.2.2.2.1 fD.2.2.2.2.2,rfl,q D nD⟩
theorem uD{i:Nat}{y:Str}{py qU:Pos}(hN:X.N.Nodup)(hiy:X.N[i]?=some y)(hy:Loc X.env.scope y)(B:jd X scope fr)(hc:X.calm=true)(hE:∀e s,X.xe e s->False)(hi:PI X tg iter wi) (hg:∀cl C fp s H,PG (bH X scope cl tgs fr C fp s H) tg g) (gk:iB tgs.length g) (ht:∀cl C fp s H,NH (bH X scope cl tgs fr C fp s H) ifs tt) (he:∀cl C fp s H,PE (bH X scope cl tgs fr C fp s H) elt te) (hsw:swapsWith (.ListComp elt [⟨tg,iter,ifs,0⟩] scope pos) (some (.Name y py)) qU.line X.env=pure true:=by rfl) (hf:X.fn y=true\/X.env.scope.names.lookup y=some .local:=by first|exact .inl rfl|exact .inr rfl|assumption) (hs:∀x,foldedSetIterable iter X.env x=pure x:=by intro _;rfl):PS X (.Assign [.Name y py] (.ListComp elt [⟨tg,iter,ifs,0⟩] scope pos) qU) (Ez (lH wi g tt te tgs.length fr) (cB i)):=by
 intro pins s σ H D0 I h;rw[exec_Assign_Name_used _ _ _ _ hsw];have Nx:=fA (scope:=scope) (env:=X.env) λ n hn=>I.ok.has n (B.has n hn);refine H0 (wpAny_standAt (H0 ?_));show wpAny _ X.A (do let _ <- comprehension (.ListComp elt [⟨tg,iter,ifs,0⟩] scope pos) scope X.env _ (newList []) false (eval iter X.env) (some (assign (.Name y py) X.env))) _ _ s;refine H0 (J3 (wpAny_comprehension_free (use:=some (assign (.Name y py) X.env)) (Q:=λ _ s'=>SP X pins D0 .next s') rfl hs Nx B.kind B.names
  (J3 (hi pins s σ H _ I h) (λ xv s1 h1=>J3 h1 (λ Rc s2 h2=>?_) λ _ _ e=>e) λ _ _ e=>e)) (λ _ s' hq=>H9 (H9 hq)) λ _ _ e=>e)
 obtain⟨it,fp,tn,J,H2,rfl,I2,T,NU,f2,W,⟨m0,w0⟩,turn⟩:=h2;refine oK (R:=λ acc C=>compPost (model X.prog X.w) X.A X.xe (some (assign (.Name y py) X.env)) (λ _ s'=>SP X pins D0 .next s') acc C) (Qe:=λ acc H=>∀p,H p=none->cB i (.ref p) σ (upd H p (.lst acc)) D0.nx) B hc hE hg gk ht he I2 T NU f2 W m0 w0 turn ?_;intro D C s1 H1 acc av hD hC MA I1 nC nD ⟨m,hn⟩ hl rv hz q;have fC:=I2.iZ (b:=C) (H':=H1) hC nC;have fD:=I2.iZ (b:=D) (H':=H1) hD nD;obtain⟨k,e⟩:=hl;have I3:Inv X pins σ (upd H1 D (.lst acc)) s1:=I1.lF nD ⟨hz,av,k,rv,e⟩ fD.2.1 (D9 I2.sz hD) fD.2.2.2.2.1 fD.2.2.2.2.2;show wpAny _ X.A (assign (.Name y py) X.env (.ref D)) _ _ s1;refine wpAny_assign_Name (n_ I3 hN hiy hy (show RelV (.ref D) (.ref D)from rfl) (λ s2 J2 ⟨a,Je,ha⟩=>?_) hf);have aC:C≠a:=by
  rcases ha with z|z
  ·rw[z];exact fC.2.1
  ·exact J6 (fC.2.2.2.2.1 _ _ z)
 refine⟨m,hn.sameBut Je aC,λ h' jf=>?_⟩;have V1:(upd H1 D (.lst acc)) C=none:=by rw[bg (J6 MA)];exact nC
 have I4:Inv X pins (σ.set i (some (.ref D))) (upd H1 D (.lst acc)) {s2 with heap:=h',toks:=s2.toks}:=J2.turned (it:=C) (λ b o hb e=>jf.extBut b o hb e) V1 fC.2.1 fC.2.2.2.1 fC.2.2.2.2.1 fC.2.2.2.2.2;exact⟨_,_,I4,q D nD⟩
end
end L2
namespace L2
open PySem PySem.Spec PyProof.Rows
def nK(x:Str)(lo hi:Option Int):Str:=⟨((x.cps.toList.drop (HT.cf x.length 0 lo)).take (HT.cf x.length x.length hi - HT.cf x.length 0 lo)).toArray⟩
theorem HV(x:Str)(lo hi:Option Int):(nK x lo hi).length<=x.length:=by show((x.cps.toList.drop (HT.cf x.length 0 lo)).take (HT.cf x.length x.length hi - HT.cf x.length 0 lo)).toArray.size<=x.cps.size;rw[x8,A0,length_drop,m8];omega
theorem Ah(lo hi:Option Int)(n:Nat):Builtin.Str.strSliceIndices lo hi 1 n=sliceRange ((HT.cf n 0 lo:Nat):Int) ((HT.cf n n hi:Nat):Int) 1:=by obtain⟨h1,h2,h3⟩:=iI lo hi n;rw[<- h1,<- h2];rfl
set_option tactic.hygienic true in
theorem yu(x:Str)(lo hi:Option Int):Txt.slice x lo hi=nK x lo hi:=by
 have e:((Builtin.Str.strSliceIndices lo hi 1 x.length).filterMap (x.cps[·]?)).toArray=(nK x lo hi).cps:=by rw[Ah,sliceRange_one,pick_run];rfl
 unfold Txt.slice;split
 ·rename_i h;have hl:(Builtin.Str.strSliceIndices lo hi 1 x.length).length=x.length:=by simpa using h
  rw[Ah,sliceRange_one,B5,x6]at hl;have b1:=HT.uo x.length 0 (G7 _) lo;have b2:=HT.uo x.length x.length (G5 _) hi;have hlen:x.cps.toList.length=x.length:=by simp[Str.length]
  unfold nK;by_cases h0:x.length=0
  ·have:x.cps.toList=[]:=j0.mp (by omega);rw[this];cases x with
   |mk c=>simp at this;subst this;simp
  ·have ea:HT.cf x.length 0 lo=0:=by omega
   have eb:HT.cf x.length x.length hi=x.length:=by omega
   rw[ea,eb,drop_zero,Nat.sub_zero,take_of_length_le (by omega)]
 ·exact J5 Str.mk e
section
variable {X:Cx}
def Se:V->Option Int->Option Int->Hp->VK->Prop:=λ x lo hi H Q=>∃z,x=.str z/\z.length<=sizeLine/\Q (.str (nK z lo hi)) H
theorem uW{h:Heap}{sl:Addr}{vl vu:Value}{lo hi:Option Int}(hs:h.IsSliceOf sl vl vu .none)(pl:IsPart vl lo)(pu:IsPart vu hi):∃l u:Option (Int×Tok),h.IsSlice sl l u none/\l.map (·.1)=lo/\u.map (·.1)=hi:=by
 cases pl with
 |none=>
  cases pu with
  |none=>exact⟨none,none,hs,rfl,rfl⟩
  |int i t=>exact⟨none,some (i,t),hs,rfl,rfl⟩
 |int i t=>
  cases pu with
  |none=>exact⟨some (i,t),none,hs,rfl,rfl⟩
  |int j u=>exact⟨some (i,t),some (j,u),hs,rfl,rfl⟩
theorem JX:xQ X Se:=by intro pins s σ H x v vl vu lo hi sl Q I rx hs pl pu h;obtain⟨z,rfl,hz,q⟩:=h;obtain⟨t,rfl⟩:=rx;obtain⟨l,u,Ea,rfl,rfl⟩:=uW hs pl pu;refine⟨"str",_,PySem.F.slot_str_getitem.lookup,typeIs_str _ _ _,wpAny_getItem_str_slice (l:=l) (u:=u) (st:=none) Ea rfl ?_⟩;rw[<- yu]at q;exact post_val_or_str ⟨D9 (Txt.slice_le z _ _) hz,λ t' k=>⟨.str (Txt.slice z (l.map (·.1)) (u.map (·.1))),H,I.tok k,⟨_,rfl⟩,q⟩⟩
theorem ue{ys:List Str}:∀{us:List Value},Vals (ys.map V.str) us->StrsAre us ys:=by
 induction ys with
 |nil=>intro us r;rw[E5]at r;cases r;exact .nil
 |cons n ns ih=>
  intro us r;rw[C9]at r;cases r with
  |cons r1 r2=>obtain⟨t,e⟩:=r1;subst e;exact .cons n t (ih r2)
def rJoin(K:K2):V->List V->Hp->VK->Prop:=λ x vs H Q=>∃(z:Str) (p:Addr) (ys:List Str),x=.str z/\vs=[.ref p]/\dn K H p (ys.map V.str)/\(ys.map (·.length)).sum+ys.length*z.length<=16777216/\Q (.str (Txt.join z ys)) H
theorem GV:Ui X "str.join" (rJoin X.K):=by intro pins s σ H x xs v us Q I rx r h;obtain⟨z,p,ys,rfl,rfl,hq,hz,q⟩:=h;obtain⟨t,rfl⟩:=rx;obtain⟨u,rfl,r1⟩:=Vals.one r;cases r1;obtain⟨av,rv,pl,_⟩:=I.list hq;exact join_list pl.isList (by simpa using ue rv) hz λ t' k=>⟨.str (Txt.join z ys),H,I.tok k,⟨_,rfl⟩,q⟩
def Oc:R2:=λ x y H Q=>∃z n,x=.str z/\y=.int n/\MulOk z n/\Q (.str (Txt.mul z n)) H
theorem uK:fF X (binaryOp .Mult) Oc:=by intro pins s σ H x y v u Q I rx ry h;obtain⟨z,n,rfl,rfl,cp,q⟩:=h;obtain⟨t,rfl⟩:=rx;obtain⟨t',rfl⟩:=ry;exact SB.mul cp λ t' k=>⟨.str (Txt.mul z n),H,I.tok k,⟨_,rfl⟩,q⟩
theorem sY(hc:X.calm=true):cW X (.builtin "all") (λ xs H Q=>∃(p:Addr) (bs:List Bool),xs=[.ref p]/\dn X.K H p (bs.map V.bl)/\Q (.bl (bs.all id)) H):=by
 intro pins s σ H xs us Q I r h;obtain⟨p,bs,rfl,hq,q⟩:=h;obtain⟨u,rfl,r1⟩:=vals1 r;cases r1;obtain⟨av,rv,pl,hz⟩:=I.list hq;refine call_all_walk (x5 pl.isList ?_);have dj:p≠s.heap.objs.size:=by obtain⟨o,n,e,_⟩:=pl;exact D5 (D6 e)
 have hlen:av.length=bs.length:=by rw[<- rv.length,B5]
 refine⟨s.heap.objs.size,_,_,_,_,_,λ i=>(bs[i]?).getD false,rfl,Walks.list (A:=X.A.in1) (show X.A.in1.handled=none from I.ok.hd hc) s.heap.objs.size p dj av.toArray,⟨⟨_,m9 _ rfl,rfl,rfl⟩,pl.isList.at λ o e=>j5 _ e⟩,?_,λ h' tk hk=>?_⟩
 ·intro i v s' Q' E' hP hQ;have Jl:av[i]?=some v:=by simpa using hP
  have hi:i < bs.length:=by rw[<- hlen];exact(g9.mp Jl).1
  have hb:(bs.map V.bl)[i]?=some (V.bl bs[i]):=by simp[hi]
  obtain⟨u,hu,ru⟩:=rv.get hb;rw[Jl]at hu;cases hu;have e:v=Value.bool bs[i]:=ru;subst e;have:(bs[i]?).getD false=bs[i]:=by simp[hi]
  dsimp only at hQ;rw[this]at hQ;exact x4 hQ
 ·refine⟨.bl (bs.all id),H,I.kept (t':=tk) λ b o e=>hk b o (by simpa using D5 (D6 e)) (j5 _ e),?_,q⟩;show Value.bool _=Value.bool _;congr 1;rw[x8,hlen];rw[A5];simp only[List.all_eq_true,mem_range,id];constructor
  ·intro h b hb;obtain⟨i,hi,rfl⟩:=mem_iff_getElem.mp hb;have:=h i hi;simpa[hi]using this
  ·intro h i hi;simpa[hi]using h bs[i] (A1 hi)
end
def NI(x:Str):It:=⟨λ i _=>i < x.cps.size,λ i H v H'=>H'=H/\∃c,x.cps[i]?=some c/\v=.str ⟨#[c]⟩,λ i _=>i=x.cps.size⟩
theorem qN{P:Program}{w:World}{K:K2}{tg:Expr}(it:Addr)(x:Str)(t:Tok)(ty:String)(hty:["enumerate","zip","dict_itemiterator","dict_reverseitemiterator","odict_iterator","itertools.zip_longest","itertools.pairwise"].contains ty=false) (W:∀A':Around,A'.handled=none->Walks P w A' it [it] [it] x.cps.size (SignAt x) (λ i h=>h.IsStrIter it ty x t i)) (self:∀(A:Around) (i:Nat) (s:Shared) (Q:Value->Shared->Prop) (E:Value->Shared->Prop),s.heap.IsStrIter it ty x t i->Q (.ref it) s->wpAny (model P w) A (pyIter (.ref it)) Q E s):Turn P w K tg (NI x) [it] it (λ i h=>h.IsStrIter it ty x t i) where
 mem:=by simp
 obj:=λ i h st b hb=>by
  have e:b=it:=by simpa using hb
  subst e;obtain⟨o,e,c,d⟩:=st;exact⟨o,e,λ v z=>by rw[d]at z;cases z⟩
 keep:=λ i h h' st k=>by obtain⟨o,e,c,d⟩:=st;exact⟨o,k it (by simp) o e,c,d⟩
 item:=by intro X hP hw hK hc i pins s σ H E I hf st hg;subst hP hw hK;obtain⟨f0,f1,f2,f3,f4,f5⟩:=hf it (by simp);refine(W X.A (I.ok.hd hc)).item i s _ _ hg st λ v h' tk hv og kk=>?_;obtain⟨c,u,hx,rfl⟩:=hv;have I1:Inv X pins σ H {s with heap:=h',toks:=tk}:=I.turned (λ b o hb e=>kk b o (by simpa using hb) e) f0 f1 f3 f4 f5;obtain⟨o,e,cc,d⟩:=id og;exact⟨_,rfl,xp (s:={s with heap:=h',toks:=tk}) e cc d hty ⟨.str ⟨#[c]⟩,H,I1,⟨u,rfl⟩,⟨rfl,c,hx,rfl⟩,og,λ b hb=>(hf b hb).1⟩⟩
 done:=by intro X hP hw hK hc i pins s σ H E I hf st hg;subst hP hw hK;obtain⟨f0,f1,f2,f3,f4,f5⟩:=hf it (by simp);have hg:i=x.cps.size:=hg;subst hg;exact(W X.A (I.ok.hd hc)).done s _ _ st λ h' tk kk=>⟨rfl,I.turned (λ b o hb e=>kk b o (by simpa using hb) e) f0 f1 f3 f4 f5⟩
 self:=self
end L2
namespace L2
open PySem PySem.Spec PyProof.Rows
section
variable {X:Cx}
theorem xS.imp {r r':R2}(h:xS X r)(k:∀x y H Q,r' x y H Q->r x y H Q):xS X r':=λ value slice pins s σ H x y v u Q I rx ry q=>h value slice pins s σ H x y v u Q I rx ry (k x y H Q q)
theorem xQ.imp {r r':V->Option Int->Option Int->Hp->VK->Prop}(h:xQ X r)(k:∀x lo hi H Q,r' x lo hi H Q->r x lo hi H Q):xQ X r':=
 λ pins s σ H x v vl vu lo hi sl Q I rx hs pl pu q=>h pins s σ H x v vl vu lo hi sl Q I rx hs pl pu (k x lo hi H Q q)
def Yu(K:K2):R2:=λ x y H Q=>match x,y with
 | .ref p,.int i=>∃xs v,(dn K H p xs\/fE K H p xs)/\eW xs i=some v/\Q v H
 | .str z,.int i=>z.length<=sizeLine/\∃c,eW z.cps.toList i=some c/\Q (.str ⟨#[c]⟩) H
 |_,_=>False
theorem aL:xS X (Yu X.K):=Mm.imp λ x y H Q q=>by
 cases x <;> cases y <;> first
  |exact False.elim q
  |(obtain⟨xs,v,h|h,e,q⟩:=q
    ·exact .inl ⟨_,xs,_,v,rfl,rfl,h,e,q⟩
    ·exact .inr (.inl ⟨_,xs,_,v,rfl,rfl,h,e,q⟩))
  |(obtain⟨hz,c,e,q⟩:=q
    exact .inr (.inr ⟨_,_,c,rfl,rfl,hz,e,q⟩))
def Yt(K:K2):V->Option Int->Option Int->Hp->VK->Prop:=λ x lo hi H Q=>match x with
 | .str z=>z.length<=sizeLine/\Q (.str (nK z lo hi)) H
 | .ref a=>Oa K (.ref a) lo hi H Q\/N' K (.ref a) lo hi H Q
 |_=>False
theorem h_:xQ X (Yt X.K):=(JX.or (EI.or JW)).imp λ x lo hi H Q q=>by cases x <;> first|exact False.elim q|exact .inl ⟨_,rfl,q⟩|exact .inr q
end
end L2
namespace L2
open PySem PySem.Spec PyProof.Rows
structure bJ(P:Program)(w:World)(K:K2)(mg:Str->Option Value)(base:Heap)(k:Nat)(x:Str)(ps:List Str)(sp:Sp):Prop where
 ex:∃(f:Addr) (fd:FuncData),bZ P w K mg base fc k f fd ps sp/\mg x=some (.ref f)/\PySem.W.keepIn K (.ref f)=true/\Binds K fd ps []
theorem bJ.of {P:Program}{w:World}{K:K2}{mg:Str->Option Value}{base:Heap}{k:Nat}{x qual:Str}{ps:List Str}{sp:Sp}{st:Stmt}{f:Addr}{fd:FuncData}(F:f_ K x qual st f fd)(G:bZ P w K mg base fc k f fd ps sp)(hm:mg x=some (.ref f))(b:Binds K fd ps []):bJ P w K mg base k x ps sp:=⟨f,fd,G,hm,F.kp,b⟩
def tD(sp:Sp)(t:TA):TE:=λ σ H Q=>t σ H λ vs H1=>sp vs H1 Q E0
section
variable {X:Cx}{x:Str}{p pos:Pos}{e:Expr}{es:List Expr}{t:TA}{k j:Nat}{ps:List Str}{sp:Sp}
theorem Ls(d:bJ X.prog X.w X.K X.mg X.base k x ps sp)(hr:dh k X.A)(hg:Gl X x)(ha:PA X (e::es) t)(hdb:(x==("__debug__":Str))=false:=by decide)(he:starEach (e::es) X.env=(false,eval e X.env)::starEach es X.env:=by rfl) (hpl:(backTo pos (starEach es X.env)).any (·.1)=false:=by rfl):PE X (.Call (.Name x p) (e::es) [] pos) (tD sp t):=by
 obtain⟨f,fd,G,hm,kp,b⟩:=d.ex;intro pins s σ H Q I h;have h':Iv sp [] E0 t σ H Q:=by
  show t σ H λ vs H1=>sp (vs++[]) H1 Q E0;have e:(λ(vs:List V) (H1:Hp)=>sp (vs++[]) H1 Q E0)=λ vs H1=>sp vs H1 Q E0:=by funext vs H1;rw[A6]
  rw[e];exact h
 exact Gq (E:=E0) G hr hg hm kp b .nil OB ha hdb he hpl pins s σ H Q I h'
end
def tj(X:Cx)(scope:Scope)(fr:List Nat):Bool:=
 (scope.kind==.function)&&(scope.names.all λ y=>(y.2 != .cell||scope.names.lookup y.1==some .cell)&&(y.2 != .local||scope.names.lookup y.1==some .local)&&(y.2 != .free||X.env.kindOf y.1==some .cell||X.env.kindOf y.1==some .free))&&
 (fr.all λ j=>decide (j < X.N.length)&&scope.names.lookup (X.N.getD j "")==some .free)
theorem aS{X:Cx}{scope:Scope}{fr:List Nat}(h:tj X scope fr=true):jd X scope fr:=by
 unfold tj at h;rw[z9,z9]at h;obtain⟨⟨h1,h2⟩,h3⟩:=h;rw[List.all_eq_true]at h2 h3;refine⟨by simpa using h1,λ y hy hl=>?_,λ y hy hl=>?_,λ n hn=>?_,λ j hj=>?_⟩
 ·have:=h2 y hy;simp only[z9]at this;have:=this.1.1;rw[hl]at this;simpa using this
 ·have:=h2 y hy;simp only[z9]at this;have:=this.1.2;rw[hl]at this;simpa using this
 ·have:=h2 _ hn;simp only[z9]at this;have:=this.2;simpa using this
 ·have:=h3 j hj;rw[z9]at this;exact⟨by simpa using this.1,by simpa using this.2⟩
section
variable {X:Cx}{tg:Expr}
def SN(K:K2)(tl:TE):TI:=λ σ H R=>tl σ H λ x H1=>match x with
 | .str z=>R (NI z) H1
 | .ref a=>(∃xs,dn K H1 a xs/\R (RH K a) H1)\/(∃xs,fE K H1 a xs/\R (Um K a) H1)
 |_=>False
theorem Lk{l:Expr}{tl:TE}(hl:PE X l tl):PI X tg l (SN X.K tl):=by
 intro pins s σ H R I h;have zL:PE X l (λ σ' H' Q=>Q=Q/\tl σ' H' Q):=λ pins s σ H Q I q=>hl pins s σ H Q I q.2;refine dF (hl pins s σ H _ I h) λ v s1 ⟨x,H1,I1,r1,q1⟩=>?_;have fp:∀b∈[s1.heap.objs.size],iC X pins H1 b:=λ b hb=>by
  have e:b=s1.heap.objs.size:=by simpa using hb
  subst e;exact I1.iZ (G5 _) (I1.cp.fresh (G5 _))
 cases x with
 |str z=>
  have q:R (NI z) H1:=q1;obtain⟨t,rfl⟩:=r1;cases ha:z.cps.all (· < 128)
  ·exact wpAny_pyIter_wide ha ⟨s1.heap.objs.size,[s1.heap.objs.size],_,NI z,H1,rfl,I1.kept (t':=s1.toks) λ b o e=>j5 _ e,qN _ z t "str_iterator" (by decide) (λ A' hA=>Walks.strWide hA _ z t) (λ _ _ _ _ _ st h=>wpAny_pyIter_striter_wide st h),⟨_,m9 _ rfl,rfl,rfl⟩,fp,q⟩
  ·exact wpAny_pyIter_ascii ha ⟨s1.heap.objs.size,[s1.heap.objs.size],_,NI z,H1,rfl,I1.kept (t':=s1.toks) λ b o e=>j5 _ e,qN _ z t "str_ascii_iterator" (by decide) (λ A' hA=>Walks.strAscii hA _ z t) (λ _ _ _ _ _ st h=>wpAny_pyIter_striter_ascii st h),⟨_,m9 _ rfl,rfl,rfl⟩,fp,q⟩
 |ref a=>
  cases(show v=Value.ref a from r1);rcases q1 with⟨xs,hq,q⟩|⟨xs,hq,q⟩
  ·obtain⟨av,rv,p,hz⟩:=I1.list hq;exact x5 p.isList ⟨s1.heap.objs.size,[s1.heap.objs.size],_,_,H1,rfl,I1.kept (t':=s1.toks) λ b o e=>j5 _ e,yj a _,⟨_,m9 _ rfl,rfl,rfl⟩,fp,q⟩
  ·obtain⟨av,rv,p,hz⟩:=I1.tuple hq;exact wpAny_pyIter_tuple (show s1.heap.IsTuple a av.toArray from p) ⟨s1.heap.objs.size,[s1.heap.objs.size],_,_,H1,rfl,I1.kept (t':=s1.toks) λ b o e=>j5 _ e,t_ a _,⟨_,m9 _ rfl,rfl,rfl⟩,fp,q⟩
 |_=>exact False.elim q1
end
end L2
namespace L2
open PySem PySem.Spec PyProof.Rows
inductive IK where
 |i (n:Int)
 |t (ks:List IK)
mutual
def IK.dep:IK->Nat
 | .i _=>0
 | .t ks=>IK.PX ks+1
def IK.PX:List IK->Nat
 |[]=>0
 |k::ks=>max k.dep (IK.PX ks)
end
mutual
def UH:IK->Int
 | .i n=>hashInt n
 | .t ks=>reduceHash (Builtin.Tuple.tupleHashOf (OW ks))
def OW:List IK->List Int
 |[]=>[]
 |k::ks=>UH k::OW ks
end
end L2
namespace L2
open PySem PySem.Spec PyProof.Rows
section
variable {P:Program}{w:World}{H:Hp}{h:Heap}{a:Addr}
theorem N8{u:HO}(ok:jH P w H h)(e:Rd H a u):cg P w H h a u:=e.ok ok
theorem PR{kvs:List (Key×V)}(ok:jH P w H h)(e:Rd H a (.dK kvs)):kvs.length<=sizeLine/\(a==sysModules)=false/\∃vs,KV kvs vs/\h.DictOf (eT P w) a vs:=
 show cg P w H h a (.dK kvs)from N8 ok e
theorem PU{kvs:List (Key×V)}(ok:jH P w H h)(e:H a=some (.dK kvs)):kvs.length<=sizeLine/\(a==sysModules)=false/\∃vs,KV kvs vs/\h.DictOf (eT P w) a vs:=PR ok (.inl e)
end
end L2
namespace L2
open PySem PySem.Spec PyProof.Rows
abbrev DR:=IK×Addr×V
def T4(x:IK×Addr×Value):DictEntry:=⟨UH x.1,.ref x.2.1,x.2.2⟩
abbrev Yw:List DR->List (IK×Addr×Value)->Prop:=Paired λ p q=>p.1=q.1/\p.2.1=q.2.1/\RelV p.2.2 q.2.2
def XR(a:Addr)(kvs:List DR)(h:Heap):Prop:=kvs.length<=sizeLine/\(a==sysModules)=false/\∃xs,Yw kvs xs/\∃o es ep,h.get? a=some o/\o.ExactDict/\o.data=.dict es ep/\es.toList=xs.map T4/\(xs.map (·.1)).Nodup
def XQ(a:Addr)(kvs:List DR):HO:=.ext (XR a kvs)
end L2
namespace L2
open PySem PySem.Spec PyProof.Rows
structure Vu where
 qual:Str
 params:Arguments
 body:Expr
 scope:Scope
 pm:Value
abbrev SH(f:Addr)(L:Vu)(c:Addr)(cl:List (Str×Addr)):Heap->Prop:=λ h=>∃X9,h.get? f=some (PySem.W.kla_obj "<lambda>" L.qual L.params L.body L.scope cl L.pm c X9)
abbrev Qd(c:Addr)(q:Str):Heap->Prop:=λ h=>h.CodeRec (.ref c) q
abbrev T_(c:Addr)(v:V):Heap->Prop:=λ h=>∃u,RelV v u/\h.IsCell c (some u)
abbrev T'(o:Obj)(c:Addr)(v:V):HO:=.gB o (.gB o (.ext (T_ c v)))
def RQ(cs:List (Pos×Addr)):List Value:=cs.flatMap λ p=>[rawInt p.1.line,rawInt p.1.col,.ref p.2]
def Ql(H:Hp)(P:Addr)(q:Str):Prop:=∃cs:List (Pos×Addr),H P=some (.zJ (RQ cs).toArray)/\∀p∈cs,∃o,H p.2=some (.gB o (.ext (Qd p.2 q)))
section
variable {X:Cx}{pins:List (Addr×Obj)}{σ:St}{H:Hp}{s:Shared}
theorem Ql.grow {H H':Hp}{P:Addr}{q:Str}(t:Ql H P q)(k:∀b o u,H b=some (.gB o u)->H' b=some (.gB o u))(e:H' P=H P):Ql H' P q:=by obtain⟨cs,h1,h2⟩:=t;exact⟨cs,e.trans h1,λ p hp=>let⟨o,z⟩:=h2 p hp;⟨o,k _ _ _ z⟩⟩
end
end L2
namespace L3
open PySem PySem.Spec L2
inductive D where
 |bM|bl (b:Bool)|int (i:Int)|str (x:Str)|ty (n:String)|ref (a:Addr)
 |tup (xs:List D)
 |fl (xs:List D)
def Ek(K:K2)(H:Hp)(p:Addr)(xs:List V):Prop:=
 (∃o,H p=some (.gB o (.lst xs)))\/∃(o:Obj) (av:Array Value) (n:Nat),K.lookup p=some o/\o.cls=.type "list"/\o.dict=none/\o.data=.seq av n/\av.size<=sizeLine/\Vals xs av.toList
theorem Ek.sq {K:K2}{H:Hp}{p:Addr}{xs:List V}(h:Ek K H p xs):dn K H p xs:=by
 rcases h with h|h
 ·exact .inl (.inr h)
 ·exact .inr h
mutual
def Dat(K:K2)(H:Hp):D->V->Prop
 | .bM,v=>v=.bM
 | .bl b,v=>v=.bl b
 | .int i,v=>v=.int i
 | .str x,v=>v=.str x
 | .ty n,v=>v=.ty n
 | .ref a,v=>v=.ref a
 | .tup ds,v=>∃p xs,v=.ref p/\fE K H p xs/\aB K H ds xs
 | .fl ds,v=>∃p xs,v=.ref p/\Ek K H p xs/\aB K H ds xs
def aB(K:K2)(H:Hp):List D->List V->Prop
 |[],xs=>xs=[]
 |d::ds,xs=>∃x r,xs=x::r/\Dat K H d x/\aB K H ds r
end
structure aw(H H':Hp):Prop where
 tup:∀b xs,H b=some (.tup xs)->H' b=some (.tup xs)
 gB:∀b o u,H b=some (.gB o u)->H' b=some (.gB o u)
theorem aw.refl (H:Hp):aw H H:=⟨λ _ _ h=>h,λ _ _ _ h=>h⟩
theorem aw.trans {H H1 H2:Hp}(a:aw H H1)(b:aw H1 H2):aw H H2:=⟨λ c xs h=>b.tup c xs (a.tup c xs h),λ c o u h=>b.gB c o u (a.gB c o u h)⟩
theorem aw.laid {H:Hp}{p:Addr}{o:HO}(h:H p=none):aw H (upd H p o):=
 ⟨λ b xs e=>by rw[bg (ck e h)];exact e,λ b ob u e=>by rw[bg (ck e h)];exact e⟩
theorem aw.lst {H:Hp}{p:Addr}{xs:List V}{o:HO}(h:H p=some (.lst xs)):aw H (upd H p o):=
 ⟨λ b ys e=>by rw[bg (a_ e h (by intro z;cases z))];exact e,λ b ob u e=>by rw[bg (a_ e h (by intro z;cases z))];exact e⟩
structure DQ(H H':Hp):Prop where
 tup:∀b xs,H b=some (.tup xs)->H' b=some (.tup xs)
 ft:∀b o xs,H b=some (.gB o (.tup xs))->H' b=some (.gB o (.tup xs))
 fl:∀b o xs,H b=some (.gB o (.lst xs))->H' b=some (.gB o (.lst xs))
theorem aw.sub {H H':Hp}(t:aw H H'):DQ H H':=⟨t.tup,λ b o _=>t.gB b o _,λ b o _=>t.gB b o _⟩
theorem wc{K:K2}{H H':Hp}(t:DQ H H'){p:Addr}{xs:List V}(h:fE K H p xs):fE K H' p xs:=by
 rcases h with(h|⟨o,h⟩)|h
 ·exact .inl (.inl (t.tup _ _ h))
 ·exact .inl (.inr ⟨o,t.ft _ _ _ h⟩)
 ·exact .inr h
theorem xt{K:K2}{H H':Hp}(t:DQ H H'){p:Addr}{xs:List V}(h:Ek K H p xs):Ek K H' p xs:=by
 rcases h with⟨o,h⟩|h
 ·exact .inl ⟨o,t.fl _ _ _ h⟩
 ·exact .inr h
theorem Ak{K:K2}{H H':Hp}(t:aw H H'){p:Addr}{xs:List V}(h:fE K H p xs):fE K H' p xs:=wc t.sub h
theorem Dg{K:K2}{H H':Hp}(t:aw H H'){p:Addr}{xs:List V}(h:Ek K H p xs):Ek K H' p xs:=xt t.sub h
mutual
theorem Dat.mon {K:K2}{H H':Hp}(t:DQ H H'):∀(d:D) {v:V},Dat K H d v->Dat K H' d v
 | .bM,v,h=>by unfold Dat at h ⊢;exact h
 | .bl b,v,h=>by unfold Dat at h ⊢;exact h
 | .int i,v,h=>by unfold Dat at h ⊢;exact h
 | .str x,v,h=>by unfold Dat at h ⊢;exact h
 | .ty n,v,h=>by unfold Dat at h ⊢;exact h
 | .ref a,v,h=>by unfold Dat at h ⊢;exact h
 | .tup ds,v,h=>by unfold Dat at h ⊢;obtain⟨p,xs,e,q,r⟩:=h;exact⟨p,xs,e,wc t q,aB.mon t ds r⟩
 | .fl ds,v,h=>by unfold Dat at h ⊢;obtain⟨p,xs,e,q,r⟩:=h;exact⟨p,xs,e,xt t q,aB.mon t ds r⟩
theorem aB.mon {K:K2}{H H':Hp}(t:DQ H H'):∀(ds:List D) {xs:List V},aB K H ds xs->aB K H' ds xs
 |[],xs,h=>by unfold aB at h ⊢;exact h
 |d::ds,xs,h=>by unfold aB at h ⊢;obtain⟨x,r,e,a,b⟩:=h;exact⟨x,r,e,Dat.mon t d a,aB.mon t ds b⟩
end
theorem Dat.mono {K:K2}{H H':Hp}(t:aw H H')(d:D){v:V}(h:Dat K H d v):Dat K H' d v:=Dat.mon t.sub d h
theorem aB.mono {K:K2}{H H':Hp}(t:aw H H')(ds:List D){xs:List V}(h:aB K H ds xs):aB K H' ds xs:=aB.mon t.sub ds h
section
variable {K:K2}{H:Hp}
theorem eG{v:V}:Dat K H .bM v↔v=.bM:=by unfold Dat;exact Iff.rfl
theorem bq{b:Bool}{v:V}:Dat K H (.bl b) v↔v=.bl b:=by unfold Dat;exact Iff.rfl
theorem ax{i:Int}{v:V}:Dat K H (.int i) v↔v=.int i:=by unfold Dat;exact Iff.rfl
theorem aY{x:Str}{v:V}:Dat K H (.str x) v↔v=.str x:=by unfold Dat;exact Iff.rfl
theorem vm{n:String}{v:V}:Dat K H (.ty n) v↔v=.ty n:=by unfold Dat;exact Iff.rfl
theorem aE{a:Addr}{v:V}:Dat K H (.ref a) v↔v=.ref a:=by unfold Dat;exact Iff.rfl
theorem aU{ds:List D}{v:V}:Dat K H (.tup ds) v↔∃p xs,v=.ref p/\fE K H p xs/\aB K H ds xs:=by rw[Dat]
theorem il{ds:List D}{v:V}:Dat K H (.fl ds) v↔∃p xs,v=.ref p/\Ek K H p xs/\aB K H ds xs:=by rw[Dat]
theorem aq{xs:List V}:aB K H [] xs↔xs=[]:=by unfold aB;exact Iff.rfl
theorem ag{d:D}{ds:List D}{xs:List V}:aB K H (d::ds) xs↔∃x r,xs=x::r/\Dat K H d x/\aB K H ds r:=by rw[aB]
theorem aB.length:∀{ds:List D} {xs:List V},aB K H ds xs->xs.length=ds.length
 |[],xs,h=>by rw[aq]at h;subst h;rfl
 |d::ds,xs,h=>by rw[ag]at h;obtain⟨x,r,rfl,_,q⟩:=h;rw[y4,y4,q.length]
theorem aB.get:∀{ds:List D} {xs:List V} {i:Nat} {d:D},aB K H ds xs->ds[i]?=some d->∃x,xs[i]?=some x/\Dat K H d x
 |[],xs,i,d,h,e=>by simp at e
 |d0::ds,xs,i,d,h,e=>by
  rw[ag]at h;obtain⟨x,r,rfl,a,q⟩:=h;cases i with
  |zero=>simp at e;subst e;exact⟨x,rfl,a⟩
  |succ i=>obtain⟨y,h1,h2⟩:=aB.get q (by simpa using e);exact⟨y,by simpa using h1,h2⟩
theorem aB.vf:∀{ds:List D} {xs:List V} {i:Nat} {x:V},aB K H ds xs->xs[i]?=some x->∃d,ds[i]?=some d/\Dat K H d x
 |[],xs,i,x,h,e=>by rw[aq]at h;subst h;simp at e
 |d0::ds,xs,i,x,h,e=>by
  rw[ag]at h;obtain⟨y,r,rfl,a,q⟩:=h;cases i with
  |zero=>simp at e;subst e;exact⟨d0,rfl,a⟩
  |succ i=>obtain⟨d,h1,h2⟩:=aB.vf q (by simpa using e);exact⟨d,by simpa using h1,h2⟩
theorem aB.append:∀{ds es:List D} {xs ys:List V},aB K H ds xs->aB K H es ys->aB K H (ds++es) (xs++ys)
 |[],es,xs,ys,h,q=>by rw[aq]at h;subst h;exact q
 |d::ds,es,xs,ys,h,q=>by rw[ag]at h;obtain⟨x,r,rfl,a,b⟩:=h;rw[cons_append,cons_append,ag];exact⟨x,_,rfl,a,b.append q⟩
theorem aB.one {d:D}{v:V}(h:Dat K H d v):aB K H [d] [v]:=by rw[ag];exact⟨v,[],rfl,h,by rw[aq]⟩
theorem aB.take:∀{ds:List D} {xs:List V} (n:Nat),aB K H ds xs->aB K H (ds.take n) (xs.take n)
 |ds,xs,0,h=>by simp[aq]
 |[],xs,n+1,h=>by rw[aq]at h;subst h;simp[aq]
 |d::ds,xs,n+1,h=>by rw[ag]at h;obtain⟨x,r,rfl,a,b⟩:=h;rw[take_succ_cons,take_succ_cons,ag];exact⟨x,_,rfl,a,b.take n⟩
theorem aB.drop:∀{ds:List D} {xs:List V} (n:Nat),aB K H ds xs->aB K H (ds.drop n) (xs.drop n)
 |ds,xs,0,h=>h
 |[],xs,n+1,h=>by rw[aq]at h;subst h;simp[aq]
 |d::ds,xs,n+1,h=>by rw[ag]at h;obtain⟨x,r,rfl,a,b⟩:=h;exact b.drop n
theorem aB.set {d:D}{x:V}(hd:Dat K H d x):∀{ds:List D} {xs:List V} (n:Nat),aB K H ds xs->aB K H (ds.set n d) (xs.set n x)
 |[],xs,n,h=>by rw[aq]at h;subst h;simp[aq]
 |d0::ds,xs,0,h=>by rw[ag]at h;obtain⟨y,r,rfl,a,b⟩:=h;rw[set_cons_zero,set_cons_zero,ag];exact⟨x,_,rfl,hd,b⟩
 |d0::ds,xs,n+1,h=>by rw[ag]at h;obtain⟨y,r,rfl,a,b⟩:=h;rw[set_cons_succ,set_cons_succ,ag];exact⟨y,_,rfl,a,b.set hd n⟩
theorem fv:∀(ns:List Int),aB K H (ns.map D.int) (ns.map V.int)
 |[]=>by simp[aq]
 |n::ns=>by rw[C9,C9,ag];exact⟨_,_,rfl,ax.mpr rfl,fv ns⟩
theorem sJ:∀{bs:List Bool} {xs:List V},aB K H (bs.map D.bl) xs->xs=bs.map V.bl
 |[],xs,h=>by rw[E5,aq]at h;exact h
 |b::bs,xs,h=>by rw[C9,ag]at h;obtain⟨x,r,rfl,a,q⟩:=h;rw[bq]at a;rw[a,sJ q];rfl
theorem oI:∀{ys:List Str} {xs:List V},aB K H (ys.map D.str) xs->xs=ys.map V.str
 |[],xs,h=>by rw[E5,aq]at h;exact h
 |b::bs,xs,h=>by rw[C9,ag]at h;obtain⟨x,r,rfl,a,q⟩:=h;rw[aY]at a;rw[a,oI q];rfl
end
def Hn:Key->D
 | .inl i=>.int i
 | .inr x=>.str x
mutual
def UI:IK->D
 | .i n=>.int n
 | .t ks=>.tup (OX ks)
def OX:List IK->List D
 |[]=>[]
 |k::ks=>UI k::OX ks
end
inductive XM where
 |lam (L:Vu) (cl:List (Str×Addr))|Ua (d:D)|zJ (q:Str)
inductive MO where
 |lst (ds:List D)
 |uJ (x:XM)
  |zP (t:Bool) (kvs:List (D×D))
abbrev RK(K:K2)(H:Hp):List (D×D)->List (Key×V)->Prop:=Paired λ p q=>p.1=Hn q.1/\Dat K H p.2 q.2
abbrev RJ(K:K2)(H:Hp):List (D×D)->List DR->Prop:=Paired λ p q=>p.1=UI q.1/\q.1.dep<=5/\Dat K H p.1 (.ref q.2.1)/\Dat K H p.2 q.2.2
theorem RK.mono {K:K2}{H H':Hp}(t:aw H H'){kvs:List (D×D)}{xs:List (Key×V)}(h:RK K H kvs xs):RK K H' kvs xs:=Paired.BY h λ p q z=>⟨z.1,Dat.mono t _ z.2⟩
theorem RJ.mono {K:K2}{H H':Hp}(t:aw H H'){kvs:List (D×D)}{xs:List DR}(h:RJ K H kvs xs):RJ K H' kvs xs:=Paired.BY h λ p q z=>⟨z.1,z.2.1,Dat.mono t _ z.2.2.1,Dat.mono t _ z.2.2.2⟩
abbrev Mem:=Addr->Option MO
def ah(M:Mem)(a:Addr)(o:MO):Mem:=λ b=>if b=a then some o else M b
theorem af{M:Mem}{a:Addr}{o:MO}:ah M a o a=some o:=by unfold ah;rw[J8 rfl]
theorem aj{M:Mem}{a b:Addr}{o:MO}(h:b≠a):ah M a o b=M b:=by unfold ah;rw[J9 h]
theorem fe{M:Mem}{a:Addr}{o u:MO}:ah (ah M a o) a u=ah M a u:=by funext b;unfold ah;split <;> rfl
def vL(K:K2)(H:Hp)(a:Addr):MO->Prop
 | .lst ds=>∃xs,H a=some (.lst xs)/\aB K H ds xs
 | .zP false kvs=>∃xs,H a=some (.dK xs)/\RK K H kvs xs
 | .zP true kvs=>∃xs,H a=some (XQ a xs)/\RJ K H kvs xs
 | .uJ (.lam L cl)=>∃c,(∃o,H a=some (.gB o (.ext (SH a L c cl))))/\∃o,H c=some (.gB o (.ext (Qd c L.qual)))
 | .uJ (.Ua d)=>∃o v,H a=some (T' o a v)/\Dat K H d v
 | .uJ (.zJ q)=>Ql H a q
def RelM(K:K2)(H:Hp)(M:Mem):Prop:=∀a o,M a=some o->vL K H a o
theorem vL.there {K:K2}{H:Hp}{a:Addr}{o:MO}(h:vL K H a o):∃u,H a=some u:=by
 cases o with
 |uJ x=>
  cases x with
  |lam L cl=>obtain⟨_,⟨o,h⟩,_⟩:=h;exact⟨_,h⟩
  |Ua d=>obtain⟨o,v,h,_⟩:=h;exact⟨_,h⟩
  |zJ q=>obtain⟨cs,h,_⟩:=h;exact⟨_,h⟩
 |lst ds=>obtain⟨xs,h,_⟩:=h;exact⟨_,h⟩
 |zP t kvs=>
  cases t with
  |false=>obtain⟨xs,h,_⟩:=h;exact⟨_,h⟩
  |true=>obtain⟨xs,h,_⟩:=h;exact⟨_,h⟩
theorem vL.mono {K:K2}{H H':Hp}{a:Addr}{o:MO}(h:vL K H a o)(t:aw H H')(e:H' a=H a):vL K H' a o:=by
 cases o with
 |uJ x=>
  cases x with
  |lam L cl=>obtain⟨c,⟨o,h⟩,o',h'⟩:=h;exact⟨c,⟨o,e.trans h⟩,o',t.gB _ _ _ h'⟩
  |Ua d=>obtain⟨o,v,h,q⟩:=h;exact⟨o,v,e.trans h,Dat.mono t d q⟩
  |zJ q=>exact Ql.grow h t.gB e
 |lst ds=>obtain⟨xs,h,q⟩:=h;exact⟨xs,e.trans h,aB.mono t ds q⟩
 |zP b kvs=>
  cases b with
  |false=>obtain⟨xs,h,q⟩:=h;exact⟨xs,e.trans h,q.mono t⟩
  |true=>obtain⟨xs,h,q⟩:=h;exact⟨xs,e.trans h,q.mono t⟩
theorem RelM.free {K:K2}{H:Hp}{M:Mem}(h:RelM K H M){p:Addr}(n:H p=none):M p=none:=by
 cases e:M p with
 |none=>rfl
 |some o=>obtain⟨u,q⟩:=(h p o e).there;rw[n]at q;cases q
theorem RelM.laid {K:K2}{H:Hp}{M:Mem}(h:RelM K H M){p:Addr}{o:HO}(n:H p=none):RelM K (upd H p o) M:=λ a u e=>by obtain⟨w,q⟩:=(h a u e).there;exact(h a u e).mono (aw.laid n) (bg (ck q n))
theorem RelM.put {K:K2}{H:Hp}{M:Mem}(h:RelM K H M){p:Addr}{o:HO}{u:MO}(t:aw H (upd H p o))(new:vL K (upd H p o) p u):RelM K (upd H p o) (ah M p u):=λ a w e=>by
 by_cases ha:a=p
 ·subst ha;rw[af]at e;cases e;exact new
 ·rw[aj ha]at e;exact(h a w e).mono t (bg ha)
def ko(M M':Mem):Prop:=∀a o,M a=some o->M' a=some o
theorem ko.refl (M:Mem):ko M M:=λ _ _ h=>h
theorem ko.put {M M':Mem}{p:Addr}{o:MO}(h:ko M M')(n:M p=none):ko M (ah M' p o):=λ a u e=>by rw[aj (λ z=>by subst z;rw[n]at e;cases e)];exact h a u e
theorem RelM.sub {K:K2}{H:Hp}{M M':Mem}(h:RelM K H M')(s:ko M M'):RelM K H M:=λ a o e=>h a o (s a o e)
abbrev dk:=List (Option D)
structure cF(K:K2)(H:Hp)(δ:dk)(σ:St):Prop where
 len:δ.length=σ.length
 get:∀(i:Nat) (d:D),δ[i]?=some (some d)->∃v,σ[i]?=some (some v)/\Dat K H d v
theorem cF.mono {K:K2}{H H':Hp}{δ:dk}{σ:St}(h:cF K H δ σ)(t:aw H H'):cF K H' δ σ:=
 ⟨h.len,λ i d e=>let⟨v,q,r⟩:=h.get i d e;⟨v,q,Dat.mono t d r⟩⟩
theorem cF.set {K:K2}{H:Hp}{δ:dk}{σ:St}(h:cF K H δ σ){i:Nat}{d:D}{v:V}(r:Dat K H d v):cF K H (δ.set i (some d)) (σ.set i (some v)):=by
 refine⟨by rw[length_set,length_set];exact h.len,λ j e hj=>?_⟩;by_cases vd:i=j
 ·subst vd;have hi:i < δ.length:=by have:=(g9.mp hj).1;simpa using this
  rw[j7 hi]at hj;cases hj;exact⟨v,by rw[j7 (by rw[<- h.len];exact hi)],r⟩
 ·rw[l7 vd]at hj;obtain⟨u,q,w⟩:=h.get j e hj;exact⟨u,by rw[l7 vd];exact q,w⟩
abbrev bR:=D->Mem->Prop
abbrev cw:=dk->Mem->bR->Prop
abbrev eM:=dk->Mem->(Bool->Mem->Prop)->Prop
abbrev fB:=dk->Mem->(List D->Mem->Prop)->Prop
structure jb where
 nx:dk->Mem->Prop
 rt:bR
 bk:dk->Mem->Prop:=λ _ _=>False
 ct:dk->Mem->Prop:=λ _ _=>False
abbrev jg:=jb->dk->Mem->Prop
def jc(K:K2)(H:Hp)(Q2:bR)(Q:VK):Prop:=∀v H' d M',Dat K H' d v->RelM K H' M'->aw H H'->Q2 d M'->Q v H'
def tK(K:K2)(H:Hp)(Q2:Bool->Mem->Prop)(Q:Bool->Hp->Prop):Prop:=∀b H' M',RelM K H' M'->aw H H'->Q2 b M'->Q b H'
def Qu(K:K2)(H:Hp)(Q2:List D->Mem->Prop)(Q:List V->Hp->Prop):Prop:=∀vs H' ds M',aB K H' ds vs->RelM K H' M'->aw H H'->Q2 ds M'->Q vs H'
def jT(K:K2)(H:Hp)(N2:dk->Mem->Prop)(N:St->Hp->Prop):Prop:=∀σ' H' δ' M',cF K H' δ' σ'->RelM K H' M'->aw H H'->N2 δ' M'->N σ' H'
structure xT(K:K2)(H:Hp)(D2:jb)(E:Ends):Prop where
 nx:jT K H D2.nx E.nx
 rt:jc K H D2.rt E.rt
 bk:jT K H D2.bk E.bk
 ct:jT K H D2.ct E.ct
theorem jc.mono {K:K2}{H H1:Hp}{Q2:bR}{Q:VK}(c:jc K H Q2 Q)(t:aw H H1):jc K H1 Q2 Q:=λ v H' d M' a b e q=>c v H' d M' a b (t.trans e) q
theorem tK.mono {K:K2}{H H1:Hp}{Q2:Bool->Mem->Prop}{Q:Bool->Hp->Prop}(c:tK K H Q2 Q)(t:aw H H1):tK K H1 Q2 Q:=λ v H' M' b e q=>c v H' M' b (t.trans e) q
theorem jT.mono {K:K2}{H H1:Hp}{N2:dk->Mem->Prop}{N:St->Hp->Prop}(c:jT K H N2 N)(t:aw H H1):jT K H1 N2 N:=λ v H' d M' a b e q=>c v H' d M' a b (t.trans e) q
theorem xT.mono {K:K2}{H H1:Hp}{D2:jb}{E:Ends}(c:xT K H D2 E)(t:aw H H1):xT K H1 D2 E:=⟨c.nx.mono t,c.rt.mono t,c.bk.mono t,c.ct.mono t⟩
def up(K:K2)(t:cw):TE:=λ σ H Q=>∃δ M Q2,cF K H δ σ/\RelM K H M/\t δ M Q2/\jc K H Q2 Q
def vT(K:K2)(t:eM):TT:=λ σ H Q=>∃δ M Q2,cF K H δ σ/\RelM K H M/\t δ M Q2/\tK K H Q2 Q
def Ut(K:K2)(t:fB):TA:=λ σ H Q=>∃δ M Q2,cF K H δ σ/\RelM K H M/\t δ M Q2/\Qu K H Q2 Q
def RM(K:K2)(t:jg):TS:=λ E σ H=>∃δ M D2,cF K H δ σ/\RelM K H M/\t D2 δ M/\xT K H D2 E
abbrev QE(X:Cx)(e:Expr)(t:cw):Prop:=PE X e (up X.K t)
abbrev QT(X:Cx)(e:Expr)(t:eM):Prop:=PT X e (vT X.K t)
abbrev QW(X:Cx)(e:Expr)(t:eM):Prop:=PW X e (vT X.K t)
abbrev QA(X:Cx)(es:List Expr)(t:fB):Prop:=PA X es (Ut X.K t)
abbrev QS(X:Cx)(st:Stmt)(t:jg):Prop:=PS X st (RM X.K t)
abbrev Ej(X:Cx)(aX:List Stmt)(t:jg):Prop:=tQ X aX (RM X.K t)
theorem b_{X:Cx}{e:Expr}{t t':TE}(h:PE X e t)(k:∀σ H Q,t' σ H Q->t σ H Q):PE X e t':=λ pins s σ H Q I q=>h pins s σ H Q I (k σ H Q q)
theorem Bt{X:Cx}{e:Expr}{t t':TT}(h:PT X e t)(k:∀σ H Q,t' σ H Q->t σ H Q):PT X e t':=λ pins s σ H Q I q=>h pins s σ H Q I (k σ H Q q)
theorem IM{X:Cx}{e:Expr}{t t':TT}(h:PW X e t)(k:∀σ H Q,t' σ H Q->t σ H Q):PW X e t':=λ wh pins s σ H Q I q=>h wh pins s σ H Q I (k σ H Q q)
theorem BE{X:Cx}{es:List Expr}{t t':TA}(h:PA X es t)(k:∀σ H Q,t' σ H Q->t σ H Q):PA X es t':=λ pos pins s σ H Q I q=>h pos pins s σ H Q I (k σ H Q q)
theorem jN{X:Cx}{st:Stmt}{t t':TS}(h:PS X st t)(k:∀E σ H,t' E σ H->t E σ H):PS X st t':=λ pins s σ H E I q=>h pins s σ H E I (k E σ H q)
theorem Bv{X:Cx}{aX:List Stmt}{t t':TS}(h:tQ X aX t)(k:∀E σ H,t' E σ H->t E σ H):tQ X aX t':=λ pins s σ H E I q=>h pins s σ H E I (k E σ H q)
end L3
namespace L3
open PySem PySem.Spec L2
abbrev gH:=D->D->Mem->bR->Prop
def MU(K:K2)(r:R2)(r2:gH):Prop:=∀x y d e H M Q2 Q,Dat K H d x->Dat K H e y->RelM K H M->r2 d e M Q2->jc K H Q2 Q->r x y H Q
def MV(K:K2)(r:List V->Hp->VK->Prop)(r2:List D->Mem->bR->Prop):Prop:=∀xs ds H M Q2 Q,aB K H ds xs->RelM K H M->r2 ds M Q2->jc K H Q2 Q->r xs H Q
def Ue(K:K2)(r:V->List V->Hp->VK->Prop)(r2:D->List D->Mem->bR->Prop):Prop:=∀x xs d ds H M Q2 Q,Dat K H d x->aB K H ds xs->RelM K H M->r2 d ds M Q2->jc K H Q2 Q->r x xs H Q
def Qm(K:K2)(r:V->Option Int->Option Int->Hp->VK->Prop)(r2:D->Option Int->Option Int->Mem->bR->Prop):Prop:=∀x d lo hi H M Q2 Q,Dat K H d x->RelM K H M->r2 d lo hi M Q2->jc K H Q2 Q->r x lo hi H Q
def fX(X:Cx)(f:Value->Value->Sem Value)(r2:gH):Prop:=∃r,fF X f r/\MU X.K r r2
def Ul(X:Cx)(r2:gH):Prop:=∃r,xS X r/\MU X.K r r2
def Qn(X:Cx)(r2:D->Option Int->Option Int->Mem->bR->Prop):Prop:=∃r,xQ X r/\Qm X.K r r2
def dM(X:Cx)(f:Value)(r2:List D->Mem->bR->Prop):Prop:=∃r,cW X f r/\MV X.K r r2
def Ip(X:Cx)(id:String)(r2:D->List D->Mem->bR->Prop):Prop:=∃r,Ui X id r/\Ue X.K r r2
section
variable {X:Cx}{a b c e:Expr}{ta tb tc:cw}{pos:Pos}
def ic(i:Nat):cw:=λ δ M Q=>match δ[i]? with
 |some (some d)=>Q d M
 |_=>False
def sC(d:D):cw:=λ _ M Q=>Q d M
theorem VV(i:Nat){x:Str}(hN:X.N[i]?=some x:=by rfl)(hv:RD X.env.scope x:=by first|exact Or.inl rfl|exact Or.inr (Or.inl rfl)|exact Or.inr (Or.inr rfl))(hd:(x==("__debug__":Str))=false:=by decide) (hcd:(x==("__classdict__":Str))=false:=by decide):QE X (.Name x pos) (ic i):=b_ (Lm hN hv hd hcd) λ σ H Q ⟨δ,M,Q2,hs,hm,q,k⟩=>by
 unfold ic at q;cases e:δ[i]? with
 |none=>rw[e]at q;exact q.elim
 |some o=>
  cases o with
  |none=>rw[e]at q;exact q.elim
  |some d=>rw[e]at q;obtain⟨v,h1,h2⟩:=hs.get i d e;exact⟨v,h1,k v H d M h2 hm (aw.refl H) q⟩
theorem Oq{i j}:QE X (.Constant (.int i) j pos) (sC (.int i)):=b_ uG λ σ H Q ⟨δ,M,Q2,hs,hm,q,k⟩=>k _ H (.int i) M (ax.mpr rfl) hm (aw.refl H) q
theorem Sm{i j}:QE X (.Constant (.bool i) j pos) (sC (.bl i)):=b_ OA λ σ H Q ⟨δ,M,Q2,hs,hm,q,k⟩=>k _ H (.bl i) M (bq.mpr rfl) hm (aw.refl H) q
theorem IJ{i j}:QE X (.Constant (.str i) j pos) (sC (.str i)):=b_ Lo λ σ H Q ⟨δ,M,Q2,hs,hm,q,k⟩=>k _ H (.str i) M (aY.mpr rfl) hm (aw.refl H) q
theorem Om{j}:QE X (.Constant .none j pos) (sC .bM):=b_ Lq λ σ H Q ⟨δ,M,Q2,hs,hm,q,k⟩=>k _ H .bM M (eG.mpr rfl) hm (aw.refl H) q
theorem Si{x:Str}{n:String}(hg:Gl X x)(hm:X.mg x=none)(hv:bootBuiltins x=some (.type n))(hn:x≠"__name__":=by decide)(hd:(x==("__debug__":Str))=false:=by decide):QE X (.Name x pos) (sC (.ty n)):=
 b_ (Gr (v:=.ty n) hg hm hv rfl hn hd) λ σ H Q ⟨δ,M,Q2,hs,hm,q,k⟩=>k _ H (.ty n) M (vm.mpr rfl) hm (aw.refl H) q
def AH(r2:gH)(ta tb:cw):cw:=λ δ M Q=>ta δ M λ d M1=>tb δ M1 λ e M2=>r2 d e M2 Q
theorem kH{K:K2}{r:R2}{r2:gH}(hr:MU K r r2):∀σ H Q,up K (AH r2 ta tb) σ H Q->NO r (up K ta) (up K tb) σ H Q:=by rintro σ H Q ⟨δ,M,Q2,hs,hm,q,k⟩;refine⟨δ,M,_,hs,hm,q,λ x H1 d M1 hd cb t1 q1=>?_⟩;refine⟨δ,M1,_,hs.mono t1,cb,q1,λ y H2 e M2 he sm t2 q2=>?_⟩;exact hr x y d e H2 M2 Q2 Q (Dat.mono t2 d hd) he sm q2 (k.mono (t1.trans t2))
theorem Sj{op:Operator}{r2:gH}(o:fX X (binaryOp op) r2)(ha:QE X a ta)(hb:QE X b tb):QE X (.BinOp a op b pos) (AH r2 ta tb):=by obtain⟨r,ho,hr⟩:=o;exact b_ (Oy ho ha hb) (kH hr)
theorem Ou{op:CmpOp}{r2:gH}(o:fX X (compareOp op) r2)(ha:QE X a ta)(hb:QE X b tb)(hm:behindInMarks op b=false):QE X (.Compare a [op] [b] pos) (AH r2 ta tb):=by obtain⟨r,ho,hr⟩:=o;exact b_ (Gp ho ha hb hm) (kH hr)
def oj(t:cw):eM:=λ δ M Q=>t δ M λ d M1=>match d with
 | .bl k=>Q k M1
 |_=>False
theorem nY{K:K2}{H:Hp}{Q2:Bool->Mem->Prop}{Q:Bool->Hp->Prop}(k:tK K H Q2 Q):jc K H (λ d M1=>match d with| .bl k=>Q2 k M1|_=>False) (λ x H'=>∃k,x=.bl k/\Q k H'):=λ v H' d M' hd hm t q=>by
 cases d with
 |bl b=>exact⟨b,bq.mp hd,k b H' M' hm t q⟩
 |_=>exact q.elim
theorem KO{op:CmpOp}{r2:gH}(o:fX X (compareOp op) r2)(ha:QE X a ta)(hb:QE X b tb)(hm:behindInMarks op b=false):QT X (.Compare a [op] [b] pos) (oj (AH r2 ta tb)):=by obtain⟨r,ho,hr⟩:=o;refine Bt (F_ ho ha hb hm) ?_;rintro σ H Q ⟨δ,M,Q2,hs,hm,q,k⟩;exact kH hr σ H _ ⟨δ,M,_,hs,hm,q,nY k⟩
theorem KL(h:QE X e ta)(he:∀whole,isTrue e X.env whole=(do let v <- whole;standAt e.pos;holding [v] (truthy v)):=by intro _;rfl):QT X e (oj ta):=by refine Bt (Lc h he) ?_;rintro σ H Q ⟨δ,M,Q2,hs,hm,q,k⟩;exact⟨δ,M,_,hs,hm,q,nY k⟩
variable {tA tB:eM}{rest:List Expr}
def Kc(t u:eM):eM:=λ δ M Q=>t δ M λ c M1=>if c=true then u δ M1 Q else Q false M1
def Sa(t u:eM):eM:=λ δ M Q=>t δ M λ c M1=>if c=true then Q true M1 else u δ M1 Q
def J'(t:eM):eM:=λ δ M Q=>t δ M λ c M1=>Q (!c) M1
theorem FI(ha:QT X a tA):QW X (.BoolOp .And [a] pos) tA:=FY ha
theorem KI(ha:QT X a tA):QW X (.BoolOp .Or [a] pos) tA:=La ha
theorem KJ(ha:QT X a tA)(hb:QW X (.BoolOp .And (b::rest) pos) tB):QW X (.BoolOp .And (a::b::rest) pos) (Kc tA tB):=IM (Lb ha hb) λ σ H Q ⟨δ,M,Q2,hs,hm,q,k⟩=>by
 refine⟨δ,M,_,hs,hm,q,λ c H1 M1 cb t1 q1=>?_⟩;cases c with
 |true=>rw[J8 rfl]at q1 ⊢;exact⟨δ,M1,Q2,hs.mono t1,cb,q1,k.mono t1⟩
 |false=>rw[J9 p5]at q1 ⊢;exact k _ _ _ cb t1 q1
theorem Oh(ha:QT X a tA)(hb:QW X (.BoolOp .Or (b::rest) pos) tB):QW X (.BoolOp .Or (a::b::rest) pos) (Sa tA tB):=IM (Ow ha hb) λ σ H Q ⟨δ,M,Q2,hs,hm,q,k⟩=>by
 refine⟨δ,M,_,hs,hm,q,λ c H1 M1 cb t1 q1=>?_⟩;cases c with
 |true=>rw[J8 rfl]at q1 ⊢;exact k _ _ _ cb t1 q1
 |false=>rw[J9 p5]at q1 ⊢;exact⟨δ,M1,Q2,hs.mono t1,cb,q1,k.mono t1⟩
theorem KN(ha:QT X a tA):QT X (.UnaryOp .Not a pos) (J' tA):=Bt (Ld ha) λ σ H Q ⟨δ,M,Q2,hs,hm,q,k⟩=>⟨δ,M,_,hs,hm,q,λ c H1 M1 cb t1 q1=>k _ _ _ cb t1 q1⟩
def AN(ta tb:cw):cw:=λ δ M Q=>ta δ M λ d M1=>match d with
 | .bl c=>if c=true then tb δ M1 Q else Q (.bl false) M1
 |_=>False
theorem Ol{op}(h:QE X a ta):QE X (.BoolOp op [a] pos) ta:=Lp h
theorem Ov(ha:QE X a ta)(hb:QE X (.BoolOp .And (b::rest) pos) tb):QE X (.BoolOp .And (a::b::rest) pos) (AN ta tb):=b_ (Lu ha hb) λ σ H Q ⟨δ,M,Q2,hs,hm,q,k⟩=>by
 refine⟨δ,M,_,hs,hm,q,λ x H1 d M1 hd cb t1 q1=>?_⟩;cases d with
 |bl c=>
  refine⟨c,bq.mp hd,?_⟩;have q1:if c=true then tb δ M1 Q2 else Q2 (.bl false) M1:=q1
  cases c with
  |true=>rw[J8 rfl]at q1 ⊢;exact⟨δ,M1,Q2,hs.mono t1,cb,q1,k.mono t1⟩
  |false=>rw[J9 p5]at q1 ⊢;exact k _ _ _ _ (bq.mpr rfl) cb t1 q1
 |_=>exact q1.elim
variable {es:List Expr}{t:fB}
def yy:fB:=λ _ M Q=>Q [] M
def om(ta:cw)(tr:fB):fB:=λ δ M Q=>ta δ M λ d M1=>tr δ M1 λ ds M2=>Q (d::ds) M2
theorem Br:QA X [] yy:=BE ie λ σ H Q ⟨δ,M,Q2,hs,hm,q,k⟩=>k [] H [] M (by rw[aq]) hm (aw.refl H) q
theorem wA(ha:QE X e ta)(hr:QA X es t)(hs:starEach (e::es) X.env=(false,eval e X.env)::starEach es X.env:=by rfl):QA X (e::es) (om ta t):=BE (fL ha hr hs) λ σ H Q ⟨δ,M,Q2,hs,hm,q,k⟩=>by refine⟨δ,M,_,hs,hm,q,λ x H1 d M1 hd cb t1 q1=>?_⟩;refine⟨δ,M1,_,hs.mono t1,cb,q1,λ xs H2 ds M2 HG sm t2 q2=>?_⟩;exact k (x::xs) H2 (d::ds) M2 (ag.mpr ⟨x,xs,rfl,Dat.mono t2 d hd,HG⟩) sm (t1.trans t2) q2
def JZ(t:fB):cw:=λ δ M Q=>t δ M λ ds M1=>ds.length<=sizeLine/\Q (.tup ds) M1
theorem gN{K:K2}{H:Hp}{p:Addr}{xs:List V}{ds:List D}(hp:H p=none)(h:aB K H ds xs):Dat K (upd H p (.tup xs)) (.tup ds) (.ref p):=aU.mpr ⟨p,xs,rfl,fE.of bW,aB.mono (aw.laid hp) ds h⟩
theorem Oj{x1}(h:QA X es t):QE X (.Tuple es x1 pos) (JZ t):=b_ (Ln h) λ σ H Q ⟨δ,M,Q2,hs,hm,q,k⟩=>by refine⟨δ,M,_,hs,hm,q,λ xs H1 ds M1 hd cb t1 q1=>?_⟩;refine⟨by rw[hd.length];exact q1.1,λ p hp=>?_⟩;exact k _ _ (.tup ds) M1 (gN hp hd) (cb.laid hp) (t1.trans (aw.laid hp)) q1.2
def Ka(t:fB):cw:=λ δ M Q=>t δ M λ ds M1=>ds.length<=sizeLine/\∀p,M1 p=none->Q (.ref p) (ah M1 p (.lst ds))
theorem cX{K:K2}{H:Hp}{M:Mem}{p:Addr}{xs:List V}{ds:List D}(hp:H p=none)(h:aB K H ds xs)(hm:RelM K H M):RelM K (upd H p (.lst xs)) (ah M p (.lst ds)):=
 hm.put (aw.laid hp) ⟨xs,bW,aB.mono (aw.laid hp) ds h⟩
theorem Oo(h:QA X es t):QE X (.List es pos) (Ka t):=b_ (Lr h) λ σ H Q ⟨δ,M,Q2,hs,hm,q,k⟩=>by refine⟨δ,M,_,hs,hm,q,λ xs H1 ds M1 hd cb t1 q1=>?_⟩;refine⟨by rw[hd.length];exact q1.1,λ p hp=>?_⟩;exact k _ _ (.ref p) _ (aE.mpr rfl) (cX hp hd cb) (t1.trans (aw.laid hp)) (q1.2 p (cb.free hp))
theorem Sk{r2:gH}(o:Ul X r2)(ha:QE X a ta)(hb:QE X b tb)(hs:qx b):QE X (.Subscript a b pos) (AH r2 ta tb):=by obtain⟨r,ho,hr⟩:=o;exact b_ (Oz ho ha hb hs) (kH hr)
abbrev Il:=dk->Mem->(Option Int->Mem->Prop)->Prop
def Qs(K:K2)(H:Hp)(Q2:Option Int->Mem->Prop)(Q:Option Int->Hp->Prop):Prop:=∀o H' M',RelM K H' M'->aw H H'->Q2 o M'->Q o H'
def VA(K:K2)(t:Il):TO:=λ σ H Q=>∃δ M Q2,cF K H δ σ/\RelM K H M/\t δ M Q2/\Qs K H Q2 Q
abbrev QO(X:Cx)(e:Option Expr)(t:Il):Prop:=PO X e (VA X.K t)
theorem IP{e:Option Expr}{t t':TO}(h:PO X e t)(k:∀σ H Q,t' σ H Q->t σ H Q):PO X e t':=λ pins s σ H Q I q=>h pins s σ H Q I (k σ H Q q)
def pj:Il:=λ _ M Q=>Q none M
def AG(t:cw):Il:=λ δ M Q=>t δ M λ d M1=>match d with
 | .int i=>Q (some i) M1
 |_=>False
theorem FO:QO X none pj:=IP Gf λ σ H Q ⟨δ,M,Q2,hs,hm,q,k⟩=>k _ _ _ hm (aw.refl H) q
theorem FN(h:QE X e ta):QO X (some e) (AG ta):=IP (Ge h) λ σ H Q ⟨δ,M,Q2,hs,hm,q,k⟩=>by
 refine⟨δ,M,_,hs,hm,q,λ x H1 d M1 hd cb t1 q1=>?_⟩;cases d with
 |int i=>exact⟨i,ax.mp hd,k _ _ _ cb t1 q1⟩
 |_=>exact q1.elim
variable {lo hi:Option Expr}{tl th:Il}{p2:Pos}
def R'(r2:D->Option Int->Option Int->Mem->bR->Prop)(te:cw)(tl th:Il):cw:=λ δ M Q=>te δ M λ d M1=>tl δ M1 λ l M2=>th δ M2 λ u M3=>r2 d l u M3 Q
theorem FV{r2:D->Option Int->Option Int->Mem->bR->Prop}(o:Qn X r2)(he:QE X e ta)(hl:QO X lo tl)(hu:QO X hi th):QE X (.Subscript e (.Slice lo hi none p2) pos) (R' r2 ta tl th):=by obtain⟨r,ho,hr⟩:=o;refine b_ (BD ho he hl hu) ?_;rintro σ H Q ⟨δ,M,Q2,hs,hm,q,k⟩;refine⟨δ,M,_,hs,hm,q,λ x H1 d M1 hd cb t1 q1=>?_⟩;refine⟨δ,M1,_,hs.mono t1,cb,q1,λ l H2 M2 sm t2 q2=>?_⟩;refine⟨δ,M2,_,hs.mono (t1.trans t2),sm,q2,λ u H3 M3 HF t3 q3=>?_⟩;exact hr x d l u H3 M3 Q2 Q (Dat.mono (t2.trans t3) d hd) HF q3 (k.mono (t1.trans (t2.trans t3)))
def Nj(r2:List D->Mem->bR->Prop)(t:fB):cw:=λ δ M Q=>t δ M λ ds M1=>r2 ds M1 Q
variable {x:Str}{p:Pos}{id T:String}
theorem xJ{K:K2}{r:List V->Hp->VK->Prop}{r2:List D->Mem->bR->Prop}(hr:MV K r r2):∀σ H Q,up K (Nj r2 t) σ H Q->Qz r (Ut K t) σ H Q:=by rintro σ H Q ⟨δ,M,Q2,hs,hm,q,k⟩;exact⟨δ,M,_,hs,hm,q,λ xs H1 ds M1 hd cb t1 q1=>hr xs ds H1 M1 Q2 Q hd cb q1 (k.mono t1)⟩
theorem FX{r2:List D->Mem->bR->Prop}(o:dM X (.builtin id) r2)(hg:Gl X x)(hm:X.mg x=none)(hv:bootBuiltins x=some (.builtin id))(ha:QA X (e::es) t)(hn:x≠"__name__":=by decide)(hdb:(x==("__debug__":Str))=false:=by decide) (he:starEach (e::es) X.env=(false,eval e X.env)::starEach es X.env:=by rfl) (hpl:(backTo pos (starEach es X.env)).any (·.1)=false:=by rfl):QE X (.Call (.Name x p) (e::es) [] pos) (Nj r2 t):=by obtain⟨r,ho,hr⟩:=o;exact b_ (rK ho hg hm hv ha hn hdb he hpl) (xJ hr)
theorem FW{r2:List D->Mem->bR->Prop}(o:dM X (.type T) r2)(hg:Gl X x)(hm:X.mg x=none)(hv:bootBuiltins x=some (.type T))(ha:QA X (e::es) t)(hn:x≠"__name__":=by decide)(hdb:(x==("__debug__":Str))=false:=by decide) (he:starEach (e::es) X.env=(false,eval e X.env)::starEach es X.env:=by rfl) (hpl:(backTo pos (starEach es X.env)).any (·.1)=false:=by rfl):QE X (.Call (.Name x p) (e::es) [] pos) (Nj r2 t):=by obtain⟨r,ho,hr⟩:=o;exact b_ (gP ho hg hm hv ha hn hdb he hpl) (xJ hr)
end
end L3
namespace L3
open PySem PySem.Spec L2
def Ng(T:String)(d:D)(M:Mem):Prop:=match d with
 | .str _=>T="str"
 | .ref a=>T="list"/\∃ds,M a=some (.lst ds)
 |_=>False
theorem Ng.v {K:K2}{H:Hp}{M:Mem}{T:String}{d:D}{x:V}(h:Ng T d M)(r:Dat K H d x)(hm:RelM K H M):RO K T x H:=by
 cases d with
 |str z=>cases(aY.mp r);exact h
 |ref a=>cases(aE.mp r);obtain⟨e,ds,q⟩:=h;obtain⟨xs,hx,_⟩:=hm a _ q;exact .inl ⟨e,xs,dn.of hx⟩
 |_=>exact h.elim
section
variable {X:Cx}{o e:Expr}{es:List Expr}{to:cw}{t:fB}{T id:String}{name:Str}{apos bS:Pos}
def Nk(T:String)(r2:D->List D->Mem->bR->Prop)(to:cw)(t:fB):cw:=λ δ M Q=>to δ M λ d M1=>Ng T d M1/\t δ M1 λ ds M2=>r2 d ds M2 Q
theorem Sl{r2:D->List D->Mem->bR->Prop}(pa:PlainAttrs T)(slot:Slot T name id)(hty:typeOf (.builtin id)=pure (.type "method_descriptor"))(hm:Ip X id r2)(ho:QE X o to)(ha:QA X (e::es) t) (hbase:attributeBase o name X.env (eval o X.env)=eval o X.env:=by rfl) (hfew:((backTo bS (starEach (e::es) X.env)).all (λ x=>!x.1)&&(backToKw bS (keywordEach [] X.env)).all (λ x=>x.1.isSome)
   &&decide ((e::es).length+([]:List Keyword).length+(if([]:List Keyword).isEmpty then 0 else 1) < 30))=true:=by rfl)
  (hline:(apos.endLine==bS.line)=true:=by rfl) (hs:starEach (e::es) X.env=(false,eval e X.env)::starEach es X.env:=by rfl) (hplain:(backTo bS (starEach es X.env)).any (·.1)=false:=by rfl):
  QE X (.Call (.Attribute o name apos) (e::es) [] bS) (Nk T r2 to t):=by
 obtain⟨r,h1,hr⟩:=hm;refine b_ (IS pa slot hty h1 ho ha hbase hfew hline hs hplain) ?_;rintro σ H Q ⟨δ,M,Q2,hs,hm,q,k⟩;refine⟨δ,M,_,hs,hm,q,λ x H1 d M1 hd cb t1 q1=>⟨q1.1.v hd cb,δ,M1,_,hs.mono t1,cb,q1.2,λ xs H2 ds M2 HG sm t2 q2=>?_⟩⟩;exact hr x xs d ds H2 M2 Q2 Q (Dat.mono t2 d hd) HG sm q2 (k.mono (t1.trans t2))
end
abbrev fb:=List D->Mem->bR->Prop
def cx(K:K2)(sp:fb):Sp:=λ vs H Q _=>∃ds M Q2,aB K H ds vs/\RelM K H M/\sp ds M Q2/\jc K H Q2 Q
def sD(sp:fb)(t:fB):cw:=λ δ M Q=>t δ M λ ds M1=>sp ds M1 Q
abbrev bT(P:Program)(w:World)(K:K2)(mg:Str->Option Value)(base:Heap)(k:Nat)(x:Str)(ps:List Str)(sp:fb):Prop:=bJ P w K mg base k x ps (cx K sp)
section
variable {X:Cx}{x:Str}{p pos:Pos}{e:Expr}{es:List Expr}{t:fB}{k j:Nat}{ps:List Str}{sp:fb}
theorem Ot(d:bT X.prog X.w X.K X.mg X.base k x ps sp)(hr:dh k X.A)(hg:Gl X x)(ha:QA X (e::es) t)(hdb:(x==("__debug__":Str))=false:=by decide)(he:starEach (e::es) X.env=(false,eval e X.env)::starEach es X.env:=by rfl) (hpl:(backTo pos (starEach es X.env)).any (·.1)=false:=by rfl):QE X (.Call (.Name x p) (e::es) [] pos) (sD sp t):=by refine b_ (Ls d hr hg ha hdb he hpl) ?_;rintro σ H Q ⟨δ,M,Q2,hs,hm,q,k⟩;exact⟨δ,M,_,hs,hm,q,λ xs H1 ds M1 hd cb t1 q1=>⟨ds,M1,Q2,hd,cb,q1,k.mono t1⟩⟩
end
def jn(N:List Str)(ds:List D):dk:=ds.map some++List.replicate (N.length - ds.length) none
theorem yq{K:K2}{H:Hp}{N:List Str}{ds:List D}{vs:List V}(h:aB K H ds vs):cF K H (jn N ds) (L2.start N vs):=by
 have hl:=h.length;refine⟨by unfold jn L2.start;simp[hl],λ i d e=>?_⟩;unfold jn at e;by_cases hi:i < ds.length
 ·rw[c8 (by simpa using hi),u9]at e;cases q:ds[i]? with
  |none=>rw[q]at e;cases e
  |some d'=>
   rw[q]at e;have e:d'=d:=by simpa using e
   subst e;obtain⟨v,hv,r⟩:=h.get q;refine⟨v,?_,r⟩;unfold L2.start;rw[c8 (by simp;omega),u9,hv];rfl
 ·rw[c6 (by simpa using hi),i8]at e;split at e <;> cases e
def fin2(Q:bR):bR:=λ d M'=>∃oQ,ko oQ M'/\Q d oQ
theorem az{Q:bR}{d:D}{M:Mem}(q:Q d M):fin2 Q d M:=⟨M,ko.refl M,q⟩
section
variable {P:Program}{w:World}{K:K2}{mg:Str->Option Value}{base:Heap}
theorem VY{x qual:Str}{st:Stmt}{f:Addr}{fd:FuncData}{N ps:List Str}{k:Nat}{sp:fb}(F:f_ K x qual st f fd)(S:aO N ps (ay st))(len:∀ds M Q,sp ds M Q->ds.length=ps.length) (mC:∀(c_:Value) (A:Around) (outer:List Env) (s:Shared) (H:Hp) (E:XK) (ds:List D) (M:Mem) (Q:bR),dh k (A.deeper (PyProof.Rows.envOfC qual (ay st) s.heap.objs.size f c_))->sp ds M Q->
   ∃t,Ej (sO fc P w K mg base N qual (ay st) f c_ A outer s H E).Nl (dE st) t/\t {nx:=λ _ M'=>fin2 Q .bM M',rt:=fin2 Q} (jn N ds) M):bZ P w K mg base fc (k+1) f fd ps (cx K sp):=by
 refine F.ok S (λ vs H Q E h=>?_) (λ c_ A outer s H vs Q E hr h=>?_)
 ·obtain⟨ds,M,Q2,hd,_,hs,_⟩:=h;rw[hd.length];exact len ds M Q2 hs
 ·obtain⟨ds,M,Q2,hd,hm,hs,kk⟩:=h;obtain⟨t,ht,q⟩:=mC c_ A outer s H E ds M Q2 hr hs;refine⟨_,ht,jn N ds,M,_,yq hd,hm,q,⟨?_,?_,?_,?_⟩⟩
  ·exact λ σ' H' δ' M' _ fu t' ⟨oQ,s,q⟩=>kk _ H' .bM oQ (eG.mpr rfl) (fu.sub s) t' q
  ·exact λ v H' d M' iW fu t' ⟨oQ,s,q⟩=>kk v H' d oQ iW (fu.sub s) t' q
  ·exact λ σ' H' δ' M' _ fu t' q=>q
  ·exact λ σ' H' δ' M' _ fu t' q=>q
end
section
variable {X:Cx}{st:Stmt}{rest:List Stmt}{t u:jg}{te:cw}{e:Expr}{pos:Pos}
def wm:jg:=λ E δ M=>E.nx δ M
def AF(t u:jg):jg:=λ E δ M=>t {E with nx:=u E} δ M
theorem FK:Ej X [] wm:=Bv Gb λ E σ H ⟨δ,M,D2,hs,hm,q,k⟩=>k.nx σ H δ M hs hm (aw.refl H) q
theorem FJ(h:QS X st t):Ej X [st] t:=Ga h
theorem Bo(h1:QS X st t)(h2:Ej X rest u):Ej X (st::rest) (AF t u):=Bv (Bu h1 h2) λ E σ H ⟨δ,M,D2,hs,hm,q,k⟩=>by refine⟨δ,M,_,hs,hm,q,⟨λ σ' H' δ' M' jf fu t' q'=>?_,k.rt,k.bk,k.ct⟩⟩;exact⟨δ',M',D2,jf,fu,q',k.mono t'⟩
def rf(te:cw):jg:=λ E δ M=>te δ M λ _ M1=>E.nx δ M1
theorem FL(he:QE X e te)(hs:swapsWith e none pos.line X.env=pure false:=by rfl):QS X (.Expr e pos) (rf te):=jN (Gd he hs) λ E σ H ⟨δ,M,D2,hs,hm,q,k⟩=>
 ⟨δ,M,_,hs,hm,q,λ x H1 d M1 hd cb t1 q1=>k.nx σ H1 δ M1 (hs.mono t1) cb t1 q1⟩
def J_(te:cw):jg:=λ E δ M=>te δ M E.rt
theorem KQ(he:QE X e te):QS X (.Return (some e) pos) (J_ te):=jN (Lf he) λ E σ H ⟨δ,M,D2,hs,hm,q,k⟩=>⟨δ,M,_,hs,hm,q,k.rt⟩
def EN(c:eM)(t u:jg):jg:=λ E δ M=>c δ M λ b M1=>if b=true then t E δ M1 else u E δ M1
theorem Oi{c:Expr}{a b:List Stmt}{tc:eM}(hc:QT X c tc)(ha:Ej X a t)(hb:Ej X b u):QS X (.If c a b pos) (EN tc t u):=jN (Ox hc ha hb) λ E σ H ⟨δ,M,D2,hs,hm,q,k⟩=>by
 refine⟨δ,M,_,hs,hm,q,λ b H1 M1 cb t1 q1=>?_⟩;cases b with
 |true=>rw[J8 rfl]at q1 ⊢;exact⟨δ,M1,D2,hs.mono t1,cb,q1,k.mono t1⟩
 |false=>rw[J9 p5]at q1 ⊢;exact⟨δ,M1,D2,hs.mono t1,cb,q1,k.mono t1⟩
abbrev fQ:=D->dk->Mem->(dk->Mem->Prop)->Prop
abbrev mV:=List D->dk->Mem->(dk->Mem->Prop)->Prop
def Iu(K:K2)(t:fQ):TG:=λ v σ H Q=>∃d δ M Q2,Dat K H d v/\cF K H δ σ/\RelM K H M/\t d δ M Q2/\jT K H Q2 Q
def RN(K:K2)(t:mV):xP:=λ vs σ H Q=>∃ds δ M Q2,aB K H ds vs/\cF K H δ σ/\RelM K H M/\t ds δ M Q2/\jT K H Q2 Q
abbrev QG(X:Cx)(tg:Expr)(t:fQ):Prop:=PG X tg (Iu X.K t)
abbrev Qo(X:Cx)(tg:List Expr)(t:mV):Prop:=Na X tg (RN X.K t)
theorem BC{tg:Expr}{g g':TG}(h:PG X tg g)(k:∀v σ H Q,g' v σ H Q->g v σ H Q):PG X tg g':=λ pins s σ H v u Q I r q=>h pins s σ H v u Q I r (k v σ H Q q)
theorem BA{tg:List Expr}{g g':xP}(h:Na X tg g)(k:∀v σ H Q,g' v σ H Q->g v σ H Q):Na X tg g':=λ pins s σ H v u Q I r q=>h pins s σ H v u Q I r (k v σ H Q q)
def hName(i:Nat):fQ:=λ d δ M Q=>Q (δ.set i (some d)) M
theorem jw{K:K2}{i:Nat}:∀v σ H Q,Iu K (hName i) v σ H Q->cB i v σ H Q:=λ v σ H Q ⟨d,δ,M,Q2,hd,hs,hm,q,k⟩=>k _ H _ M (hs.set hd) hm (aw.refl H) q
theorem FU{i:Nat}{x:Str}(hN:X.N.Nodup)(hi:X.N[i]?=some x)(hx:Loc X.env.scope x)(hf:X.fn x=true\/X.env.scope.names.lookup x=some .local:=by first|exact .inl rfl|exact .inr rfl|assumption):QG X (.Name x pos) (hName i):=
 BC (aD hN hi hx hf) jw
def nA:mV:=λ ds δ M Q=>match ds with
 |[]=>Q δ M
 |_=>False
def cN(t:fQ)(u:mV):mV:=λ ds δ M Q=>match ds with
 |d::r=>t d δ M λ δ' M'=>u r δ' M' Q
 |_=>False
theorem FT:Qo X [] nA:=BA iQ λ v σ H Q ⟨ds,δ,M,Q2,hd,hs,hm,q,k⟩=>by
 cases ds with
 |nil=>exact⟨aq.mp hd,k _ H _ M hs hm (aw.refl H) q⟩
 |cons d r=>exact q.elim
theorem Bq{e:Expr}{es:List Expr}{t:fQ}{u:mV}(h1:QG X e t)(h2:Qo X es u) (hs:(assignEach (e::es) X.env).map (·.2)=assign e X.env::(assignEach es X.env).map (·.2):=by rfl):Qo X (e::es) (cN t u):=BA (cV h1 h2 hs) λ v σ H Q ⟨ds,δ,M,Q2,hd,hs,hm,q,k⟩=>by
 cases ds with
 |nil=>exact q.elim
 |cons d r=>obtain⟨x,xs,rfl,hx,O1⟩:=ag.mp hd;refine⟨x,xs,rfl,d,δ,M,_,hx,hs,hm,q,λ σ' H' δ' M' jf fu t' q'=>?_⟩;exact⟨r,δ',M',Q2,aB.mono t' r O1,jf,fu,q',k.mono t'⟩
def ny(n:Nat)(t:mV):fQ:=λ d δ M Q=>match d with
 | .tup ds=>ds.length=n/\t ds δ M Q
 |_=>False
theorem KW{es:List Expr}{k:Nat}{t:mV}{n:Nat}(hc:X.calm=true)(h:Qo X es t) (hn:(assignEach es X.env).length=n:=by rfl) (hst:(assignEach es X.env).findIdx? (·.1)=none:=by rfl):QG X (.Tuple es k pos) (ny n t):=BC (lW hc h hn hst) λ v σ H Q ⟨d,δ,M,Q2,hd,hs,hm,q,k⟩=>by
 cases d with
 |tup ds=>obtain⟨p,xs,rfl,hq,hx⟩:=aU.mp hd;exact⟨p,xs,rfl,hq,by rw[hx.length];exact q.1,ds,δ,M,Q2,hx,hs,hm,q.2,k⟩
 |_=>exact q.elim
abbrev mU:=D->D->D->Mem->(Mem->Prop)->Prop
def Qt(K:K2)(H:Hp)(N2:Mem->Prop)(N:Hp->Prop):Prop:=∀H' M',RelM K H' M'->aw H H'->N2 M'->N H'
def MT(K:K2)(r:Ik)(r2:mU):Prop:=∀o i v d j e H M Q2 Q,Dat K H d o->Dat K H j i->Dat K H e v->RelM K H M->r2 d j e M Q2->Qt K H Q2 Q->r o i v H Q
def MW(X:Cx)(r2:mU):Prop:=∃r,M_ X r/\MT X.K r r2
def hSub(to ti:cw)(t:mU):fQ:=λ e δ M Q=>to δ M λ d M1=>ti δ M1 λ j M2=>t d j e M2 λ M3=>Q δ M3
theorem KY{o i:Expr}{to ti:cw}{t:mU}(ho:QE X o to)(hi:QE X i ti)(hs:MW X t) (ha:∀v,assign (.Subscript o i pos) X.env v=(do
   let ov <- holding [v] (eval o X.env)
   let iv <- holding [v,ov] (eval i X.env)
   standAt pos
   holding [v,ov,iv] (setItem ov iv v)
   release [v,ov,iv] []):=by intro _;rfl):QG X (.Subscript o i pos) (hSub to ti t):=by
 obtain⟨r,h1,hr⟩:=hs;refine BC (Ll ho hi h1 ha) ?_;rintro v σ H Q ⟨e,δ,M,Q2,hd,hs,hm,q,k⟩;refine⟨δ,M,_,hs,hm,q,λ x H1 d M1 hx cb t1 q1=>?_⟩;refine⟨δ,M1,_,hs.mono t1,cb,q1,λ y H2 j M2 hy sm t2 q2=>?_⟩;exact hr x y v d j e H2 M2 _ _ (Dat.mono t2 d hx) hy (Dat.mono (t1.trans t2) e hd) sm q2 λ H3 M3 HF t3 q3=>k σ H3 δ M3 (hs.mono (t1.trans (t2.trans t3))) HF (t1.trans (t2.trans t3)) q3
def rh(te:cw)(g:fQ):jg:=λ E δ M=>te δ M λ d M1=>g d δ M1 E.nx
theorem tE{K:K2}{g:TG}{g2:fQ}(hg:∀v σ H Q,Iu K g2 v σ H Q->g v σ H Q):∀E σ H,RM K (rh te g2) E σ H->Ez (up K te) g E σ H:=by rintro E σ H ⟨δ,M,D2,hs,hm,q,k⟩;exact⟨δ,M,_,hs,hm,q,λ x H1 d M1 hd cb t1 q1=>hg x σ H1 _ ⟨d,δ,M1,_,hd,hs.mono t1,cb,q1,k.nx.mono t1⟩⟩
theorem KS{tg e:Expr}{g:fQ}(he:QE X e te)(hg:QG X tg g)(hs:swapsWithSole [tg] e pos.line X.env=pure false:=by rfl)(hw:swappedStores [tg] e X.env=pure none:=by rfl) (h1:(assignEach [tg] X.env).map (·.2)=[assign tg X.env]:=by rfl):QS X (.Assign [tg] e pos) (rh te g):=jN (Lh he hg hs hw h1) (tE λ _ _ _ _ h=>h)
theorem KP{i:Nat}{x:Str}{e:Expr}{pos':Pos}(hN:X.N.Nodup)(hi:X.N[i]?=some x)(hx:Loc X.env.scope x)(he:QE X e te)(hs:swapsWith e (some (.Name x pos')) pos.line X.env=pure false:=by rfl) (hf:X.fn x=true\/X.env.scope.names.lookup x=some .local:=by first|exact .inl rfl|exact .inr rfl|assumption):QS X (.Assign [.Name x pos'] e pos) (rh te (hName i)):=jN (Le hN hi hx he hs hf) (tE jw)
end
end L3
namespace L3
open PySem PySem.Spec L2
inductive Src where
 |fix (ds:List D)
 |at(a:Addr)
 |fn (f:Mem->Option (List D))
def items(s:Src)(M:Mem):Option (List D):=match s with
 | .fix ds=>some ds
 | .at a=>match M a with
  |some (.lst ds)=>some ds
  |_=>none
 | .fn f=>f M
def tI(K:K2)(H1:Hp)(J:It)(src:Src):Prop:=∀H M ds,aw H1 H->RelM K H M->items src M=some ds->
 (∀i,i < ds.length->J.go i H)/\(∀i,i=ds.length->J.stop i H)/\(∀i x H',i < ds.length->J.En i H x H'->aw H H'/\RelM K H' M/\∃d,ds[i]?=some d/\Dat K H' d x)
abbrev kY:=dk->Mem->(Src->Mem->Prop)->Prop
def Nf(K:K2)(t:kY):TI:=λ σ H R=>∃δ M R2,cF K H δ σ/\RelM K H M/\t δ M R2/\∀J H' src M',tI K H' J src->RelM K H' M'->aw H H'->R2 src M'->R J H'
abbrev QI(X:Cx)(tg iter:Expr)(t:kY):Prop:=PI X tg iter (Nf X.K t)
theorem Bz{X:Cx}{tg iter:Expr}{t t':TI}(h:PI X tg iter t)(k:∀σ H R,t' σ H R->t σ H R):PI X tg iter t':=λ pins s σ H R I q=>h pins s σ H R I (k σ H R q)
def jo(z:Str):List D:=z.cps.toList.map λ c=>D.str ⟨#[c]⟩
def cO(lo:Int)(n:Nat):List D:=(List.range n).map λ i=>D.int (lo+(i:Nat))
theorem aM(lo:Int)(n:Nat):(cO lo n).length=n:=by simp[cO]
theorem lU{lo:Int}{n i:Nat}(h:i < n):(cO lo n)[i]?=some (.int (lo+(i:Nat))):=by simp[cO,h]
theorem Cr{K:K2}{H1:Hp}{z:Str}:tI K H1 (NI z) (.fix (jo z)):=λ H M ds t hm e=>by
 cases e;have hl:(jo z).length=z.cps.size:=by simp[jo]
 refine⟨λ i hi=>by rw[hl]at hi;exact hi,λ i hi=>by rw[hl]at hi;exact hi,λ i x H' hi y=>?_⟩;obtain⟨e,c,hc,rfl⟩:=y;subst e;refine⟨aw.refl _,hm,.str ⟨#[c]⟩,?_,aY.mpr rfl⟩;simp[jo,hc]
theorem Cq{K:K2}{H1:Hp}{a:Addr}{xs:List V}{ds:List D}(h:fE K H1 a xs)(hd:aB K H1 ds xs):tI K H1 (Um K a) (.fix ds):=λ H M es t hm e=>by cases e;have hq:=Ak t h;have hx:=aB.mono t ds hd;have hl:=hx.length;refine⟨λ i hi=>⟨xs,xs[i]'(by omega),hq,by simp[hl,hi]⟩,λ i hi=>⟨xs,hq,by omega⟩,λ i x H' hi y=>?_⟩;obtain⟨e,y⟩:=y;obtain⟨d,h1,h2⟩:=hx.vf (y xs hq);subst e;exact⟨aw.refl _,hm,d,h1,h2⟩
theorem Ct{K:K2}{H1:Hp}{a:Addr}:tI K H1 (RH K a) (.at a):=λ H M ds t hm e=>by
 have e:(match M a with|some (.lst ds)=>some ds|_=>none)=some ds:=e;cases q:M a with
 |none=>rw[q]at e;cases e
 |some o=>
  cases o with
  |zP b kvs=>rw[q]at e;cases e
  |uJ x=>rw[q]at e;cases e
  |lst es=>rw[q]at e;have e:es=ds:=B0 e;subst e;obtain⟨xs,hx,hd⟩:=hm a _ q;have hq:dn K H a xs:=dn.of hx;have hl:=hd.length;refine⟨λ i hi=>⟨xs,xs[i]'(by omega),hq,by simp[hl,hi]⟩,λ i hi=>⟨xs,hq,by omega⟩,λ i x H' hi y=>?_⟩;obtain⟨e,y⟩:=y;obtain⟨d,h1,h2⟩:=hd.vf (y xs hq);subst e;exact⟨aw.refl _,hm,d,h1,h2⟩
theorem Hs{K:K2}{H1:Hp}{a:Addr}{xs:List V}{ds:List D}(h:Ek K H1 a xs)(hd:aB K H1 ds xs):tI K H1 (RH K a) (.fix ds):=λ H M es t hm e=>by cases e;have hq:=(Dg t h).sq;have hx:=aB.mono t ds hd;have hl:=hx.length;refine⟨λ i hi=>⟨xs,xs[i]'(by omega),hq,by simp[hl,hi]⟩,λ i hi=>⟨xs,hq,by omega⟩,λ i x H' hi y=>?_⟩;obtain⟨e,y⟩:=y;obtain⟨d,h1,h2⟩:=hx.vf (y xs hq);subst e;exact⟨aw.refl _,hm,d,h1,h2⟩
theorem uU{K:K2}{H1:Hp}{lo:Int}{n:Nat}:tI K H1 (RG lo n) (.fix (cO lo n)):=λ H M ds t hm e=>by cases e;rw[aM];refine⟨λ i hi=>hi,λ i hi=>E4 hi.symm,λ i x H' hi y=>?_⟩;obtain⟨e,rfl⟩:=y;subst e;exact⟨aw.refl _,hm,_,lU hi,ax.mpr rfl⟩
section
variable {X:Cx}{tg l:Expr}{tl:cw}{ta:fB}{a b:Expr}{p pos:Pos}
def Mj(tl:cw):kY:=λ δ M R=>tl δ M λ d M1=>match d with
 | .str z=>R (.fix (jo z)) M1
 | .tup ds=>R (.fix ds) M1
 | .fl ds=>R (.fix ds) M1
 | .ref a=>match M1 a with
  |some (.lst _)=>R (.at a) M1
  |_=>False
 |_=>False
theorem KU(hl:QE X l tl):QI X tg l (Mj tl):=Bz (Lk hl) λ σ H R ⟨δ,M,R2,hs,hm,q,k⟩=>by
 refine⟨δ,M,_,hs,hm,q,λ x H1 d M1 hd cb t1 q1=>?_⟩;cases d with
 |str z=>cases(aY.mp hd);exact k _ H1 _ M1 Cr cb t1 q1
 |tup ds=>obtain⟨p,xs,rfl,hq,hx⟩:=aU.mp hd;exact .inr ⟨xs,hq,k _ H1 _ M1 (Cq hq hx) cb t1 q1⟩
 |fl ds=>obtain⟨p,xs,rfl,hq,hx⟩:=il.mp hd;exact .inl ⟨xs,hq.sq,k _ H1 _ M1 (Hs hq hx) cb t1 q1⟩
 |ref a=>
  cases(aE.mp hd);have q1:(match M1 a with|some (.lst _)=>R2 (.at a) M1|_=>False):=q1;cases e:M1 a with
  |none=>rw[e]at q1;exact q1.elim
  |some o=>
   cases o with
   |zP b kvs=>rw[e]at q1;exact q1.elim
   |uJ x=>rw[e]at q1;exact q1.elim
   |lst es=>rw[e]at q1;obtain⟨xs,hx,_⟩:=cb a _ e;exact .inl ⟨xs,dn.of hx,k _ H1 _ M1 Ct cb t1 q1⟩
 |_=>exact q1.elim
def Uo(j:Int):Prop:= -(2^62)<=j/\j < 2^62
theorem bL{j:Int}(h0: -1000000000<=j)(h1:j<=1000000000):Uo j:=by
 constructor
 ·exact Int.le_trans (by decide) h0
 ·exact u7 h1 (by decide)
def Co(ta:fB):kY:=λ δ M R=>ta δ M λ ds M1=>match ds with
 |[.int j]=>Uo j/\R (.fix (cO 0 j.toNat)) M1
 |_=>False
theorem yH(hg:Gl X "range")(hm:X.mg "range"=none)(ha:QA X [a] ta)(hs:starEach [a] X.env=[(false,eval a X.env)]:=by rfl):QI X tg (.Call (.Name "range" p) [a] [] pos) (Co ta):=Bz (yL hg hm ha hs) λ σ H R ⟨δ,M,R2,hs,hm,q,k⟩=>by
 refine⟨δ,M,_,hs,hm,q,λ xs H1 ds M1 hd cb t1 q1=>?_⟩;cases ds with
 |nil=>exact q1.elim
 |cons d r=>
  cases r with
  |cons d2 r2=>cases d <;> exact q1.elim
  |nil=>
   cases d with
   |int j=>obtain⟨x,r,rfl,hx,hr⟩:=ag.mp hd;cases(aq.mp hr);cases(ax.mp hx);obtain⟨⟨b1,b2⟩,q1⟩:=q1;exact⟨j,rfl,b1,b2,k _ H1 _ M1 uU cb t1 q1⟩
   |_=>exact q1.elim
end
end L3
namespace L3
open PySem PySem.Spec L2
def Kb(wi:kY)(g:fQ)(tb:jg):jg:=λ E δ M=>wi δ M λ src M1=>∃(B:Nat) (W:Nat->dk->Mem->Prop),W 0 δ M1/\∀i δ M,W i δ M->i<=B/\match items src M with
 |none=>False
 |some ds=>match ds[i]? with
  |none=>i=ds.length/\E.nx δ M
  |some d=>g d δ M λ δ2 M2=>tb {E with nx:=W (i+1),ct:=W (i+1),bk:=E.nx} δ2 M2
section
variable {X:Cx}{tg iter:Expr}{wi:kY}{g:fQ}{tb:jg}{body:List Stmt}{pos:Pos}
theorem KR(hp:PassesOwn (model X.prog X.w) X.A X.env X.xe)(hc:X.calm=true)(hi:QI X tg iter wi)(hg:QG X tg g)(hb:Ej X body tb)(hs:∀x,foldedSetIterable iter X.env x=pure x:=by intro _;rfl):QS X (.For tg iter body [] pos) (Kb wi g tb):=jN (Lg hp hc hi hg hb hs) λ E σ H ⟨δ,M,D2,hs,hm,q,k⟩=>by
 refine⟨δ,M,_,hs,hm,q,λ J H1 src M1 ok cb t1 q1=>?_⟩;obtain⟨B,W,w0,turn⟩:=q1;refine⟨λ i m σ' H'=>m=B+1 - i/\∃δ' M',cF X.K H' δ' σ'/\RelM X.K H' M'/\aw H1 H'/\W i δ' M',⟨B+1,rfl,δ,M1,hs.mono t1,cb,aw.refl _,w0⟩,?_⟩;rintro i m σ' H' ⟨rfl,δ',M',jf,fu,t',w'⟩;obtain⟨hB,h⟩:=turn i δ' M' w';cases ei:items src M' with
 |none=>rw[ei]at h;exact h.elim
 |some ds=>
  rw[ei]at h;obtain⟨go,stop,En⟩:=ok H' M' ds t' fu ei;cases ed:ds[i]? with
  |none=>simp only[ed]at h;exact .inl ⟨stop i h.1,k.nx σ' H' δ' M' jf fu (t1.trans t') h.2⟩
  |some d=>
   simp only[ed]at h;have CU:i < ds.length:=(g9.mp ed).1;refine .inr ⟨go i CU,λ σ2 H2=>∃δ2 M2,cF X.K H2 δ2 σ2/\RelM X.K H2 M2/\aw H1 H2/\W (i+1) δ2 M2,λ σ2 H2 ⟨δ2,M2,a,b,c,w2⟩=>⟨B+1 - (i+1),by omega,rfl,δ2,M2,a,b,c,w2⟩,λ x H2 y=>?_⟩;obtain⟨t2,sm,d',e',iW⟩:=En i x H2 CU y;rw[ed]at e';cases e';refine⟨d,δ',M',_,iW,jf.mono t2,sm,h,λ σ3 H3 δ3 M3 Rj HF t3 q3=>?_⟩;refine⟨δ3,M3,_,Rj,HF,q3,⟨?_,?_,?_,?_⟩⟩
   ·exact λ σ4 H4 δ4 M4 a b c w4=>⟨δ4,M4,a,b,t'.trans (t2.trans (t3.trans c)),w4⟩
   ·exact k.rt.mono (t1.trans (t'.trans (t2.trans t3)))
   ·exact k.nx.mono (t1.trans (t'.trans (t2.trans t3)))
   ·exact λ σ4 H4 δ4 M4 a b c w4=>⟨δ4,M4,a,b,t'.trans (t2.trans (t3.trans c)),w4⟩
end
end L3
namespace L3
open PySem PySem.Spec L2
def um(c:eM)(tb:jg):jg:=λ E δ M=>∃W:Nat->dk->Mem->Prop,(∃m,W m δ M)/\∀m δ M,W m δ M->c δ M λ b M1=>
 if b=true then ∃N:dk->Mem->Prop,(∀δ' M',N δ' M'->∃m',m' < m/\W m' δ' M')/\tb {E with nx:=N,ct:=N,bk:=E.nx} δ M1 else E.nx δ M1
section
variable {X:Cx}{c:Expr}{tc:eM}{tb:jg}{body:List Stmt}{pos:Pos}
theorem Bp(hp:PassesOwn (model X.prog X.w) X.A X.env X.xe)(hc:QT X c tc)(hb:Ej X body tb):QS X (.While c body [] pos) (um tc tb):=jN (Bw hp hc hb) λ E σ H ⟨δ,M,D2,hs,hm,q,k⟩=>by
 obtain⟨W,⟨m0,w0⟩,turn⟩:=q;refine⟨λ m σ' H'=>∃δ' M',cF X.K H' δ' σ'/\RelM X.K H' M'/\aw H H'/\W m δ' M',⟨m0,δ,M,hs,hm,aw.refl _,w0⟩,?_⟩;rintro m σ' H' ⟨δ',M',jf,fu,t',w'⟩;refine⟨δ',M',_,jf,fu,turn m δ' M' w',λ b H1 M1 cb t1 q1=>?_⟩;cases b with
 |false=>simp only[p7,J4]at q1;exact k.nx σ' H1 δ' M1 (jf.mono t1) cb (t'.trans t1) q1
 |true=>
  simp only[J7]at q1;obtain⟨N,hN,q1⟩:=q1;refine⟨λ σ2 H2=>∃δ2 M2,cF X.K H2 δ2 σ2/\RelM X.K H2 M2/\aw H H2/\N δ2 M2,λ σ2 H2 ⟨δ2,M2,a,b,c,n2⟩=>?_,?_⟩
  ·obtain⟨m',fu,w2⟩:=hN δ2 M2 n2;exact⟨m',fu,δ2,M2,a,b,c,w2⟩
  ·refine⟨δ',M1,_,jf.mono t1,cb,q1,⟨?_,?_,?_,?_⟩⟩
   ·exact λ σ4 H4 δ4 M4 a b c w4=>⟨δ4,M4,a,b,t'.trans (t1.trans c),w4⟩
   ·exact k.rt.mono (t'.trans t1)
   ·exact k.nx.mono (t'.trans t1)
   ·exact λ σ4 H4 δ4 M4 a b c w4=>⟨δ4,M4,a,b,t'.trans (t1.trans c),w4⟩
end
end L3
namespace L3
open PySem PySem.Spec L2
def iw(n:Nat)(fr:List Nat)(δ:dk):dk:=List.replicate n none++fr.map (λ j=>δ.getD j none)
theorem Ia{K:K2}{H:Hp}{δ:dk}{σ:L2.St}(h:cF K H δ σ)(n:Nat)(fr:List Nat):cF K H (iw n fr δ) (eV n fr σ):=by
 refine⟨by simp[iw,eV],λ i d e=>?_⟩;unfold iw at e;by_cases hi:i < n
 ·rw[c8 (by simpa using hi),i8,J8 hi]at e;cases e
 ·rw[c6 (by simpa using hi),k7,u9]at e;cases ej:fr[i - n]? with
  |none=>rw[ej]at e;cases e
  |some j=>
   rw[ej]at e;have e:δ.getD j none=some d:=B0 e;have hj:j < δ.length:=by refine y6 λ z=>?_;rw[c7,k8 z]at e;cases e
   have e':δ[j]?=some (some d):=by rw[c7,i5 hj]at e;rw[i5 hj];exact J5 some e
   obtain⟨v,hv,r⟩:=h.get j d e';refine⟨v,?_,r⟩;unfold eV;rw[c6 (by simpa using hi),k7,u9,ej];simp[c7,hv]
def fK(wi:kY)(g:fQ)(tt:eM)(te:cw)(n:Nat)(fr:List Nat):dk->Mem->(List D->Mem->Prop)->Prop:=λ δ M Q=>wi δ M λ src M1=>∃(B:Nat) (W:Nat->List D->Mem->Prop),W 0 [] M1/\∀i acc M,W i acc M->i<=B/\acc.length<=sizeLine/\match items src M with
 |none=>False
 |some ds=>match ds[i]? with
  |none=>i=ds.length/\Q acc M
  |some d=>g d (iw n fr δ) M λ δ2 M2=>tt δ2 M2 λ b M3=>if b=true then te δ2 M3 λ y M4=>W (i+1) (acc++[y]) M4 else W (i+1) acc M3
theorem fz{K:K2}{wi:kY}{g:fQ}{tt:eM}{te:cw}{n:Nat}{fr:List Nat}{Qe:List D->Mem->Prop}{σ:L2.St}{δ:dk}{H:Hp}{M:Mem}{Q:V->Hp->Prop}{gv:TG}(WY:∀v σ H Q,Iu K g v σ H Q->gv v σ H Q)(hs:cF K H δ σ)(hm:RelM K H M)(q:fK wi g tt te n fr δ M Qe) (k:∀acc xs H' M' p,aB K H' acc xs->RelM K H' M'->aw H H'->acc.length<=sizeLine->H' p=none->Qe acc M'->Q (.ref p) (upd H' p (.lst xs))):lH (Nf K wi) gv (vT K tt) (up K te) n fr σ H Q:=by
 refine⟨δ,M,_,hs,hm,q,λ J H1 src M1 ok cb t1 q1=>?_⟩;obtain⟨B,W,w0,turn⟩:=q1;refine⟨λ i m xs H'=>m=B+1 - i/\∃acc M',aB K H' acc xs/\RelM K H' M'/\aw H1 H'/\W i acc M',⟨B+1,rfl,[],M1,by rw[aq],cb,aw.refl _,w0⟩,?_⟩;rintro i m xs H' ⟨rfl,acc,M',iW,fu,t',w'⟩;obtain⟨hB,hz,h⟩:=turn i acc M' w';refine⟨by rw[iW.length];exact hz,?_⟩;cases ei:items src M' with
 |none=>rw[ei]at h;exact h.elim
 |some ds=>
  rw[ei]at h;obtain⟨go,stop,En⟩:=ok H' M' ds t' fu ei;cases ed:ds[i]? with
  |none=>simp only[ed]at h;exact .inl ⟨stop i h.1,λ p hp=>k acc xs H' M' p iW fu (t1.trans t') hz hp h.2⟩
  |some d=>
   simp only[ed]at h;have CU:i < ds.length:=(g9.mp ed).1;refine .inr ⟨go i CU,λ ys H2=>∃Ih M2,aB K H2 Ih ys/\RelM K H2 M2/\aw H1 H2/\W (i+1) Ih M2,λ ys H2 ⟨Ih,M2,a,b,c,w2⟩=>⟨B+1 - (i+1),by omega,rfl,Ih,M2,a,b,c,w2⟩,λ x H2 y=>?_⟩;obtain⟨t2,sm,d',e',oD⟩:=En i x H2 CU y;rw[ed]at e';cases e';refine WY _ _ _ _ ⟨d,iw n fr δ,M',_,oD,Ia (hs.mono (t1.trans (t'.trans t2))) n fr,sm,h,λ σ3 H3 δ3 M3 Rj HF t3 q3=>?_⟩;refine⟨δ3,M3,_,Rj,HF,q3,λ b H4 M4 U4 t4 q4=>?_⟩;cases b with
   |false=>rw[J9 p5]at q4 ⊢;exact⟨acc,M4,aB.mono (t2.trans (t3.trans t4)) acc iW,U4,t'.trans (t2.trans (t3.trans t4)),q4⟩
   |true=>rw[J8 rfl]at q4 ⊢;exact⟨δ3,M4,_,Rj.mono t4,U4,q4,λ yv H5 y5 M5 Wa WH t5 q5=>⟨acc++[y5],M5,(aB.mono (t2.trans (t3.trans (t4.trans t5))) acc iW).append (aB.one Wa),WH,t'.trans (t2.trans (t3.trans (t4.trans t5))),q5⟩⟩
section
variable {X:Cx}{scope:Scope}{tgs:List Str}{fr:List Nat}{tg elt iter:Expr}{ifs:List Expr}{pos:Pos}{wi:kY}{g:fQ}{tt:eM}{te:cw}
abbrev RE(X:Cx)(ifs:List Expr)(t:eM):Prop:=NH X ifs (vT X.K t)
def q_:eM:=λ _ M Q=>Q true M
theorem FQ:RE X [] q_:=λ pins s σ H Q I h=>Gj pins s σ H Q I (by
 obtain⟨δ,M,Q2,hs,hm,q,k⟩:=h;exact k _ _ _ hm (aw.refl H) q)
theorem FP{c:Expr}{t:eM}(h:QT X c t):RE X [c] t:=Gi h
def Qk(X:Cx)(scope:Scope)(tgs:List Str)(fr:List Nat)(tg:Expr)(g2:fQ):Prop:=
 ∃g:TG,(∀cl C fp s H,PG (bH X scope cl tgs fr C fp s H) tg g)/\iB tgs.length g/\∀v σ H Q,Iu X.K g2 v σ H Q->g v σ H Q
theorem Ex{i:Nat}{x:Str}{ps:Pos}(h:∀cl C fp s H,PG (bH X scope cl tgs fr C fp s H) (.Name x ps) (cB i))(hi:i < tgs.length):Qk X scope tgs fr (.Name x ps) (hName i):=⟨_,h,gW hi,jw⟩
def DT(g:TG):Prop:=∀x σ H Q Q',(∀σ' H',Q σ' H'->Q' σ' H')->g x σ H Q->g x σ H Q'
def qz(g:xP):Prop:=∀xs σ H Q Q',(∀σ' H',Q σ' H'->Q' σ' H')->g xs σ H Q->g xs σ H Q'
theorem eE{i:Nat}:DT (cB i):=λ x σ H Q Q' k q=>k _ _ q
theorem mD:qz pY:=λ xs σ H Q Q' k q=>⟨q.1,k _ _ q.2⟩
theorem kQ{t:TG}{u:xP}(ht:DT t)(hu:qz u):qz (dH t u):=λ xs σ H Q Q' k ⟨v,r,e,q⟩=>⟨v,r,e,ht v σ H _ _ (λ σ' H' q'=>hu r σ' H' _ _ k q') q⟩
theorem iX{n:Nat}{t:TG}{u:xP}(h:iB n t)(k:kZ n u)(ht:DT t)(hu:qz u):kZ n (dH t u):=λ xs σ H Q ⟨v,r,e,q⟩=>by refine⟨v,r,e,ht v σ H _ _ (λ σ' H' ⟨q',l',k'⟩=>?_) (h v σ H _ q)⟩;refine hu r σ' H' _ _ (λ σ2 H2 ⟨q2,l2,k2⟩=>⟨q2,l2.trans l',λ j hj=>(k2 j hj).trans (k' j hj)⟩) (k r σ' H' _ q')
theorem De{K:K2}{m n:Nat}{t:xP}(h:kZ m t):iB m (sv K n t):=λ x σ H Q ⟨a,xs,e,hq,hl,q⟩=>⟨a,xs,e,hq,hl,h xs σ H _ q⟩
theorem ym{K:K2}{i j:Nat}:∀v σ H Q,Iu K (ny 2 (cN (hName i) (cN (hName j) nA))) v σ H Q->sv K 2 (dH (cB i) (dH (cB j) pY)) v σ H Q:=λ v σ H Q ⟨d,δ,M,Q2,hd,hs,hm,q,k⟩=>by
 cases d with
 |tup ds=>
  obtain⟨p,xs,rfl,hq,hx⟩:=aU.mp hd;obtain⟨hl,q⟩:=q
  match ds,hl,hx,q with
  |[a,b],hl,hx,q=>obtain⟨x,r,rfl,ha,hx⟩:=ag.mp hx;obtain⟨y,r,rfl,hb,hx⟩:=ag.mp hx;cases(aq.mp hx);exact⟨p,[x,y],rfl,hq,rfl,x,[y],rfl,y,[],rfl,rfl,k _ H _ M ((hs.set ha).set hb) hm (aw.refl H) q⟩
 |_=>exact q.elim
theorem Ew{i j k:Nat}{x y:Str}{px py pt:Pos}(h:∀cl C fp s H,PG (bH X scope cl tgs fr C fp s H) (.Tuple [.Name x px,.Name y py] k pt) (sv X.K 2 (dH (cB i) (dH (cB j) pY))))(hi:i < tgs.length)(hj:j < tgs.length):Qk X scope tgs fr (.Tuple [.Name x px,.Name y py] k pt) (ny 2 (cN (hName i) (cN (hName j) nA))):=
 ⟨_,h,De (iX (gW hi) (iX (gW hj) Df eE mD) eE (kQ eE mD)),ym⟩
def iD(X:Cx)(scope:Scope)(tgs:List Str)(fr:List Nat)(tg iter:Expr)(ifs:List Expr)(elt:Expr)(wi:kY)(g:fQ)(tt:eM)(te:cw):Prop:=
 jd X scope fr/\X.calm=true/\(∀e s,X.xe e s->False)/\QI X tg iter wi/\Qk X scope tgs fr tg g/\(∀cl C fp s H,RE (bH X scope cl tgs fr C fp s H) ifs tt)/\(∀cl C fp s H,QE (bH X scope cl tgs fr C fp s H) elt te)
def rg(wi:kY)(g:fQ)(tt:eM)(te:cw)(n:Nat)(fr:List Nat):cw:=λ δ M Q=>fK wi g tt te n fr δ M λ ds M'=>∀p,M' p=none->Q (.ref p) (ah M' p (.lst ds))
theorem K'(C:iD X scope tgs fr tg iter ifs elt wi g tt te)(hs:∀x,foldedSetIterable iter X.env x=pure x:=by intro _;rfl):QE X (.ListComp elt [⟨tg,iter,ifs,0⟩] scope pos) (rg wi g tt te tgs.length fr):=by obtain⟨B,hc,hE,hi,⟨gv,hg,gk,gl⟩,ht,he⟩:=C;refine b_ (iR (tt:=vT X.K tt) (te:=up X.K te) B hc hE hi hg gk ht he hs) ?_;rintro σ H Q ⟨δ,M,Q2,hs,hm,q,k⟩;exact fz gl hs hm q λ acc xs H' M' p hd fu t' hz hp q'=>k _ _ (.ref p) _ (aE.mpr rfl) (cX hp hd fu) (t'.trans (aw.laid hp)) (q' p (fu.free hp))
theorem ux{i:Nat}{y:Str}{py qU:Pos}(hN:X.N.Nodup)(hiy:X.N[i]?=some y)(hy:Loc X.env.scope y)(C:iD X scope tgs fr tg iter ifs elt wi g tt te) (hsw:swapsWith (.ListComp elt [⟨tg,iter,ifs,0⟩] scope pos) (some (.Name y py)) qU.line X.env=pure true:=by rfl) (hf:X.fn y=true\/X.env.scope.names.lookup y=some .local:=by first|exact .inl rfl|exact .inr rfl|assumption) (hs:∀x,foldedSetIterable iter X.env x=pure x:=by intro _;rfl):QS X (.Assign [.Name y py] (.ListComp elt [⟨tg,iter,ifs,0⟩] scope pos) qU) (rh (rg wi g tt te tgs.length fr) (hName i)):=by obtain⟨B,hc,hE,hi,⟨gv,hg,gk,gl⟩,ht,he⟩:=C;refine jN (uD (tt:=vT X.K tt) (te:=up X.K te) hN hiy hy B hc hE hi hg gk ht he hsw hf hs) ?_;rintro E σ H ⟨δ,M,D2,hs,hm,q,k⟩;exact fz gl hs hm q λ acc xs H' M' p hd fu t' hz hp q'=>k.nx _ _ _ _ (((hs.mono t').mono (aw.laid hp)).set (aE.mpr rfl)) (cX hp hd fu) (t'.trans (aw.laid hp)) (q' p (fu.free hp))
def yx(r3:List D->Mem->bR->Prop)(wi:kY)(g:fQ)(tt:eM)(te:cw)(n:Nat)(fr:List Nat):cw:=λ δ M Q=>fK wi g tt te n fr δ M λ ds M'=>r3 ds M' Q
def jR(r2:List D->Mem->bR->Prop)(r3:List D->Mem->bR->Prop):Prop:=∀ds M p Q,M p=none->ds.length<=sizeLine->r3 ds M Q->r2 [.ref p] (ah M p (.lst ds)) (fin2 Q)
theorem sA{K:K2}{H:Hp}{Q2:bR}{Q:VK}(k:jc K H Q2 Q):jc K H (fin2 Q2) Q:=λ v H' d M' hd hm t ⟨oQ,s,q⟩=>k v H' d oQ hd (hm.sub s) t q
variable {x:Str}{p:Pos}{id T:String}{bS:Pos}
theorem qP{r:List V->Hp->VK->Prop}{r2 r3:List D->Mem->bR->Prop}{gv:TG}(gl:∀v σ H Q,Iu X.K g v σ H Q->gv v σ H Q)(hr:MV X.K r r2)(h3:jR r2 r3):∀σ H Q,up X.K (yx r3 wi g tt te tgs.length fr) σ H Q->Qz r (Ag (lH (Nf X.K wi) gv (vT X.K tt) (up X.K te) tgs.length fr) JS) σ H Q:=by rintro σ H Q ⟨δ,M,Q2,hs,hm,q,k⟩;show lH (Nf X.K wi) gv (vT X.K tt) (up X.K te) tgs.length fr σ H (λ x H1=>r [x] H1 Q);refine fz gl hs hm q λ acc xs H' M' p hd fu t' hz hp q'=>?_;exact hr [.ref p] [.ref p] _ _ (fin2 Q2) Q (aB.one (aE.mpr rfl)) (cX hp hd fu) (h3 acc M' p Q2 (fu.free hp) hz q') (sA (k.mono (t'.trans (aw.laid hp))))
theorem K4{r2 r3:List D->Mem->bR->Prop}(o:dM X (.builtin id) r2)(h3:jR r2 r3)(hg:Gl X x)(hm:X.mg x=none)(hv:bootBuiltins x=some (.builtin id))(C:iD X scope tgs fr tg iter ifs elt wi g tt te)(hn:x≠"__name__":=by decide)(hdb:(x==("__debug__":Str))=false:=by decide) (hs:∀x,foldedSetIterable iter X.env x=pure x:=by intro _;rfl):QE X (.Call (.Name x p) [.ListComp elt [⟨tg,iter,ifs,0⟩] scope bS] [] pos) (yx r3 wi g tt te tgs.length fr):=by obtain⟨B,hc,hE,hi,⟨gv,Mt,gk,gl⟩,ht,he⟩:=C;obtain⟨r,ho,hr⟩:=o;exact b_ (rK ho hg hm hv (fL (iR (tt:=vT X.K tt) (te:=up X.K te) B hc hE hi Mt gk ht he hs) ie) hn hdb) (qP gl hr h3)
theorem KZ{r2 r3:List D->Mem->bR->Prop}(o:dM X (.type T) r2)(h3:jR r2 r3)(hg:Gl X x)(hm:X.mg x=none)(hv:bootBuiltins x=some (.type T))(C:iD X scope tgs fr tg iter ifs elt wi g tt te)(hn:x≠"__name__":=by decide)(hdb:(x==("__debug__":Str))=false:=by decide) (hs:∀x,foldedSetIterable iter X.env x=pure x:=by intro _;rfl):QE X (.Call (.Name x p) [.ListComp elt [⟨tg,iter,ifs,0⟩] scope bS] [] pos) (yx r3 wi g tt te tgs.length fr):=by obtain⟨B,hc,hE,hi,⟨gv,Mt,gk,gl⟩,ht,he⟩:=C;obtain⟨r,ho,hr⟩:=o;exact b_ (gP ho hg hm hv (fL (iR (tt:=vT X.K tt) (te:=up X.K te) B hc hE hi Mt gk ht he hs) ie) hn hdb) (qP gl hr h3)
variable {o:Expr}{to:cw}{name:Str}{apos:Pos}
def AD(T:String)(r3:D->List D->Mem->bR->Prop)(to:cw)(wi:kY)(g:fQ)(tt:eM)(te:cw)(n:Nat)(fr:List Nat):cw:=λ δ M Q=>to δ M λ d M1=>Ng T d M1/\fK wi g tt te n fr δ M1 λ ds M'=>r3 d ds M' Q
def vK(r2:D->List D->Mem->bR->Prop)(r3:D->List D->Mem->bR->Prop):Prop:=∀d ds M p Q,M p=none->ds.length<=sizeLine->r3 d ds M Q->r2 d [.ref p] (ah M p (.lst ds)) (fin2 Q)
theorem K3{r2 r3:D->List D->Mem->bR->Prop}(pa:PlainAttrs T)(slot:Slot T name id)(hty:typeOf (.builtin id)=pure (.type "method_descriptor"))(hm:Ip X id r2)(h3:vK r2 r3)(ho:QE X o to)(C:iD X scope tgs fr tg iter ifs elt wi g tt te) (hs:∀x,foldedSetIterable iter X.env x=pure x:=by intro _;rfl) (hbase:attributeBase o name X.env (eval o X.env)=eval o X.env:=by rfl) (hfew:((backTo pos (starEach [.ListComp elt [⟨tg,iter,ifs,0⟩] scope bS] X.env)).all (λ x=>!x.1)&&(backToKw pos (keywordEach [] X.env)).all (λ x=>x.1.isSome)
   &&decide (([.ListComp elt [⟨tg,iter,ifs,0⟩] scope bS]:List Expr).length+([]:List Keyword).length+(if([]:List Keyword).isEmpty then 0 else 1) < 30))=true:=by rfl)
  (hline:(apos.endLine==pos.line)=true:=by rfl):
  QE X (.Call (.Attribute o name apos) [.ListComp elt [⟨tg,iter,ifs,0⟩] scope bS] [] pos) (AD T r3 to wi g tt te tgs.length fr):=by
 obtain⟨B,hc,hE,hi,⟨gv,Mt,gk,gl⟩,ht,he⟩:=C;obtain⟨r,h1,hr⟩:=hm;refine b_ (IS pa slot hty h1 ho (fL (iR (tt:=vT X.K tt) (te:=up X.K te) B hc hE hi Mt gk ht he hs) ie) hbase hfew hline) ?_;rintro σ H Q ⟨δ,M,Q2,hs,hm,q,k⟩;refine⟨δ,M,_,hs,hm,q,λ x H1 d M1 hd cb t1 q1=>⟨q1.1.v hd cb,?_⟩⟩;show lH (Nf X.K wi) gv (vT X.K tt) (up X.K te) tgs.length fr σ H1 (λ y H2=>r x [y] H2 Q);refine fz gl (hs.mono t1) cb q1.2 λ acc xs H' M' p pX fu t' hz hp q'=>?_;exact hr x [.ref p] d [.ref p] _ _ (fin2 Q2) Q (Dat.mono (t'.trans (aw.laid hp)) d hd) (aB.one (aE.mpr rfl)) (cX hp pX fu) (h3 d acc M' p Q2 (fu.free hp) hz q') (sA (k.mono (t1.trans (t'.trans (aw.laid hp)))))
end
end L3
namespace L3
open PySem PySem.Spec L2
section
variable {X:Cx}
def dI(C:Int->Int->Prop)(g:Int->Int->D):gH:=λ x y M Q=>match x,y with
 | .int i,.int j=>C i j/\Q (g i j) M
 |_,_=>False
def Jt(g:Int->Int->D):gH:=λ x y M Q=>match x,y with
 | .int i,.int j=>Q (g i j) M
 |_,_=>False
theorem si{f:Value->Value->Sem Value}{C:Int->Int->Prop}{g:Int->Int->Int}(h:fF X f (rI C λ i j=>.int (g i j))):fX X f (dI C λ i j=>.int (g i j)):=⟨_,h,λ x y d e H M Q2 Q hd he hm q k=>by
 cases d <;> cases e <;> first
  |exact q.elim
  |(cases(ax.mp hd);cases(ax.mp he);exact⟨_,_,rfl,rfl,q.1,k _ H _ M (ax.mpr rfl) hm (aw.refl H) q.2⟩)⟩
theorem Uw{f:Value->Value->Sem Value}{g:Int->Int->Int}(h:fF X f (DY λ i j=>.int (g i j))):fX X f (Jt λ i j=>.int (g i j)):=⟨_,h,λ x y d e H M Q2 Q hd he hm q k=>by
 cases d <;> cases e <;> first
  |exact q.elim
  |(cases(ax.mp hd);cases(ax.mp he);exact⟨_,_,rfl,rfl,k _ H _ M (ax.mpr rfl) hm (aw.refl H) q⟩)⟩
theorem R_{f:Value->Value->Sem Value}{g:Int->Int->Bool}(h:fF X f (DY λ i j=>.bl (g i j))):fX X f (Jt λ i j=>.bl (g i j)):=⟨_,h,λ x y d e H M Q2 Q hd he hm q k=>by
 cases d <;> cases e <;> first
  |exact q.elim
  |(cases(ax.mp hd);cases(ax.mp he);exact⟨_,_,rfl,rfl,k _ H _ M (bq.mpr rfl) hm (aw.refl H) q⟩)⟩
theorem rN:fX X (binaryOp .Sub) (Jt λ i j=>.int (i - j)):=Uw Lx
theorem fm:fX X (binaryOp .Mod) (dI (λ _ j=>0 < j) λ i j=>.int (i % j)):=si LD
theorem l_:fX X (binaryOp .FloorDiv) (dI Nd λ i j=>.int (i / j)):=si Gx
theorem wJ:fX X (binaryOp .Pow) (dI Qv λ i j=>.int (i^j.toNat)):=si Lz
theorem BP:fX X (binaryOp .BitXor) (Jt λ i j=>.int (Builtin.bitXor i j)):=Uw Lw
theorem lZ:fX X (compareOp .Lt) (Jt λ i j=>.bl (decide (i < j))):=R_ OD
theorem uM:fX X (compareOp .Gt) (Jt λ i j=>.bl (decide (j < i))):=R_ OE
theorem Sw:fX X (compareOp .GtE) (Jt λ i j=>.bl (decide (j<=i))):=R_ OF
def HU:gH:=λ x y M Q=>match x,y with
 | .int i,.int j=>Q (.int (i+j)) M
 | .str i,.str j=>i.length+j.length<=sizeLine/\Q (.str (i++j)) M
 | .tup xs,.tup ys=>xs≠[]/\xs.length+ys.length<=sizeLine/\Q (.tup (xs++ys)) M
 | .ref a,.ref b=>match M a,M b with
  |some (.lst xs),some (.lst ys)=>xs.length+ys.length<=sizeLine/\∀p,M p=none->Q (.ref p) (ah M p (.lst (xs++ys)))
  |_,_=>False
 |_,_=>False
theorem OK:fX X (binaryOp .Add) HU:=⟨_,LJ.or (uL.or (LI.or Gy)),λ x y d e H M Q2 Q hd he hm q k=>by
 cases d with
 |int i=>
  cases e with
  |int j=>cases(ax.mp hd);cases(ax.mp he);exact .inl ⟨_,_,rfl,rfl,k _ H _ M (ax.mpr rfl) hm (aw.refl H) q⟩
  |_=>exact q.elim
 |str i=>
  cases e with
  |str j=>cases(aY.mp hd);cases(aY.mp he);exact .inr (.inl ⟨_,_,rfl,rfl,q.1,k _ H _ M (aY.mpr rfl) hm (aw.refl H) q.2⟩)
  |_=>exact q.elim
 |tup xs=>
  cases e with
  |tup ys=>
   obtain⟨p,vs,rfl,hp,hx⟩:=aU.mp hd;obtain⟨p2,ws,rfl,ik,hy⟩:=aU.mp he;obtain⟨dj,hlen,q⟩:=q;refine .inr (.inr (.inr ⟨p,p2,vs,ws,rfl,rfl,hp,ik,?_,by rw[hx.length,hy.length];exact hlen,?_⟩))
   ·intro z;have:=hx.length;rw[z]at this;exact dj (j0.mp this.symm)
   ·refine⟨λ hz=>?_,λ hz p3 Eb=>?_⟩
    ·have Wb:ys=[]:=by have:=hy.length;rw[hz]at this;exact j0.mp this.symm
     subst Wb;rw[A6]at q;exact k _ H _ M (aU.mpr ⟨p,vs,rfl,hp,hx⟩) hm (aw.refl H) q
    ·exact k _ _ _ M (gN Eb (hx.append hy)) (hm.laid Eb) (aw.laid Eb) q
  |_=>exact q.elim
 |ref a=>
  cases e with
  |ref b=>
   cases(aE.mp hd);cases(aE.mp he);have q:(match M a,M b with|some (.lst xs),some (.lst ys)=>xs.length+ys.length<=sizeLine/\∀p,M p=none->Q2 (.ref p) (ah M p (.lst (xs++ys)))|_,_=>False):=q;cases ea:M a with
   |none=>rw[ea]at q;exact q.elim
   |some oa=>
    cases eb:M b with
    |none=>rw[ea,eb]at q;cases oa <;> exact q.elim
    |some ob=>
     cases oa with
     |zP b kvs=>rw[ea,eb]at q;exact q.elim
     |uJ x=>rw[ea,eb]at q;exact q.elim
     |lst xs=>
      cases ob with
      |zP b kvs=>rw[ea,eb]at q;exact q.elim
      |uJ x=>rw[ea,eb]at q;exact q.elim
      |lst ys=>rw[ea,eb]at q;obtain⟨vs,UP,Dq⟩:=hm a _ ea;obtain⟨ws,O3,Vm⟩:=hm b _ eb;refine .inr (.inr (.inl ⟨a,b,vs,ws,rfl,rfl,UP,O3,by rw[Dq.length,Vm.length];exact q.1,λ p hp=>?_⟩));exact k _ _ (.ref p) _ (aE.mpr rfl) (cX hp (Dq.append Vm) hm) (aw.laid hp) (q.2 p (hm.free hp))
  |_=>exact q.elim
 |_=>exact q.elim⟩
def HR:gH:=λ x y M Q=>match x,y with
 | .int i,.int j=>qA i j/\Q (.int (i*j)) M
 | .str z,.int n=>MulOk z n/\Q (.str (Txt.mul z n)) M
 |_,_=>False
theorem OJ:fX X (binaryOp .Mult) HR:=⟨_,LC.or uK,λ x y d e H M Q2 Q hd he hm q k=>by
 cases d <;> cases e <;> first
  |exact q.elim
  |(cases(ax.mp hd);cases(ax.mp he);exact .inl ⟨_,_,rfl,rfl,q.1,k _ H _ M (ax.mpr rfl) hm (aw.refl H) q.2⟩)
  |(cases(aY.mp hd);cases(ax.mp he);exact .inr ⟨_,_,rfl,rfl,q.1,k _ H _ M (aY.mpr rfl) hm (aw.refl H) q.2⟩)⟩
def mI:D->Option V
 | .bM=>some .bM
 | .bl b=>some (.bl b)
 | .int i=>some (.int i)
 | .str x=>some (.str x)
 |_=>none
theorem oH{K:K2}{H:Hp}{d:D}{x v:V}(e:mI d=some v)(h:Dat K H d x):x=v:=by
 cases d with
 |bM=>cases e;exact eG.mp h
 |bl b=>cases e;exact bq.mp h
 |int i=>cases e;exact ax.mp h
 |str z=>cases e;exact aY.mp h
 |ty n=>exact absurd e (by intro z;cases z)
 |ref a=>exact absurd e (by intro z;cases z)
 |tup xs=>exact absurd e (by intro z;cases z)
 |fl xs=>exact absurd e (by intro z;cases z)
theorem mH{d:D}{v:V}(e:mI d=some v):fV v=true:=by
 cases d with
 |bM=>cases e;rfl
 |bl b=>cases e;rfl
 |int i=>cases e;rfl
 |str z=>cases e;rfl
 |ty n=>exact absurd e (by intro z;cases z)
 |ref a=>exact absurd e (by intro z;cases z)
 |tup xs=>exact absurd e (by intro z;cases z)
 |fl xs=>exact absurd e (by intro z;cases z)
def ML(neg:Bool):gH:=λ x y M Q=>match x,y with
 | .int i,.int j=>Q (.bl (xor neg (decide (i=j)))) M
 | .bl i,.bl j=>Q (.bl (xor neg (decide (i=j)))) M
 | .str i,.str j=>Q (.bl (xor neg (decide (i=j)))) M
 |_,_=>False
theorem Sy:fX X (compareOp .Eq) (ML false):=⟨_,OG,λ x y d e H M Q2 Q hd he hm q k=>by
 cases d <;> cases e <;> first
  |exact q.elim
  |(cases(ax.mp hd);cases(ax.mp he);refine⟨rfl,k _ H _ M (bq.mpr rfl) hm (aw.refl H) ?_⟩;have q:Q2 (.bl (xor false (decide (_=_)))) M:=q;simpa using q)
  |(cases(bq.mp hd);cases(bq.mp he);refine⟨rfl,k _ H _ M (bq.mpr rfl) hm (aw.refl H) ?_⟩;have q:Q2 (.bl (xor false (decide (_=_)))) M:=q;simpa using q)
  |(cases(aY.mp hd);cases(aY.mp he);refine⟨rfl,k _ H _ M (bq.mpr rfl) hm (aw.refl H) ?_⟩;have q:Q2 (.bl (xor false (decide (_=_)))) M:=q;simpa using q)⟩
theorem Su:fX X (compareOp .NotEq) (ML true):=⟨_,OC,λ x y d e H M Q2 Q hd he hm q k=>by
 cases d <;> cases e <;> first
  |exact q.elim
  |(cases(ax.mp hd);cases(ax.mp he);refine⟨rfl,k _ H _ M (bq.mpr rfl) hm (aw.refl H) ?_⟩;have q:Q2 (.bl (xor true (decide (_=_)))) M:=q;simpa using q)
  |(cases(bq.mp hd);cases(bq.mp he);refine⟨rfl,k _ H _ M (bq.mpr rfl) hm (aw.refl H) ?_⟩;have q:Q2 (.bl (xor true (decide (_=_)))) M:=q;simpa using q)
  |(cases(aY.mp hd);cases(aY.mp he);refine⟨rfl,k _ H _ M (bq.mpr rfl) hm (aw.refl H) ?_⟩;have q:Q2 (.bl (xor true (decide (_=_)))) M:=q;simpa using q)⟩
def MJ(neg:Bool):gH:=λ x y M Q=>match y with
 | .bM=>match x with
  | .bM=>Q (.bl (!neg)) M
  |_=>Q (.bl neg) M
 |_=>False
theorem Dv{K:K2}{H:Hp}{d:D}{x:V}(h:Dat K H d x):decide (x=.bM)=match d with| .bM=>true|_=>false:=by
 cases d with
 |bM=>cases(eG.mp h);rfl
 |bl b=>cases(bq.mp h);rfl
 |int b=>cases(ax.mp h);rfl
 |str b=>cases(aY.mp h);rfl
 |ty b=>cases(vm.mp h);rfl
 |ref b=>cases(aE.mp h);rfl
 |tup b=>obtain⟨p,xs,rfl,_⟩:=aU.mp h;rfl
 |fl b=>obtain⟨p,xs,rfl,_⟩:=il.mp h;rfl
theorem IU:fX X (compareOp .Is) (MJ false):=⟨_,LF,λ x y d e H M Q2 Q hd he hm q k=>by
 cases e with
 |bM=>refine⟨eG.mp he,?_⟩;rw[Dv hd];refine k _ H _ M (bq.mpr rfl) hm (aw.refl H) ?_;cases d <;> exact q
 |_=>exact q.elim⟩
def hV:List D->Option (List V)
 |[]=>some []
 |d::r=>match mI d,hV r with
  |some v,some vs=>some (v::vs)
  |_,_=>none
theorem mG{K:K2}{H:Hp}:∀{ds:List D} {xs vs:List V},hV ds=some vs->aB K H ds xs->xs=vs/\vs.all fV=true
 |[],xs,vs,e,h=>by cases e;exact⟨aq.mp h,rfl⟩
 |d::r,xs,vs,e,h=>by
  obtain⟨x,ys,rfl,hx,hy⟩:=ag.mp h;unfold hV at e;cases e1:mI d with
  |none=>rw[e1]at e;cases e
  |some v=>
   cases e2:hV r with
   |none=>rw[e1,e2]at e;cases e
   |some ws=>rw[e1,e2]at e;cases e;obtain⟨h1,h2⟩:=mG e2 hy;exact⟨by rw[oH e1 hx,h1],by rw[all_cons,mH e1,h2];rfl⟩
def inD(x:D)(ds:List D):Option Bool:=match mI x,hV ds with
 |some v,some vs=>some (CA v vs)
 |_,_=>none
def Rz:gH:=λ x y M Q=>match y with
 | .str j=>match x with
  | .str i=>Q (.bl (!(Builtin.Str.occurrences j i 0 j.length 1).isEmpty)) M
  |_=>False
 | .tup ds=>match inD x ds with
  |some b=>Q (.bl b) M
  |none=>False
 | .ref a=>match M a with
  |some (.lst ds)=>match inD x ds with
   |some b=>Q (.bl b) M
   |none=>False
  |_=>False
 |_=>False
theorem CC{K:K2}{H:Hp}{x:V}{xs:List V}{d:D}{ds:List D}{b:Bool}(e:inD d ds=some b)(hd:Dat K H d x)(hx:aB K H ds xs):fV x=true/\xs.all fV=true/\CA x xs=b:=by
 unfold inD at e;cases e1:mI d with
 |none=>rw[e1]at e;cases e
 |some v=>
  cases e2:hV ds with
  |none=>rw[e1,e2]at e;cases e
  |some vs=>rw[e1,e2]at e;have e:CA v vs=b:=B0 e;obtain⟨rfl,h2⟩:=mG e2 hx;cases(oH e1 hd);exact⟨mH e1,h2,e⟩
theorem Sv:fX X (compareOp .In) Rz:=⟨_,yM.or yN,λ x y d e H M Q2 Q hd he hm q k=>by
 cases e with
 |str j=>
  cases(aY.mp he);cases d with
  |str i=>cases(aY.mp hd);exact .inl ⟨_,_,rfl,rfl,k _ H _ M (bq.mpr rfl) hm (aw.refl H) q⟩
  |_=>exact q.elim
 |tup ds=>
  obtain⟨p,xs,rfl,hp,hx⟩:=aU.mp he;have q:(match inD d ds with|some b=>Q2 (.bl b) M|none=>False):=q;cases ei:inD d ds with
  |none=>rw[ei]at q;exact q.elim
  |some b=>rw[ei]at q;obtain⟨h1,h2,h3⟩:=CC ei hd hx;refine .inr ⟨p,xs,rfl,.inr hp,h1,h2,?_⟩;simp only[p7,J4];rw[h3];exact k _ H _ M (bq.mpr rfl) hm (aw.refl H) q
 |ref a=>
  cases(aE.mp he);have q:(match M a with|some (.lst ds)=>(match inD d ds with|some b=>Q2 (.bl b) M|none=>False)|_=>False):=q;cases ea:M a with
  |none=>rw[ea]at q;exact q.elim
  |some o=>
   cases o with
   |zP b kvs=>rw[ea]at q;exact q.elim
   |uJ x=>rw[ea]at q;exact q.elim
   |lst ds=>
    rw[ea]at q;obtain⟨xs,hx,dx⟩:=hm a _ ea;cases ei:inD d ds with
    |none=>simp only[ei]at q
    |some b=>simp only[ei]at q;obtain⟨h1,h2,h3⟩:=CC ei hd dx;refine .inr ⟨a,xs,rfl,.inl (dn.of hx),h1,h2,?_⟩;simp only[p7,J4];rw[h3];exact k _ H _ M (bq.mpr rfl) hm (aw.refl H) q
 |_=>exact q.elim⟩
end
end L3
namespace L3
open PySem PySem.Spec L2
theorem Ic{K:K2}{H:Hp}{ds:List D}{xs:List V}(h:aB K H ds xs){i:Int}{d:D}(e:eW ds i=some d):∃x,eW xs i=some x/\Dat K H d x:=by
 unfold eW at e ⊢;rw[h.length];cases q:za ds.length i with
 |none=>rw[q]at e;cases e
 |some j=>rw[q]at e;obtain⟨x,h1,h2⟩:=h.get (i:=j) e;exact⟨x,h1,h2⟩
section
variable {X:Cx}
def bc(M:Mem)(a:Addr):Option (List D):=match M a with
 |some (.lst ds)=>some ds
 |_=>none
theorem dQ{K:K2}{H:Hp}{M:Mem}{a:Addr}{ds:List D}(e:bc M a=some ds)(hm:RelM K H M):∃xs,H a=some (.lst xs)/\aB K H ds xs:=by
 unfold bc at e;cases q:M a with
 |none=>rw[q]at e;cases e
 |some o=>
  cases o with
  |zP b kvs=>rw[q]at e;cases e
  |uJ x=>rw[q]at e;cases e
  |lst es=>rw[q]at e;cases e;exact hm a _ q
def cz(M:Mem):D->Option (List D)
 | .tup ds=>some ds
 | .fl ds=>some ds
 | .ref a=>bc M a
 |_=>none
theorem fi{K:K2}{H:Hp}{M:Mem}{d:D}{v:V}{ds:List D}(e:cz M d=some ds)(hd:Dat K H d v)(hm:RelM K H M):∃p xs,v=.ref p/\(dn K H p xs\/fE K H p xs)/\aB K H ds xs:=by
 cases d with
 |tup es=>cases e;obtain⟨p,xs,rfl,h,q⟩:=aU.mp hd;exact⟨p,xs,rfl,.inr h,q⟩
 |fl es=>cases e;obtain⟨p,xs,rfl,h,q⟩:=il.mp hd;exact⟨p,xs,rfl,.inl h.sq,q⟩
 |ref a=>cases(aE.mp hd);obtain⟨xs,h,q⟩:=dQ e hm;exact⟨a,xs,rfl,.inl (dn.of h),q⟩
 |_=>cases e
def Ry:gH:=λ x y M Q=>match y with
 | .int i=>match x with
  | .str z=>z.length<=sizeLine/\(match eW z.cps.toList i with
   |some c=>Q (.str ⟨#[c]⟩) M
   |none=>False)
  |x=>match cz M x with
   |some ds=>(match eW ds i with
    |some d=>Q d M
    |none=>False)
   |none=>False
 |_=>False
theorem pS{x:V}{d:D}{i:Int}{H:Hp}{M:Mem}{Q2:bR}{Q:VK}{K:K2}(hd:Dat K H d x)(hm:RelM K H M)(k:jc K H Q2 Q) (q:match cz M d with|some ds=>(match eW ds i with|some d=>Q2 d M|none=>False)|none=>False):∃p xs v,x=.ref p/\(dn K H p xs\/fE K H p xs)/\eW xs i=some v/\Q v H:=by
 cases e:cz M d with
 |none=>rw[e]at q;exact q.elim
 |some ds=>
  rw[e]at q;cases ei:eW ds i with
  |none=>simp only[ei]at q
  |some d'=>simp only[ei]at q;obtain⟨p,xs,rfl,h,hx⟩:=fi e hd hm;obtain⟨v,h1,h2⟩:=Ic hx ei;exact⟨p,xs,v,rfl,h,h1,k v H d' M h2 hm (aw.refl H) q⟩
theorem aL:Ul X Ry:=⟨_,L2.aL,λ x y d e H M Q2 Q hd he hm q k=>by
 cases e with
 |int i=>
  cases(ax.mp he);cases d with
  |str z=>
   cases(aY.mp hd);obtain⟨hz,q⟩:=q;refine⟨hz,?_⟩;cases ei:eW z.cps.toList i with
   |none=>rw[ei]at q;exact q.elim
   |some c=>rw[ei]at q;exact⟨c,rfl,k _ H _ M (aY.mpr rfl) hm (aw.refl H) q⟩
  |tup ds=>obtain⟨p,xs,v,rfl,h⟩:=pS (d:=.tup ds) (i:=i) hd hm k q;exact⟨xs,v,h⟩
  |fl ds=>obtain⟨p,xs,v,rfl,h⟩:=pS (d:=.fl ds) (i:=i) hd hm k q;exact⟨xs,v,h⟩
  |ref a=>obtain⟨p,xs,v,rfl,h⟩:=pS (d:=.ref a) (i:=i) hd hm k q;exact⟨xs,v,h⟩
  |_=>exact q.elim
 |_=>exact q.elim⟩
def cutD(xs:List D)(lo hi:Option Int):List D:=(xs.drop (HT.cf xs.length 0 lo)).take (HT.cf xs.length xs.length hi - HT.cf xs.length 0 lo)
theorem sP{K:K2}{H:Hp}{ds:List D}{xs:List V}(h:aB K H ds xs)(lo hi:Option Int):aB K H (cutD ds lo hi) (sQ xs lo hi):=by unfold cutD sQ;rw[h.length];exact(h.drop _).take _
def Vn:D->Option Int->Option Int->Mem->bR->Prop:=λ x lo hi M Q=>match x with
 | .str z=>z.length<=sizeLine/\Q (.str (nK z lo hi)) M
 | .tup ds=>¬(HT.cf ds.length 0 lo=0/\HT.cf ds.length ds.length hi=ds.length)/\Q (.tup (cutD ds lo hi)) M
 | .ref a=>match bc M a with
  |some ds=>∀p,M p=none->Q (.ref p) (ah M p (.lst (cutD ds lo hi)))
  |none=>False
 |_=>False
theorem h_:Qn X Vn:=⟨_,L2.h_,λ x d lo hi H M Q2 Q hd hm q k=>by
 cases d with
 |str z=>cases(aY.mp hd);exact⟨q.1,k _ H _ M (aY.mpr rfl) hm (aw.refl H) q.2⟩
 |tup ds=>obtain⟨p,xs,rfl,h,hx⟩:=aU.mp hd;refine .inr ⟨p,xs,rfl,h,by rw[hx.length];exact q.1,λ p2 ik=>?_⟩;exact k _ _ _ M (gN ik (sP hx lo hi)) (hm.laid ik) (aw.laid ik) q.2
 |ref a=>
  cases(aE.mp hd);have q:(match bc M a with|some ds=>∀p,M p=none->Q2 (.ref p) (ah M p (.lst (cutD ds lo hi)))|none=>False):=q;cases e:bc M a with
  |none=>rw[e]at q;exact q.elim
  |some ds=>rw[e]at q;obtain⟨xs,h,hx⟩:=dQ e hm;exact .inl ⟨a,xs,rfl,dn.of h,λ p hp=>k _ _ (.ref p) _ (aE.mpr rfl) (cX hp (sP hx lo hi) hm) (aw.laid hp) (q p (hm.free hp))⟩
 |_=>exact q.elim⟩
def MI:List D->Mem->bR->Prop:=λ xs M Q=>match xs with
 |[.str z]=>z.length<=sizeLine/\Q (.int z.length) M
 |[x]=>match cz M x with
  |some ds=>Q (.int ds.length) M
  |none=>False
 |_=>False
theorem bN:dM X (.builtin "len") MI:=⟨_,qm.or qo,λ xs ds H M Q2 Q hd hm q k=>by
 cases ds with
 |nil=>exact q.elim
 |cons d r=>
  cases r with
  |cons d2 r2=>cases d <;> exact q.elim
  |nil=>
   obtain⟨x,r,rfl,hx,hr⟩:=ag.mp hd;cases(aq.mp hr);have seq:(match cz M d with|some ds=>Q2 (.int ds.length) M|none=>False)->∃p ys,[x]=[V.ref p]/\(dn X.K H p ys\/fE X.K H p ys)/\Q (.int ys.length) H:=λ q=>by
    cases e:cz M d with
    |none=>rw[e]at q;exact q.elim
    |some es=>rw[e]at q;obtain⟨p,ys,rfl,h,hy⟩:=fi e hx hm;refine⟨p,ys,rfl,h,?_⟩;rw[hy.length];exact k _ H _ M (ax.mpr rfl) hm (aw.refl H) q
   cases d with
   |str z=>cases(aY.mp hx);exact .inl ⟨z,rfl,q.1,k _ H _ M (ax.mpr rfl) hm (aw.refl H) q.2⟩
   |tup es=>exact .inr (seq q)
   |fl es=>exact .inr (seq q)
   |ref a=>exact .inr (seq q)
   |_=>exact q.elim⟩
def dList:List D->Mem->bR->Prop:=λ xs M Q=>match xs with
 |[x]=>match cz M x with
  |some ds=>∀p,M p=none->Q (.ref p) (ah M p (.lst ds))
  |none=>False
 |_=>False
theorem DJ:dM X (.type "list") dList:=⟨_,ql,λ xs ds H M Q2 Q hd hm q k=>by
 cases ds with
 |nil=>exact q.elim
 |cons d r=>
  cases r with
  |cons d2 r2=>exact q.elim
  |nil=>
   obtain⟨x,r,rfl,hx,hr⟩:=ag.mp hd;cases(aq.mp hr);have q:(match cz M d with|some ds=>∀p,M p=none->Q2 (.ref p) (ah M p (.lst ds))|none=>False):=q;cases e:cz M d with
   |none=>rw[e]at q;exact q.elim
   |some es=>
    rw[e]at q;obtain⟨p,ys,rfl,h,hy⟩:=fi e hx hm;exact⟨p,ys,rfl,h,λ l hl=>k _ _ (.ref l) _ (aE.mpr rfl) (cX hl hy hm) (aw.laid hl) (q l (hm.free hl))⟩⟩
def qd:List D->Mem->bR->Prop:=λ xs M Q=>match xs with
 |[x]=>match cz M x with
  |some ds=>Q (.tup ds) M
  |none=>False
 |_=>False
theorem bx:dM X (.type "tuple") qd:=⟨_,nL,λ xs ds H M Q2 Q hd hm q k=>by
 cases ds with
 |nil=>exact q.elim
 |cons d r=>
  cases r with
  |cons d2 r2=>exact q.elim
  |nil=>
   obtain⟨x,r,rfl,hx,hr⟩:=ag.mp hd;cases(aq.mp hr);have q:(match cz M d with|some ds=>Q2 (.tup ds) M|none=>False):=q;cases e:cz M d with
   |none=>rw[e]at q;exact q.elim
   |some es=>
    rw[e]at q;obtain⟨p,ys,rfl,h|h,hy⟩:=fi e hx hm
    ·exact⟨p,ys,rfl,.inl ⟨h,λ l hl=>k _ _ (.tup es) M (gN hl hy) (hm.laid hl) (aw.laid hl) q⟩⟩
    ·exact⟨p,ys,rfl,.inr ⟨h,k _ H (.tup es) M (aU.mpr ⟨p,ys,rfl,h,hy⟩) hm (aw.refl H) q⟩⟩⟩
theorem bU:jR qd (λ ds M Q=>Q (.tup ds) M):=λ ds M p Q hp hz q=>by
 show(match cz (ah M p (.lst ds)) (.ref p)with|some es=>fin2 Q (.tup es) (ah M p (.lst ds))|none=>False);have e:cz (ah M p (.lst ds)) (.ref p)=some ds:=by show bc (ah M p (.lst ds)) p=some ds;unfold bc;rw[af]
 rw[e];exact⟨M,(ko.refl M).put hp,q⟩
def kh:List D->Option (List Bool)
 |[]=>some []
 | .bl b::r=>(kh r).map (b::·)
 |_::_=>none
theorem mR:∀(bs:List Bool),kh (bs.map D.bl)=some bs
 |[]=>rfl
 |b::bs=>by rw[C9];unfold kh;rw[mR bs];rfl
theorem xK:∀{ds:List D} {bs:List Bool},kh ds=some bs->ds=bs.map D.bl
 |[],bs,e=>by cases e;rfl
 |d::r,bs,e=>by
  cases d with
  |bl b=>
   unfold kh at e;cases q:kh r with
   |none=>rw[q]at e;cases e
   |some cs=>rw[q]at e;cases e;rw[xK q];rfl
  |_=>cases e
def Qb:List D->Mem->bR->Prop:=λ xs M Q=>match xs with
 |[.ref a]=>match bc M a with
  |some ds=>match kh ds with
   |some bs=>Q (.bl (bs.all id)) M
   |none=>False
  |none=>False
 |_=>False
theorem Qj(hc:X.calm=true):dM X (.builtin "all") Qb:=⟨_,sY hc,λ xs ds H M Q2 Q hd hm q k=>by
 cases ds with
 |nil=>exact q.elim
 |cons d r=>
  cases r with
  |cons d2 r2=>cases d <;> exact q.elim
  |nil=>
   cases d with
   |ref a=>
    obtain⟨x,r,rfl,hx,hr⟩:=ag.mp hd;cases(aq.mp hr);cases(aE.mp hx);have q:(match bc M a with|some ds=>(match kh ds with|some bs=>Q2 (.bl (bs.all id)) M|none=>False)|none=>False):=q;cases e:bc M a with
    |none=>rw[e]at q;exact q.elim
    |some es=>
     rw[e]at q;cases eb:kh es with
     |none=>simp only[eb]at q
     |some bs=>simp only[eb]at q;obtain⟨ys,h,hy⟩:=dQ e hm;rw[xK eb]at hy;exact⟨a,bs,rfl,dn.of (by rw[h,sJ hy]),k _ H _ M (bq.mpr rfl) hm (aw.refl H) q⟩
   |_=>exact q.elim⟩
theorem jz{M:Mem}{p:Addr}{ds:List D}:bc (ah M p (.lst ds)) p=some ds:=by unfold bc;rw[af]
def xD:List D->Mem->bR->Prop:=λ ds M Q=>match kh ds with
 |some bs=>Q (.bl (bs.all id)) M
 |none=>False
theorem Er:jR Qb xD:=λ ds M p Q hp hz q=>by
 show(match bc (ah M p (.lst ds)) p with|some XS=>(match kh XS with|some bs=>fin2 Q (.bl (bs.all id)) (ah M p (.lst ds))|none=>False)|none=>False);rw[jz];unfold xD at q;cases eb:kh ds with
 |none=>rw[eb]at q;exact q.elim
 |some bs=>rw[eb]at q;simp only[eb];exact⟨M,(ko.refl M).put hp,q⟩
def m_(M:Mem):D->Option String
 | .bM=>some "NoneType"
 | .bl _=>some "bool"
 | .int _=>some "int"
 | .str _=>some "str"
 | .tup _=>some "tuple"
 | .fl _=>some "list"
 | .ref a=>(bc M a).map λ _=>"list"
 |_=>none
def pT(n T:String):Bool:=n==T||(n=="bool"&&T=="int")
structure fZ(K:K2)(T:String):Prop where
 bM:PySem.W.kitOne K (.type "NoneType") (.type T)=some (pT "NoneType" T)
 bl:PySem.W.kitOne K (.type "bool") (.type T)=some (pT "bool" T)
 int:PySem.W.kitOne K (.type "int") (.type T)=some (pT "int" T)
 str:PySem.W.kitOne K (.type "str") (.type T)=some (pT "str" T)
 tup:PySem.W.kitOne K (.type "tuple") (.type T)=some (pT "tuple" T)
 lst:PySem.W.kitOne K (.type "list") (.type T)=some (pT "list" T)
end
end L3
namespace L3
open PySem PySem.Spec L2
section
variable {X:Cx}
theorem DH:cW X (.builtin "isinstance") (λ xs H Q=>∃(x:V) (T n:String),xs=[x,.ty T]/\fZ X.K T/\
  ((x=.bM/\n="NoneType")\/(∃b,x=.bl b/\n="bool")\/(∃i,x=.int i/\n="int")\/(∃z,x=.str z/\n="str")\/(∃p ys,x=.ref p/\fE X.K H p ys/\n="tuple")\/(∃p ys,x=.ref p/\dn X.K H p ys/\n="list"))/\Q (.bl (pT n T)) H):=by
 intro pins s σ H xs us Q I r h;obtain⟨x,T,n,rfl,ok,hx,q⟩:=h;obtain⟨u,w',rfl,rx,ry⟩:=vals2 r;have e:w'=Value.type T:=ry;subst e;rcases hx with⟨rfl,rfl⟩|⟨b,rfl,rfl⟩|⟨i,rfl,rfl⟩|⟨z,rfl,rfl⟩|⟨p,ys,rfl,hq,rfl⟩|⟨p,ys,rfl,hq,rfl⟩
 ·exact gU I rx .bM ok.bM λ tk=>⟨.bl _,H,I.tok tk,rfl,q⟩
 ·exact gU I rx (.bl b) ok.bl λ tk=>⟨.bl _,H,I.tok tk,rfl,q⟩
 ·exact gU I rx (.int i) ok.int λ tk=>⟨.bl _,H,I.tok tk,rfl,q⟩
 ·exact gU I rx (.str z) ok.str λ tk=>⟨.bl _,H,I.tok tk,rfl,q⟩
 ·cases(show u=Value.ref p from rx);obtain⟨av,_,⟨o,h1,h2,_⟩,_⟩:=I.tuple hq;exact B4 PySem.W.kitx_tuple I.oB ⟨o,h1,h2⟩ ok.tup (λ z=>nomatch z) λ tk=>⟨.bl _,H,I.tok tk,rfl,q⟩
 ·cases(show u=Value.ref p from rx);obtain⟨av,_,pl,_⟩:=I.list hq;obtain⟨o,h1,h2,_⟩:=pl.isList;exact B4 PySem.W.kitx_list I.oB ⟨o,h1,h2⟩ ok.lst (λ z=>nomatch z) λ tk=>⟨.bl _,H,I.tok tk,rfl,q⟩
def Jr(T:String):List D->Mem->bR->Prop:=λ xs M Q=>match xs with
 |[x,.ty U]=>U=T/\(match m_ M x with
  |some n=>Q (.bl (pT n T)) M
  |none=>False)
 |_=>False
theorem fW{T:String}(ok:fZ X.K T):dM X (.builtin "isinstance") (Jr T):=⟨_,DH,λ xs ds H M Q2 Q hd hm q k=>by
 cases ds with
 |nil=>exact q.elim
 |cons d r0=>
 cases r0 with
 |nil=>exact q.elim
 |cons d2 r1=>
 cases r1 with
 |cons _ _=>cases d2 <;> exact q.elim
 |nil=>
 cases d2 with
 |ty U=>
  obtain⟨x,r,rfl,hx,hr⟩:=ag.mp hd;obtain⟨y,r2,rfl,hy,HA⟩:=ag.mp hr;cases(aq.mp HA);cases(vm.mp hy);obtain⟨rfl,q⟩:=q;cases e:m_ M d with
  |none=>rw[e]at q;exact q.elim
  |some n=>
   rw[e]at q;refine⟨x,U,n,rfl,ok,?_,k _ H _ M (bq.mpr rfl) hm (aw.refl H) q⟩;cases d with
   |bM=>cases e;exact .inl ⟨eG.mp hx,rfl⟩
   |bl b=>cases e;exact .inr (.inl ⟨b,bq.mp hx,rfl⟩)
   |int i=>cases e;exact .inr (.inr (.inl ⟨i,ax.mp hx,rfl⟩))
   |str z=>cases e;exact .inr (.inr (.inr (.inl ⟨z,aY.mp hx,rfl⟩)))
   |tup es=>cases e;obtain⟨p,ys,rfl,h,_⟩:=aU.mp hx;exact .inr (.inr (.inr (.inr (.inl ⟨p,ys,rfl,h,rfl⟩))))
   |fl es=>cases e;obtain⟨p,ys,rfl,h,_⟩:=il.mp hx;exact .inr (.inr (.inr (.inr (.inr ⟨p,ys,rfl,h.sq,rfl⟩))))
   |ref a=>
    cases el:bc M a with
    |none=>have e:(bc M a).map (λ _=>"list")=some n:=e;rw[el]at e;cases e
    |some es=>have e:(bc M a).map (λ _=>"list")=some n:=e;rw[el]at e;cases e;obtain⟨ys,h,_⟩:=dQ el hm;exact .inr (.inr (.inr (.inr (.inr ⟨a,ys,aE.mp hx,dn.of h,rfl⟩))))
   |ty n=>cases e
 |_=>exact q.elim⟩
def fg:List D->Option (List Str)
 |[]=>some []
 | .str z::r=>(fg r).map (z::·)
 |_::_=>none
theorem qR:∀{ds:List D} {zs:List Str},fg ds=some zs->ds=zs.map D.str
 |[],zs,e=>by cases e;rfl
 |d::r,zs,e=>by
  cases d with
  |str z=>
   unfold fg at e;cases q:fg r with
   |none=>rw[q]at e;cases e
   |some ys=>rw[q]at e;cases e;rw[qR q];rfl
  |_=>cases e
theorem nZ:∀(zs:List Str),fg (zs.map D.str)=some zs
 |[]=>rfl
 |b::bs=>by rw[C9];unfold fg;rw[nZ bs];rfl
def mP:D->List D->Mem->bR->Prop:=λ x ds M Q=>match x with
 | .str z=>match fg ds with
  |some ys=>(ys.map (·.length)).sum+ys.length*z.length<=16777216/\Q (.str (Txt.join z ys)) M
  |none=>False
 |_=>False
def Jq:D->List D->Mem->bR->Prop:=λ x vs M Q=>match vs with
 |[.ref a]=>match bc M a with
  |some ds=>mP x ds M Q
  |none=>False
 |_=>False
theorem L6:Ip X "str.join" Jq:=⟨_,GV,λ x xs d ds H M Q2 Q hx hd hm q k=>by
 cases ds with
 |nil=>exact q.elim
 |cons d1 r0=>
 cases r0 with
 |cons _ _=>cases d1 <;> exact q.elim
 |nil=>
 cases d1 with
 |ref a=>
  obtain⟨y,r,rfl,hy,hr⟩:=ag.mp hd;cases(aq.mp hr);cases(aE.mp hy);have q:(match bc M a with|some ds=>mP d ds M Q2|none=>False):=q;cases e:bc M a with
  |none=>rw[e]at q;exact q.elim
  |some es=>
   rw[e]at q;cases d with
   |str z=>
    have q:(match fg es with|some ys=>(ys.map (·.length)).sum+ys.length*z.length<=16777216/\Q2 (.str (Txt.join z ys)) M|none=>False):=q;cases es':fg es with
    |none=>rw[es']at q;exact q.elim
    |some ys=>rw[es']at q;obtain⟨vs,h,hv⟩:=dQ e hm;rw[qR es']at hv;exact⟨z,a,ys,aY.mp hx,rfl,dn.of (by rw[h,oI hv]),q.1,k _ H _ M (aY.mpr rfl) hm (aw.refl H) q.2⟩
   |_=>exact q.elim
 |_=>exact q.elim⟩
theorem Af:vK Jq mP:=λ d ds M p Q hp hz q=>by
 show(match bc (ah M p (.lst ds)) p with|some es=>mP d es (ah M p (.lst ds)) (fin2 Q)|none=>False);rw[jz];cases d with
 |str z=>
  have q:(match fg ds with|some ys=>(ys.map (·.length)).sum+ys.length*z.length<=16777216/\Q (.str (Txt.join z ys)) M|none=>False):=q;show(match fg ds with|some ys=>(ys.map (·.length)).sum+ys.length*z.length<=16777216/\fin2 Q (.str (Txt.join z ys)) (ah M p (.lst ds))|none=>False);cases e:fg ds with
  |none=>rw[e]at q;exact q.elim
  |some ys=>rw[e]at q;exact⟨q.1,M,(ko.refl M).put hp,q.2⟩
 |_=>exact q.elim
def PY:mU:=λ o i v M N=>match o,i with
 | .ref a,.int k=>match bc M a with
  |some ds=>(match za ds.length k with
   |some j=>N (ah M a (.lst (ds.set j v)))
   |none=>False)
  |none=>False
 |_,_=>False
theorem oh:MW X PY:=⟨_,set_list,λ o i v d j e H M Q2 Q hd hj he hm q k=>by
 cases d with
 |ref a=>
  cases j with
  |int n=>
   cases(aE.mp hd);cases(ax.mp hj);have q:(match bc M a with|some ds=>(match za ds.length n with|some j=>Q2 (ah M a (.lst (ds.set j e)))|none=>False)|none=>False):=q;cases el:bc M a with
   |none=>rw[el]at q;exact q.elim
   |some ds=>
    rw[el]at q;cases ei:za ds.length n with
    |none=>simp only[ei]at q
    |some m=>simp only[ei]at q;obtain⟨xs,h,hx⟩:=dQ el hm;refine⟨a,xs,n,m,rfl,rfl,h,by rw[hx.length];exact ei,?_⟩;exact k _ _ (hm.put (u:=.lst (ds.set m e)) (aw.lst h) ⟨_,bW,aB.mono (aw.lst h) _ (hx.set he m)⟩) (aw.lst h) q
  |_=>exact q.elim
 |_=>exact q.elim⟩
end
end L3
namespace L3
open PySem L2
section
variable {δ:dk}{M M1:Mem}{Q:bR}{ta tb tc:cw}{r r':gH}{E:jb}{t u:jg}{c c':eM}{QB:Bool->Mem->Prop}{tl:fB}{QL:List D->Mem->Prop}
theorem Kn(h:t {E with nx:=u E} δ M):AF t u E δ M:=h
theorem Bf(h:c δ M λ b M1=>if b=true then t E δ M1 else u E δ M1):EN c t u E δ M:=h
theorem Fc(h:E.nx δ M):wm E δ M:=h
theorem Ko(h:ta δ M E.rt):J_ ta E δ M:=h
theorem KD{g:fQ}(h:ta δ M λ d M1=>g d δ M1 E.nx):rh ta g E δ M:=h
theorem pA(h:ta δ M λ _ M1=>E.nx δ M1):rf ta E δ M:=h
theorem dB{i:Nat}{d:D}{N:dk->Mem->Prop}(h:N (δ.set i (some d)) M):hName i d δ M N:=h
theorem Kl{d:D}{N:dk->Mem->Prop}{s:mU}(h:ta δ M λ o M1=>tb δ M1 λ j M2=>s o j d M2 λ M3=>N δ M3):hSub ta tb s d δ M N:=h
theorem Km{a:Addr}{k:Int}{v:D}{ds:List D}{j:Nat}{N:Mem->Prop}(h:M a=some (.lst ds))(e:za ds.length k=some j)(q:N (ah M a (.lst (ds.set j v)))):PY (.ref a) (.int k) v M N:=by
 show(match bc M a with|some ds=>(match za ds.length k with|some j=>N (ah M a (.lst (ds.set j v)))|none=>False)|none=>False);have e1:bc M a=some ds:=by unfold bc;rw[h]
 rw[e1];simp only[e];exact q
theorem wo(h:ta δ M λ d M1=>match d with| .bl k=>QB k M1|_=>False):oj ta δ M QB:=h
theorem IH(h:ta δ M λ d M1=>tb δ M1 λ e M2=>r d e M2 Q):AH r ta tb δ M Q:=h
theorem ju{i:Nat}{d:D}(e:δ[i]?=some (some d))(h:Q d M):ic i δ M Q:=by unfold ic;rw[e];exact h
theorem Sd{d:D}(h:Q d M):sC d δ M Q:=h
theorem KG(h:c δ M λ b M1=>if b=true then c' δ M1 QB else QB false M1):Kc c c' δ M QB:=h
theorem N7(h:c δ M λ b M1=>if b=true then QB true M1 else c' δ M1 QB):Sa c c' δ M QB:=h
theorem Kp(h:c δ M λ b M1=>QB (!b) M1):J' c δ M QB:=h
theorem FE(h:ta δ M λ d M1=>match d with| .bl c=>(if c=true then tb δ M1 Q else Q (.bl false) M1)|_=>False):AN ta tb δ M Q:=h
theorem jv(h:QL [] M):yy δ M QL:=h
theorem kC(h:ta δ M λ d M1=>tl δ M1 λ ds M2=>QL (d::ds) M2):om ta tl δ M QL:=h
theorem Kj(h:tl δ M λ ds M1=>ds.length<=sizeLine/\Q (.tup ds) M1):JZ tl δ M Q:=h
theorem Kt(h:tl δ M λ ds M1=>ds.length<=sizeLine/\∀p,M1 p=none->Q (.ref p) (ah M1 p (.lst ds))):Ka tl δ M Q:=h
theorem N9{s:List D->Mem->bR->Prop}(h:tl δ M λ ds M1=>s ds M1 Q):Nj s tl δ M Q:=h
theorem Sb{sp:fb}(h:tl δ M λ ds M1=>sp ds M1 Q):sD sp tl δ M Q:=h
theorem N6{s:D->Option Int->Option Int->Mem->bR->Prop}{l h':Il}(h:ta δ M λ d M1=>l δ M1 λ i M2=>h' δ M2 λ j M3=>s d i j M3 Q):R' s ta l h' δ M Q:=h
theorem yE{QO:Option Int->Mem->Prop}(h:QO none M):pj δ M QO:=h
theorem Fb{QO:Option Int->Mem->Prop}(h:ta δ M λ d M1=>match d with| .int i=>QO (some i) M1|_=>False):AG ta δ M QO:=h
theorem wx{T:String}{s:D->List D->Mem->bR->Prop}(h:ta δ M λ d M1=>Ng T d M1/\tl δ M1 λ ds M2=>s d ds M2 Q):Nk T s ta tl δ M Q:=h
theorem dO(W:dk->Mem->Prop)(h1:∀N:dk->Mem->Prop,(∀δ' M',W δ' M'->N δ' M')->t {E with nx:=N} δ M)(h2:∀δ' M',W δ' M'->u E δ' M'):AF t u E δ M:=h1 (u E) h2
set_option tactic.hygienic true in
theorem nW{M:Mem}{a:Addr}{o:MO}(h:M a=some o):ah M a o=M:=by
 funext b;unfold ah;split
 ·rename_i e;rw[e,h]
 ·rfl
theorem bo{a:Addr}{i:Int}{ds:List D}{d:D}(h:M a=some (.lst ds))(e:eW ds i=some d)(q:Q d M):Ry (.ref a) (.int i) M Q:=by
 show(match bc M a with|some ds=>(match eW ds i with|some d=>Q d M|none=>False)|none=>False);have e1:bc M a=some ds:=by unfold bc;rw[h]
 rw[e1];simp only[e];exact q
theorem dN{i:Int}{ds:List D}{d:D}(e:eW ds i=some d)(q:Q d M):Ry (.tup ds) (.int i) M Q:=by show(match eW ds i with|some d=>Q d M|none=>False);rw[e];exact q
theorem uw{i:Int}{z:Str}{x:Nat}(hz:z.length<=sizeLine)(e:eW z.cps.toList i=some x)(q:Q (.str ⟨#[x]⟩) M):Ry (.str z) (.int i) M Q:=by refine⟨hz,?_⟩;show(match eW z.cps.toList i with|some c=>Q (.str ⟨#[c]⟩) M|none=>False);rw[e];exact q
theorem Fw{C:Int->Int->Prop}{g:Int->Int->D}{i j:Int}(h:C i j)(q:Q (g i j) M):dI C g (.int i) (.int j) M Q:=⟨h,q⟩
theorem uu{g:Int->Int->D}{i j:Int}(h:0 < j)(q:Q (g i j) M):dI (λ _ j=>0 < j) g (.int i) (.int j) M Q:=⟨h,q⟩
theorem KC{g:Int->Int->D}{i j:Int}(h:0 < j)(h2:j < 1073741824)(q:Q (g i j) M):dI Nd g (.int i) (.int j) M Q:=⟨⟨h,h2⟩,q⟩
theorem DE{i j:Int}(h0: -1000000000000<=i)(h1:i<=1000000000000):qA i j:=.inl ⟨Int.lt_of_lt_of_le (by decide) h0,u7 h1 (by decide)⟩
theorem vw{i j:Int}(h0: -1000000000000<=j)(h1:j<=1000000000000):qA i j:=.inr ⟨Int.lt_of_lt_of_le (by decide) h0,u7 h1 (by decide)⟩
theorem II{g:Int->Int->D}{i j:Int}(q:Q (g i j) M):Jt g (.int i) (.int j) M Q:=q
theorem FF{a b:Addr}{xs ys:List D}(ha:M a=some (.lst xs))(hb:M b=some (.lst ys))(h:xs.length+ys.length<=sizeLine)(q:∀p,M p=none->Q (.ref p) (ah M p (.lst (xs++ys)))):HU (.ref a) (.ref b) M Q:=by show(match M a,M b with|some (.lst xs),some (.lst ys)=>xs.length+ys.length<=sizeLine/\∀p,M p=none->Q (.ref p) (ah M p (.lst (xs++ys)))|_,_=>False);rw[ha,hb];exact⟨h,q⟩
theorem Fg{i j:Int}(h:qA i j)(q:Q (.int (i*j)) M):HR (.int i) (.int j) M Q:=⟨h,q⟩
theorem Ff{i:Str}{j:Int}(h:MulOk i j)(q:Q (.str (Txt.mul i j)) M):HR (.str i) (.int j) M Q:=⟨h,q⟩
theorem Kz{i j:Int}(q:Q (.bl (decide (i=j))) M):ML false (.int i) (.int j) M Q:=by show Q (.bl (xor false (decide (i=j)))) M;simpa using q
theorem KA{i j:Bool}(q:Q (.bl (decide (i=j))) M):ML false (.bl i) (.bl j) M Q:=by show Q (.bl (xor false (decide (i=j)))) M;simpa using q
theorem Kx{i j:Str}(q:Q (.bl (decide (i=j))) M):ML false (.str i) (.str j) M Q:=by show Q (.bl (xor false (decide (i=j)))) M;simpa using q
theorem Kr{i j:Bool}(q:Q (.bl (!decide (i=j))) M):ML true (.bl i) (.bl j) M Q:=by show Q (.bl (xor true (decide (i=j)))) M;simpa using q
theorem Fq{a:Addr}{ds:List D}(h:M a=some (.lst ds))(q:Q (.int ds.length) M):MI [.ref a] M Q:=by
 show(match bc M a with|some ds=>Q (.int ds.length) M|none=>False);have e1:bc M a=some ds:=by unfold bc;rw[h]
 rw[e1];exact q
theorem Fo{ds:List D}(q:Q (.int ds.length) M):MI [.tup ds] M Q:=q
theorem Ku{x:D}{ds:List D}{b:Bool}(e:inD x ds=some b)(q:Q (.bl b) M):Rz x (.tup ds) M Q:=by show(match inD x ds with|some b=>Q (.bl b) M|none=>False);rw[e];exact q
theorem Kv{x:D}{a:Addr}{ds:List D}{b:Bool}(h:M a=some (.lst ds))(e:inD x ds=some b)(q:Q (.bl b) M):Rz x (.ref a) M Q:=by show(match M a with|some (.lst ds)=>(match inD x ds with|some b=>Q (.bl b) M|none=>False)|_=>False);rw[h];simp only[e];exact q
theorem Bc{ds:List D}(q:∀p,M p=none->Q (.ref p) (ah M p (.lst ds))):dList [.fl ds] M Q:=q
theorem aJ{P:Prop}{inst:Decidable P}{A B:Prop}(h1:P->A)(h2:¬P->B):if @decide P inst=true then A else B:=by
 by_cases h:P
 ·rw[C0 h,J8 rfl];exact h1 h
 ·rw[A7 h,J9 p5];exact h2 h
theorem kB{P:Prop}{inst:Decidable P}{A B:Prop}(h1:¬P->A)(h2:P->B):if(!@decide P inst)=true then A else B:=by
 by_cases h:P
 ·rw[C0 h,Bool.not_true,J9 p5];exact h2 h
 ·rw[A7 h,Bool.not_false,J8 rfl];exact h1 h
theorem Fs{A B:Prop}(h:A):if true=true then A else B:=by rw[J8 rfl];exact h
theorem Ft{A B:Prop}(h:B):if false=true then A else B:=by rw[J9 p5];exact h
theorem gO{b:Bool}{A B:Prop}(h1:b=true->A)(h2:b=false->B):if b=true then A else B:=by
 cases b with
 |true=>rw[J8 rfl];exact h1 rfl
 |false=>rw[J9 p5];exact h2 rfl
end
end L3
namespace L3
open PySem L2
section
variable {g:fQ}{tt:eM}{te:cw}{tb:jg}{δ δc:dk}{M1:Mem}{Qe:List D->Mem->Prop}{E:jb}
theorem fP{ds:List D}(Pv:Nat->List D->Mem->Prop)(h0:Pv 0 [] M1)(hz:∀i acc M,i<=ds.length->Pv i acc M->acc.length<=sizeLine) (hs:∀i d acc M,ds[i]?=some d->Pv i acc M->g d δc M λ δ2 M2=>tt δ2 M2 λ b M3=>if b=true then te δ2 M3 λ y M4=>Pv (i+1) (acc++[y]) M4 else Pv (i+1) acc M3) (hd:∀acc M,Pv ds.length acc M->Qe acc M):∃(B:Nat) (W:Nat->List D->Mem->Prop),W 0 [] M1/\∀i acc M,W i acc M->i<=B/\acc.length<=sizeLine/\match items (.fix ds) M with
   |none=>False
   |some ds=>match ds[i]? with
    |none=>i=ds.length/\Qe acc M
    |some d=>g d δc M λ δ2 M2=>tt δ2 M2 λ b M3=>if b=true then te δ2 M3 λ y M4=>W (i+1) (acc++[y]) M4 else W (i+1) acc M3:=by
 refine⟨ds.length,λ i acc M=>if i<=ds.length then Pv i acc M else False,by dsimp only;rw[J8 (G7 _)];exact h0,?_⟩;intro i acc M w;by_cases hi:i<=ds.length
 ·rw[J8 hi]at w;refine⟨hi,hz i acc M hi w,?_⟩;show(match ds[i]? with
    |none=>i=ds.length/\Qe acc M
    |some d=>g d δc M λ δ2 M2=>tt δ2 M2 λ b M3=>if b=true then te δ2 M3 λ y M4=>(if i+1<=ds.length then Pv (i+1) (acc++[y]) M4 else False)else(if i+1<=ds.length then Pv (i+1) acc M3 else False))
  cases e:ds[i]? with
  |none=>have:i=ds.length:=B8 hi (i0.mp e);subst this;exact⟨rfl,hd acc M w⟩
  |some d=>have eR:i+1<=ds.length:=(g9.mp e).1;simp only[J8 eR];exact hs i d acc M e w
 ·rw[J9 hi]at w;exact w.elim
theorem eh{ds:List D}(Pv:Nat->dk->Mem->Prop)(h0:Pv 0 δ M1) (hs:∀i d δ M,ds[i]?=some d->Pv i δ M->g d δ M λ δ2 M2=>tb {E with nx:=Pv (i+1),ct:=Pv (i+1),bk:=E.nx} δ2 M2) (hd:∀δ M,Pv ds.length δ M->E.nx δ M):∃(B:Nat) (W:Nat->dk->Mem->Prop),W 0 δ M1/\∀i δ M,W i δ M->i<=B/\match items (.fix ds) M with
   |none=>False
   |some ds=>match ds[i]? with
    |none=>i=ds.length/\E.nx δ M
    |some d=>g d δ M λ δ2 M2=>tb {E with nx:=W (i+1),ct:=W (i+1),bk:=E.nx} δ2 M2:=by
 refine⟨ds.length,λ i δ M=>if i<=ds.length then Pv i δ M else False,by dsimp only;rw[J8 (G7 _)];exact h0,?_⟩;intro i δ M w;by_cases hi:i<=ds.length
 ·rw[J8 hi]at w;refine⟨hi,?_⟩;show(match ds[i]? with
    |none=>i=ds.length/\E.nx δ M
    |some d=>g d δ M λ δ2 M2=>tb {E with nx:=(λ δ M=>if i+1<=ds.length then Pv (i+1) δ M else False),ct:=(λ δ M=>if i+1<=ds.length then Pv (i+1) δ M else False),bk:=E.nx} δ2 M2)
  cases e:ds[i]? with
  |none=>have:i=ds.length:=B8 hi (i0.mp e);subst this;exact⟨rfl,hd δ M w⟩
  |some d=>have eR:i+1<=ds.length:=(g9.mp e).1;simp only[J8 eR];exact hs i d δ M e w
 ·rw[J9 hi]at w;exact w.elim
theorem sx{a:Addr}{ds:List D}(Pv:Nat->dk->Mem->Prop)(h0:Pv 0 δ M1)(hl:∀i δ M,i<=ds.length->Pv i δ M->M a=some (.lst ds)) (hs:∀i d δ M,ds[i]?=some d->Pv i δ M->g d δ M λ δ2 M2=>tb {E with nx:=Pv (i+1),ct:=Pv (i+1),bk:=E.nx} δ2 M2) (hd:∀δ M,Pv ds.length δ M->E.nx δ M):∃(B:Nat) (W:Nat->dk->Mem->Prop),W 0 δ M1/\∀i δ M,W i δ M->i<=B/\match items (.at a) M with
   |none=>False
   |some ds=>match ds[i]? with
    |none=>i=ds.length/\E.nx δ M
    |some d=>g d δ M λ δ2 M2=>tb {E with nx:=W (i+1),ct:=W (i+1),bk:=E.nx} δ2 M2:=by
 refine⟨ds.length,λ i δ M=>if i<=ds.length then Pv i δ M else False,by dsimp only;rw[J8 (G7 _)];exact h0,?_⟩;intro i δ M w;by_cases hi:i<=ds.length
 ·rw[J8 hi]at w;refine⟨hi,?_⟩;have e0:items (.at a) M=some ds:=by show(match M a with|some (.lst ds)=>some ds|_=>none)=some ds;rw[hl i δ M hi w]
  rw[e0];show(match ds[i]? with
    |none=>i=ds.length/\E.nx δ M
    |some d=>g d δ M λ δ2 M2=>tb {E with nx:=(λ δ M=>if i+1<=ds.length then Pv (i+1) δ M else False),ct:=(λ δ M=>if i+1<=ds.length then Pv (i+1) δ M else False),bk:=E.nx} δ2 M2)
  cases e:ds[i]? with
  |none=>have:i=ds.length:=B8 hi (i0.mp e);subst this;exact⟨rfl,hd δ M w⟩
  |some d=>have eR:i+1<=ds.length:=(g9.mp e).1;simp only[J8 eR];exact hs i d δ M e w
 ·rw[J9 hi]at w;exact w.elim
end
section
variable {δ:dk}{M:Mem}{Q:bR}{wi:kY}{g:fQ}{tt:eM}{te:cw}{n:Nat}{fr:List Nat}{ta:cw}{E:jb}{tb:jg}{tl:fB}{R:Src->Mem->Prop}
theorem Kk{r3:List D->Mem->bR->Prop}(h:wi δ M λ src M1=>∃(B:Nat) (W:Nat->List D->Mem->Prop),W 0 [] M1/\∀i acc M,W i acc M->i<=B/\acc.length<=sizeLine/\match items src M with
   |none=>False
   |some ds=>match ds[i]? with
    |none=>i=ds.length/\r3 acc M Q
    |some d=>g d (iw n fr δ) M λ δ2 M2=>tt δ2 M2 λ b M3=>if b=true then te δ2 M3 λ y M4=>W (i+1) (acc++[y]) M4 else W (i+1) acc M3):yx r3 wi g tt te n fr δ M Q:=h
theorem EU{T:String}{r3:D->List D->Mem->bR->Prop}(h:ta δ M λ d M1=>Ng T d M1/\fK wi g tt te n fr δ M1 λ ds M'=>r3 d ds M' Q):AD T r3 ta wi g tt te n fr δ M Q:=h
theorem Bk{Qe:List D->Mem->Prop}(h:wi δ M λ src M1=>∃(B:Nat) (W:Nat->List D->Mem->Prop),W 0 [] M1/\∀i acc M,W i acc M->i<=B/\acc.length<=sizeLine/\match items src M with
   |none=>False
   |some ds=>match ds[i]? with
    |none=>i=ds.length/\Qe acc M
    |some d=>g d (iw n fr δ) M λ δ2 M2=>tt δ2 M2 λ b M3=>if b=true then te δ2 M3 λ y M4=>W (i+1) (acc++[y]) M4 else W (i+1) acc M3):fK wi g tt te n fr δ M Qe:=h
theorem FA(h:fK wi g tt te n fr δ M λ ds M'=>∀p,M' p=none->Q (.ref p) (ah M' p (.lst ds))):rg wi g tt te n fr δ M Q:=h
theorem Kw(h:wi δ M λ src M1=>∃(B:Nat) (W:Nat->dk->Mem->Prop),W 0 δ M1/\∀i δ M,W i δ M->i<=B/\match items src M with
   |none=>False
   |some ds=>match ds[i]? with
    |none=>i=ds.length/\E.nx δ M
    |some d=>g d δ M λ δ2 M2=>tb {E with nx:=W (i+1),ct:=W (i+1),bk:=E.nx} δ2 M2):Kb wi g tb E δ M:=h
theorem E_(h:tl δ M λ ds M1=>match ds with|[.int j]=>Uo j/\R (.fix (cO 0 j.toNat)) M1|_=>False):Co tl δ M R:=h
theorem Ki{QB:Bool->Mem->Prop}(h:QB true M):q_ δ M QB:=h
theorem tx{α:Type}{xs:List α}{d:Int}(h0:0<=d)(h1:d < xs.length):∃c,eW xs d=some c:=by
 have hl:d.toNat < xs.length:=by omega
 have e:((d.toNat:Nat):Int)=d:=by omega
 have q:eW xs ((d.toNat:Nat):Int)=some xs[d.toNat]:=aR (by simp[hl]);rw[e]at q;exact⟨_,q⟩
end
end L3
namespace L3
open PySem L2
def strsOf:List Expr->Option (List Str)
 |[]=>some []
 | .Constant (.str x) _ _::r=>(strsOf r).map (x::·)
 |_::_=>none
def wj(zs:List Str):fB:=λ _ M Q=>Q (zs.map D.str) M
theorem EW{zs:List Str}{δ:dk}{M:Mem}{Q:List D->Mem->Prop}(h:Q (zs.map D.str) M):wj zs δ M Q:=h
theorem wz{X:Cx}:∀{es:List Expr} {zs:List Str},strsOf es=some zs->QA X es (wj zs)
 |[],zs,h=>by cases h;exact Br
 |e::es,zs,h=>by
  cases e with
  |Constant c j pos=>
   cases c with
   |str x=>
    unfold strsOf at h;cases q:strsOf es with
    |none=>rw[q]at h;cases h
    |some ys=>rw[q]at h;cases h;exact BE (wA (ta:=sC (.str x)) (t:=wj ys) IJ (wz q)) λ σ H Q h=>h
   |_=>exact absurd h (by unfold strsOf;intro z;cases z)
  |_=>exact absurd h (by unfold strsOf;intro z;cases z)
end L3
namespace L4
open PySem PySem.Spec L2 L3
structure WE(X:Cx)(e:Expr)(t:cw):Prop where
 h:QE X e t
structure WT(X:Cx)(e:Expr)(t:eM):Prop where
 h:QT X e t
structure WW(X:Cx)(e:Expr)(t:eM):Prop where
 h:QW X e t
structure WA(X:Cx)(e:List Expr)(t:fB):Prop where
 h:QA X e t
structure WS(X:Cx)(e:Stmt)(t:jg):Prop where
 h:QS X e t
structure Ij(X:Cx)(e:List Stmt)(t:jg):Prop where
 h:Ej X e t
structure WO(X:Cx)(e:Option Expr)(t:Il):Prop where
 h:QO X e t
structure WG(X:Cx)(e:Expr)(t:fQ):Prop where
 h:QG X e t
structure RC(X:Cx)(e:List Expr)(t:mV):Prop where
 h:Qo X e t
structure Uc(X:Cx)(e:List Expr)(t:eM):Prop where
 h:RE X e t
structure WI(X:Cx)(tg e:Expr)(t:kY):Prop where
 h:QI X tg e t
theorem WW.pt {X:Cx}{e:Expr}{t:eM}(w:WW X e t):WT X e t:=⟨w.h.pt⟩
structure Ii(X:Cx)(scope:Scope)(tgs:List Str)(fr:List Nat)(tg:Expr)(g:fQ):Prop where
 h:Qk X scope tgs fr tg g
structure eX(X:Cx)(scope:Scope)(tgs:List Str)(fr:List Nat)(tg iter:Expr)(ifs:List Expr)(elt:Expr)(wi:kY)(g:fQ)(tt:eM)(te:cw):Prop where
 b:jd X scope fr
 calm:X.calm=true
 xe:∀e s,X.xe e s->False
 it:WI X tg iter wi
 VE:Ii X scope tgs fr tg g
 ifs:∀cl C fp s H,Uc (bH X scope cl tgs fr C fp s H) ifs tt
 elt:∀cl C fp s H,WE (bH X scope cl tgs fr C fp s H) elt te
theorem eX.h {X:Cx}{scope:Scope}{tgs:List Str}{fr:List Nat}{tg iter:Expr}{ifs:List Expr}{elt:Expr}{wi:kY}{g:fQ}{tt:eM}{te:cw}(C:eX X scope tgs fr tg iter ifs elt wi g tt te):iD X scope tgs fr tg iter ifs elt wi g tt te:=
 ⟨C.b,C.calm,C.xe,C.it.h,C.VE.h,λ cl D fp s H=>(C.ifs cl D fp s H).h,λ cl D fp s H=>(C.elt cl D fp s H).h⟩
section
variable {X:Cx}{a b c e:Expr}{ta tb tc:cw}{pos:Pos}
theorem ao(i:Nat){x:Str}(hN:X.N[i]?=some x:=by rfl)(hv:RD X.env.scope x:=by first|exact Or.inl rfl|exact Or.inr (Or.inl rfl)|exact Or.inr (Or.inr rfl))(hd:(x==("__debug__":Str))=false:=by decide)(hcd:(x==("__classdict__":Str))=false:=by decide):WE X (.Name x pos) (ic i):=⟨VV (i:=i) (hN:=hN) (hv:=hv) (hd:=hd) (hcd:=hcd)⟩
theorem ai{i j}:WE X (.Constant (.int i) j pos) (sC (.int i)):=⟨Oq⟩
theorem JH{i j}:WE X (.Constant (.bool i) j pos) (sC (.bl i)):=⟨Sm⟩
theorem gf{i j}:WE X (.Constant (.str i) j pos) (sC (.str i)):=⟨IJ⟩
theorem Ir{j}:WE X (.Constant .none j pos) (sC .bM):=⟨Om⟩
theorem jU{x:Str}{n:String}(hg:Gl X x)(hm:X.mg x=none)(hv:bootBuiltins x=some (.type n))(hn:x≠"__name__":=by decide)(hd:(x==("__debug__":Str))=false:=by decide):WE X (.Name x pos) (sC (.ty n)):=⟨Si (hg:=hg) (hm:=hm) (hv:=hv) (hn:=hn) (hd:=hd)⟩
theorem aZ{op:Operator}{r2:gH}(o:fX X (binaryOp op) r2)(ha:WE X a ta)(hb:WE X b tb):WE X (.BinOp a op b pos) (AH r2 ta tb):=⟨Sj (o:=o) (ha:=ha.h) (hb:=hb.h)⟩
theorem fS{op:CmpOp}{r2:gH}(o:fX X (compareOp op) r2)(ha:WE X a ta)(hb:WE X b tb)(hm:behindInMarks op b=false):WE X (.Compare a [op] [b] pos) (AH r2 ta tb):=⟨Ou (o:=o) (ha:=ha.h) (hb:=hb.h) (hm:=hm)⟩
theorem aK{op:CmpOp}{r2:gH}(o:fX X (compareOp op) r2)(ha:WE X a ta)(hb:WE X b tb)(hm:behindInMarks op b=false):WT X (.Compare a [op] [b] pos) (oj (AH r2 ta tb)):=⟨KO (o:=o) (ha:=ha.h) (hb:=hb.h) (hm:=hm)⟩
theorem lq(h:WE X e ta)(he:∀whole,isTrue e X.env whole=(do let v <- whole;standAt e.pos;holding [v] (truthy v)):=by intro _;rfl):WT X e (oj ta):=⟨KL (h:=h.h) (he:=he)⟩
variable {tA tB:eM}{rest:List Expr}
theorem kx(ha:WT X a tA):WW X (.BoolOp .And [a] pos) tA:=⟨FI (ha:=ha.h)⟩
theorem tX(ha:WT X a tA):WW X (.BoolOp .Or [a] pos) tA:=⟨KI (ha:=ha.h)⟩
theorem oR(ha:WT X a tA)(hb:WW X (.BoolOp .And (b::rest) pos) tB):WW X (.BoolOp .And (a::b::rest) pos) (Kc tA tB):=⟨KJ (ha:=ha.h) (hb:=hb.h)⟩
theorem zZ(ha:WT X a tA)(hb:WW X (.BoolOp .Or (b::rest) pos) tB):WW X (.BoolOp .Or (a::b::rest) pos) (Sa tA tB):=⟨Oh (ha:=ha.h) (hb:=hb.h)⟩
theorem JA(ha:WT X a tA):WT X (.UnaryOp .Not a pos) (J' tA):=⟨KN (ha:=ha.h)⟩
theorem qL{op}(h:WE X a ta):WE X (.BoolOp op [a] pos) ta:=⟨Ol (h:=h.h)⟩
theorem w_and(ha:WE X a ta)(hb:WE X (.BoolOp .And (b::rest) pos) tb):WE X (.BoolOp .And (a::b::rest) pos) (AN ta tb):=⟨Ov (ha:=ha.h) (hb:=hb.h)⟩
variable {es:List Expr}{t:fB}
theorem ab:WA X [] yy:=⟨Br⟩
theorem aa(ha:WE X e ta)(hr:WA X es t)(hs:starEach (e::es) X.env=(false,eval e X.env)::starEach es X.env:=by rfl):WA X (e::es) (om ta t):=⟨wA (ha:=ha.h) (hr:=hr.h) (hs:=hs)⟩
theorem cE{x1}(h:WA X es t):WE X (.Tuple es x1 pos) (JZ t):=⟨Oj (h:=h.h)⟩
theorem bC(h:WA X es t):WE X (.List es pos) (Ka t):=⟨Oo (h:=h.h)⟩
theorem aV{r2:gH}(o:Ul X r2)(ha:WE X a ta)(hb:WE X b tb)(hs:qx b):WE X (.Subscript a b pos) (AH r2 ta tb):=⟨Sk (o:=o) (ha:=ha.h) (hb:=hb.h) (hs:=hs)⟩
theorem iG:WO X none pj:=⟨FO⟩
theorem iF(h:WE X e ta):WO X (some e) (AG ta):=⟨FN (h:=h.h)⟩
variable {lo hi:Option Expr}{tl th:Il}{p2:Pos}
theorem iH{r2:D->Option Int->Option Int->Mem->bR->Prop}(o:Qn X r2)(he:WE X e ta)(hl:WO X lo tl)(hu:WO X hi th):WE X (.Subscript e (.Slice lo hi none p2) pos) (R' r2 ta tl th):=⟨FV (o:=o) (he:=he.h) (hl:=hl.h) (hu:=hu.h)⟩
variable {x:Str}{p:Pos}{id T:String}
theorem aA{r2:List D->Mem->bR->Prop}(o:dM X (.builtin id) r2)(hg:Gl X x)(hm:X.mg x=none)(hv:bootBuiltins x=some (.builtin id))(ha:WA X (e::es) t)(hn:x≠"__name__":=by decide)(hdb:(x==("__debug__":Str))=false:=by decide)(he:starEach (e::es) X.env=(false,eval e X.env)::starEach es X.env:=by rfl)(hpl:(backTo pos (starEach es X.env)).any (·.1)=false:=by rfl):WE X (.Call (.Name x p) (e::es) [] pos) (Nj r2 t):=⟨FX (o:=o) (hg:=hg) (hm:=hm) (hv:=hv) (ha:=ha.h) (hn:=hn) (hdb:=hdb) (he:=he) (hpl:=hpl)⟩
theorem bI{r2:List D->Mem->bR->Prop}(o:dM X (.type T) r2)(hg:Gl X x)(hm:X.mg x=none)(hv:bootBuiltins x=some (.type T))(ha:WA X (e::es) t)(hn:x≠"__name__":=by decide)(hdb:(x==("__debug__":Str))=false:=by decide)(he:starEach (e::es) X.env=(false,eval e X.env)::starEach es X.env:=by rfl)(hpl:(backTo pos (starEach es X.env)).any (·.1)=false:=by rfl):WE X (.Call (.Name x p) (e::es) [] pos) (Nj r2 t):=⟨FW (o:=o) (hg:=hg) (hm:=hm) (hv:=hv) (ha:=ha.h) (hn:=hn) (hdb:=hdb) (he:=he) (hpl:=hpl)⟩
end
section
variable {X:Cx}{o e:Expr}{es:List Expr}{to:cw}{t:fB}{T id:String}{name:Str}{apos bS:Pos}
theorem cI{r2:D->List D->Mem->bR->Prop}(pa:PlainAttrs T)(slot:Slot T name id)(hty:typeOf (.builtin id)=pure (.type "method_descriptor"))(hm:Ip X id r2)(ho:WE X o to)(ha:WA X (e::es) t)(hbase:attributeBase o name X.env (eval o X.env)=eval o X.env:=by rfl)(hfew:((backTo bS (starEach (e::es) X.env)).all (λ x=>!x.1)&&(backToKw bS (keywordEach [] X.env)).all (λ x=>x.1.isSome)
   &&decide ((e::es).length+([]:List Keyword).length+(if([]:List Keyword).isEmpty then 0 else 1) < 30))=true:=by rfl) (hline:(apos.endLine==bS.line)=true:=by rfl) (hs:starEach (e::es) X.env=(false,eval e X.env)::starEach es X.env:=by rfl) (hplain:(backTo bS (starEach es X.env)).any (·.1)=false:=by rfl):WE X (.Call (.Attribute o name apos) (e::es) [] bS) (Nk T r2 to t):=⟨Sl (pa:=pa) (slot:=slot) (hty:=hty) (hm:=hm) (ho:=ho.h) (ha:=ha.h) (hbase:=hbase) (hfew:=hfew) (hline:=hline) (hs:=hs) (hplain:=hplain)⟩
end
section
variable {X:Cx}{x:Str}{p pos:Pos}{e:Expr}{es:List Expr}{t:fB}{k j:Nat}{ps:List Str}{sp:fb}
theorem aF(d:bT X.prog X.w X.K X.mg X.base k x ps sp)(hr:dh k X.A)(hg:Gl X x)(ha:WA X (e::es) t)(hdb:(x==("__debug__":Str))=false:=by decide)(he:starEach (e::es) X.env=(false,eval e X.env)::starEach es X.env:=by rfl)(hpl:(backTo pos (starEach es X.env)).any (·.1)=false:=by rfl):WE X (.Call (.Name x p) (e::es) [] pos) (sD sp t):=⟨Ot (d:=d) (hr:=hr) (hg:=hg) (ha:=ha.h) (hdb:=hdb) (he:=he) (hpl:=hpl)⟩
end
section
variable {X:Cx}{st:Stmt}{rest:List Stmt}{t u:jg}{te:cw}{e:Expr}{pos:Pos}
theorem bf:Ij X [] wm:=⟨FK⟩
theorem ak(h:WS X st t):Ij X [st] t:=⟨FJ (h:=h.h)⟩
theorem ae(h1:WS X st t)(h2:Ij X rest u):Ij X (st::rest) (AF t u):=⟨Bo (h1:=h1.h) (h2:=h2.h)⟩
theorem bB(he:WE X e te)(hs:swapsWith e none pos.line X.env=pure false:=by rfl):WS X (.Expr e pos) (rf te):=⟨FL (he:=he.h) (hs:=hs)⟩
theorem aQ(he:WE X e te):WS X (.Return (some e) pos) (J_ te):=⟨KQ (he:=he.h)⟩
theorem bV{c:Expr}{a b:List Stmt}{tc:eM}(hc:WT X c tc)(ha:Ij X a t)(hb:Ij X b u):WS X (.If c a b pos) (EN tc t u):=⟨Oi (hc:=hc.h) (ha:=ha.h) (hb:=hb.h)⟩
theorem bu{i:Nat}{x:Str}(hN:X.N.Nodup)(hi:X.N[i]?=some x)(hx:Loc X.env.scope x)(hf:X.fn x=true\/X.env.scope.names.lookup x=some .local:=by first|exact .inl rfl|exact .inr rfl|assumption):WG X (.Name x pos) (hName i):=⟨FU (hN:=hN) (hi:=hi) (hx:=hx) (hf:=hf)⟩
theorem gM:RC X [] nA:=⟨FT⟩
theorem cq{e:Expr}{es:List Expr}{t:fQ}{u:mV}(h1:WG X e t)(h2:RC X es u)(hs:(assignEach (e::es) X.env).map (·.2)=assign e X.env::(assignEach es X.env).map (·.2):=by rfl):RC X (e::es) (cN t u):=⟨Bq (h1:=h1.h) (h2:=h2.h) (hs:=hs)⟩
theorem jh{es:List Expr}{k:Nat}{t:mV}{n:Nat}(hc:X.calm=true)(h:RC X es t)(hn:(assignEach es X.env).length=n:=by rfl)(hst:(assignEach es X.env).findIdx? (·.1)=none:=by rfl):WG X (.Tuple es k pos) (ny n t):=⟨KW (hc:=hc) (h:=h.h) (hn:=hn) (hst:=hst)⟩
theorem jk{o i:Expr}{to ti:cw}{t:mU}(ho:WE X o to)(hi:WE X i ti)(hs:MW X t)(ha:∀v,assign (.Subscript o i pos) X.env v=(do
   let ov <- holding [v] (eval o X.env)
   let iv <- holding [v,ov] (eval i X.env)
   standAt pos
   holding [v,ov,iv] (setItem ov iv v)
   release [v,ov,iv] []):=by intro _;rfl):WG X (.Subscript o i pos) (hSub to ti t):=⟨KY (ho:=ho.h) (hi:=hi.h) (hs:=hs) (ha:=ha)⟩
theorem gc{tg e:Expr}{g:fQ}(he:WE X e te)(hg:WG X tg g)(hs:swapsWithSole [tg] e pos.line X.env=pure false:=by rfl)(hw:swappedStores [tg] e X.env=pure none:=by rfl)(h1:(assignEach [tg] X.env).map (·.2)=[assign tg X.env]:=by rfl):WS X (.Assign [tg] e pos) (rh te g):=⟨KS (he:=he.h) (hg:=hg.h) (hs:=hs) (hw:=hw) (h1:=h1)⟩
theorem au{i:Nat}{x:Str}{e:Expr}{pos':Pos}(hN:X.N.Nodup)(hi:X.N[i]?=some x)(hx:Loc X.env.scope x)(he:WE X e te)(hs:swapsWith e (some (.Name x pos')) pos.line X.env=pure false:=by rfl)(hf:X.fn x=true\/X.env.scope.names.lookup x=some .local:=by first|exact .inl rfl|exact .inr rfl|assumption):WS X (.Assign [.Name x pos'] e pos) (rh te (hName i)):=⟨KP (hN:=hN) (hi:=hi) (hx:=hx) (he:=he.h) (hs:=hs) (hf:=hf)⟩
end
section
variable {X:Cx}{tg l:Expr}{tl:cw}{ta:fB}{a b:Expr}{p pos:Pos}
theorem bK(hl:WE X l tl):WI X tg l (Mj tl):=⟨KU (hl:=hl.h)⟩
theorem aN(hg:Gl X "range")(hm:X.mg "range"=none)(ha:WA X [a] ta)(hs:starEach [a] X.env=[(false,eval a X.env)]:=by rfl):WI X tg (.Call (.Name "range" p) [a] [] pos) (Co ta):=⟨yH (hg:=hg) (hm:=hm) (ha:=ha.h) (hs:=hs)⟩
end
section
variable {X:Cx}{tg iter:Expr}{wi:kY}{g:fQ}{tb:jg}{body:List Stmt}{pos:Pos}
theorem cD(hp:PassesOwn (model X.prog X.w) X.A X.env X.xe)(hc:X.calm=true)(hi:WI X tg iter wi)(hg:WG X tg g)(hb:Ij X body tb)(hs:∀x,foldedSetIterable iter X.env x=pure x:=by intro _;rfl):WS X (.For tg iter body [] pos) (Kb wi g tb):=⟨KR (hp:=hp) (hc:=hc) (hi:=hi.h) (hg:=hg.h) (hb:=hb.h) (hs:=hs)⟩
end
section
variable {X:Cx}{c:Expr}{tc:eM}{tb:jg}{body:List Stmt}{pos:Pos}
theorem cR(hp:PassesOwn (model X.prog X.w) X.A X.env X.xe)(hc:WT X c tc)(hb:Ij X body tb):WS X (.While c body [] pos) (um tc tb):=⟨Bp (hp:=hp) (hc:=hc.h) (hb:=hb.h)⟩
end
section
variable {X:Cx}{scope:Scope}{tgs:List Str}{fr:List Nat}{tg elt iter:Expr}{ifs:List Expr}{pos:Pos}{wi:kY}{g:fQ}{tt:eM}{te:cw}
theorem aP:Uc X [] q_:=⟨FQ⟩
theorem gJ{c:Expr}{t:eM}(h:WT X c t):Uc X [c] t:=⟨FP (h:=h.h)⟩
theorem aG{i:Nat}{x:Str}{ps:Pos}(h:∀cl C fp s H,PG (bH X scope cl tgs fr C fp s H) (.Name x ps) (cB i))(hi:i < tgs.length):Ii X scope tgs fr (.Name x ps) (hName i):=⟨Ex (h:=h) (hi:=hi)⟩
theorem ll{i j k:Nat}{x y:Str}{px py pt:Pos}(h:∀cl C fp s H,PG (bH X scope cl tgs fr C fp s H) (.Tuple [.Name x px,.Name y py] k pt) (sv X.K 2 (dH (cB i) (dH (cB j) pY))))(hi:i < tgs.length)(hj:j < tgs.length):Ii X scope tgs fr (.Tuple [.Name x px,.Name y py] k pt) (ny 2 (cN (hName i) (cN (hName j) nA))):=⟨Ew (h:=h) (hi:=hi) (hj:=hj)⟩
theorem dq(C:eX X scope tgs fr tg iter ifs elt wi g tt te)(hs:∀x,foldedSetIterable iter X.env x=pure x:=by intro _;rfl):WE X (.ListComp elt [⟨tg,iter,ifs,0⟩] scope pos) (rg wi g tt te tgs.length fr):=⟨K' (C:=C.h) (hs:=hs)⟩
theorem cY{i:Nat}{y:Str}{py qU:Pos}(hN:X.N.Nodup)(hiy:X.N[i]?=some y)(hy:Loc X.env.scope y)(C:eX X scope tgs fr tg iter ifs elt wi g tt te)(hsw:swapsWith (.ListComp elt [⟨tg,iter,ifs,0⟩] scope pos) (some (.Name y py)) qU.line X.env=pure true:=by rfl)(hf:X.fn y=true\/X.env.scope.names.lookup y=some .local:=by first|exact .inl rfl|exact .inr rfl|assumption)(hs:∀x,foldedSetIterable iter X.env x=pure x:=by intro _;rfl):WS X (.Assign [.Name y py] (.ListComp elt [⟨tg,iter,ifs,0⟩] scope pos) qU) (rh (rg wi g tt te tgs.length fr) (hName i)):=⟨ux (hN:=hN) (hiy:=hiy) (hy:=hy) (C:=C.h) (hsw:=hsw) (hf:=hf) (hs:=hs)⟩
variable {x:Str}{p:Pos}{id T:String}{bS:Pos}
theorem tY{r2 r3:List D->Mem->bR->Prop}(o:dM X (.builtin id) r2)(h3:jR r2 r3)(hg:Gl X x)(hm:X.mg x=none)(hv:bootBuiltins x=some (.builtin id))(C:eX X scope tgs fr tg iter ifs elt wi g tt te)(hn:x≠"__name__":=by decide)(hdb:(x==("__debug__":Str))=false:=by decide)(hs:∀x,foldedSetIterable iter X.env x=pure x:=by intro _;rfl):WE X (.Call (.Name x p) [.ListComp elt [⟨tg,iter,ifs,0⟩] scope bS] [] pos) (yx r3 wi g tt te tgs.length fr):=⟨K4 (o:=o) (h3:=h3) (hg:=hg) (hm:=hm) (hv:=hv) (C:=C.h) (hn:=hn) (hdb:=hdb) (hs:=hs)⟩
theorem dX{r2 r3:List D->Mem->bR->Prop}(o:dM X (.type T) r2)(h3:jR r2 r3)(hg:Gl X x)(hm:X.mg x=none)(hv:bootBuiltins x=some (.type T))(C:eX X scope tgs fr tg iter ifs elt wi g tt te)(hn:x≠"__name__":=by decide)(hdb:(x==("__debug__":Str))=false:=by decide)(hs:∀x,foldedSetIterable iter X.env x=pure x:=by intro _;rfl):WE X (.Call (.Name x p) [.ListComp elt [⟨tg,iter,ifs,0⟩] scope bS] [] pos) (yx r3 wi g tt te tgs.length fr):=⟨KZ (o:=o) (h3:=h3) (hg:=hg) (hm:=hm) (hv:=hv) (C:=C.h) (hn:=hn) (hdb:=hdb) (hs:=hs)⟩
variable {o:Expr}{to:cw}{name:Str}{apos:Pos}
theorem JB{r2 r3:D->List D->Mem->bR->Prop}(pa:PlainAttrs T)(slot:Slot T name id)(hty:typeOf (.builtin id)=pure (.type "method_descriptor"))(hm:Ip X id r2)(h3:vK r2 r3)(ho:WE X o to)(C:eX X scope tgs fr tg iter ifs elt wi g tt te)(hs:∀x,foldedSetIterable iter X.env x=pure x:=by intro _;rfl)(hbase:attributeBase o name X.env (eval o X.env)=eval o X.env:=by rfl)(hfew:((backTo pos (starEach [.ListComp elt [⟨tg,iter,ifs,0⟩] scope bS] X.env)).all (λ x=>!x.1)&&(backToKw pos (keywordEach [] X.env)).all (λ x=>x.1.isSome)
   &&decide (([.ListComp elt [⟨tg,iter,ifs,0⟩] scope bS]:List Expr).length+([]:List Keyword).length+(if([]:List Keyword).isEmpty then 0 else 1) < 30))=true:=by rfl) (hline:(apos.endLine==pos.line)=true:=by rfl):WE X (.Call (.Attribute o name apos) [.ListComp elt [⟨tg,iter,ifs,0⟩] scope bS] [] pos) (AD T r3 to wi g tt te tgs.length fr):=⟨K3 (pa:=pa) (slot:=slot) (hty:=hty) (hm:=hm) (h3:=h3) (ho:=ho.h) (C:=C.h) (hs:=hs) (hbase:=hbase) (hfew:=hfew) (hline:=hline)⟩
end
theorem vS{X:Cx}{es:List Expr}{zs:List Str}(h:strsOf es=some zs):WA X es (wj zs):=⟨wz h⟩
end L4
namespace L4
open PySem PySem.Spec L2 L3
section
variable {P:Program}{w:World}{K:K2}{mg:Str->Option Value}{base:Heap}
theorem iS{x qual:Str}{st:Stmt}{f:Addr}{fd:FuncData}{N ps:List Str}{k:Nat}{sp:fb}(F:f_ K x qual st f fd)(S:aO N ps (ay st))(len:∀ds M Q,sp ds M Q->ds.length=ps.length) (mC:∀(c_:Value) (A:Around) (outer:List Env) (s:Shared) (H:Hp) (E:XK) (ds:List D) (M:Mem) (Q:bR),dh k (A.deeper (PyProof.Rows.envOfC qual (ay st) s.heap.objs.size f c_))->sp ds M Q->
   ∃t,Ij (sO fc P w K mg base N qual (ay st) f c_ A outer s H E).Nl (dE st) t/\t {nx:=λ _ M'=>fin2 Q .bM M',rt:=fin2 Q} (jn N ds) M):bZ P w K mg base fc (k+1) f fd ps (cx K sp):=
 VY F S len λ c_ A outer s H E ds M Q hr h=>let⟨t,a,b⟩:=mC c_ A outer s H E ds M Q hr h;⟨t,a.h,b⟩
end
end L4
namespace L5
open PySem PySem.W PyProof.Rows
section
variable (n:Nat)(lt:Nat->Nat->Bool)
def kw{α:Type}:KasT α->(α->Prop)->Prop
 | .ret a,Q=>Q a
 | .ask i j k,Q=>i < n/\j < n/\kw (k (lt i j)) Q
variable {n lt}
theorem gS{α β:Type}{f:α->KasT β}{Q:β->Prop}:∀{t:KasT α},kw n lt t (λ a=>kw n lt (f a) Q)->kw n lt (t.bind f) Q
 | .ret a,h=>h
 | .ask i j k,h=>⟨h.1,h.2.1,gS (t:=k (lt i j)) h.2.2⟩
def pg(p:Array Nat)(i:Nat):Nat:=p.getD i 0
theorem jO(p:Array Nat)(i:Nat):pg p i=(p[i]?).getD 0:=by unfold pg;rw[Array.getD_eq_getD_getElem?]
def Pm(n:Nat)(p:Array Nat):Prop:=p.Perm (List.toArray (List.range n))
theorem Pm.size {p:Array Nat}(h:Pm n p):p.size=n:=by have:=Array.Perm.size_eq h;simpa using this
theorem Pm.below {p:Array Nat}(h:Pm n p)(i:Nat)(hn:0 < n):pg p i < n:=by
 rw[jO];cases e:p[i]? with
 |none=>exact hn
 |some x=>have hm:x∈p:=Array.mem_of_getElem? e;have:=(Array.Perm.mem_iff h (a:=x)).mp hm;simpa using this
theorem lX{p:Array Nat}{i j:Nat}(hj:j<=p.size)(k:Nat):pg (kas_rev p i j) k=if i<=k/\k < j then pg p (i+j - 1 - k)else pg p k:=by
 rw[jO];unfold kas_rev;rw[getElem?_mirror_all hj k];split
 ·rw[jO]
 ·rw[jO]
theorem Pm.rev {p:Array Nat}(h:Pm n p)(i j:Nat):Pm n (kas_rev p i j):=Array.Perm.trans (mirror_perm _ _ _ _) h
theorem BB{p:Array Nat}{k l:Nat}(hk:k < p.size)(hl:l<=k)(j:Nat):pg (bubble p k (k - l)) j=if j=l then pg p k else if l < j/\j<=k then pg p (j - 1)else pg p j:=by
 have e0:k - (k - l)=l:=by omega
 rw[jO,getElem?_bubble hk (k - l) (by omega) j,e0];by_cases h1:j=l
 ·rw[J8 h1,J8 h1,jO]
 ·rw[J9 h1,J9 h1];by_cases h2:l < j/\j<=k
  ·rw[J8 h2,J8 h2,jO]
  ·rw[J9 h2,J9 h2,jO]
theorem Pm.Ya {p:Array Nat}(h:Pm n p)(k d:Nat):Pm n (bubble p k d):=Array.Perm.trans (bubble_perm _ _ _) h
structure Ord(lt:Nat->Nat->Bool):Prop where
 zF:∀a b,lt a b=true->lt b a=false
 tr:∀a b c,lt a b=false->lt b c=false->lt a c=false
abbrev le(lt:Nat->Nat->Bool)(a b:Nat):Prop:=lt b a=false
theorem Ord.refl (O:Ord lt)(a:Nat):le lt a a:=by
 show lt a a=false;cases e:lt a a with
 |false=>rfl
 |true=>have:=O.zF a a e;rw[e]at this;cases this
theorem Ord.trans (O:Ord lt){a b c:Nat}(h1:le lt a b)(h2:le lt b c):le lt a c:=O.tr c b a h2 h1
def Up(lt:Nat->Nat->Bool)(p:Array Nat)(m:Nat):Prop:=∀i j,i<=j->j < m->le lt (pg p i) (pg p j)
def Dn(lt:Nat->Nat->Bool)(p:Array Nat)(m:Nat):Prop:=∀i j,i<=j->j < m->le lt (pg p j) (pg p i)
def Ev(lt:Nat->Nat->Bool)(a b:Nat):Prop:=le lt a b/\le lt b a
theorem Ord.PL (O:Ord lt){a b c:Nat}(h:Ev lt a b)(q:Ev lt b c):Ev lt a c:=⟨O.trans h.1 q.1,O.trans q.2 h.2⟩
theorem Ev.sym {a b:Nat}(h:Ev lt a b):Ev lt b a:=⟨h.2,h.1⟩
theorem Up.one (O:Ord lt)(p:Array Nat):Up lt p 1:=λ i j h q=>by
 have:i=j:=by omega
 subst this;exact O.refl _
theorem Up.next (O:Ord lt){p:Array Nat}{m:Nat}(h:Up lt p m)(hm:1<=m)(q:le lt (pg p (m - 1)) (pg p m)):Up lt p (m+1):=λ i j vd hj=>by
 by_cases e:j=m
 ·subst e;by_cases e2:i=j
  ·subst e2;exact O.refl _
  ·exact O.trans (h i (j - 1) (by omega) (by omega)) q
 ·exact h i j vd (by omega)
theorem Dn.next (O:Ord lt){p:Array Nat}{m:Nat}(h:Dn lt p m)(hm:1<=m)(q:le lt (pg p m) (pg p (m - 1))):Dn lt p (m+1):=λ i j vd hj=>by
 by_cases e:j=m
 ·subst e;by_cases e2:i=j
  ·subst e2;exact O.refl _
  ·exact O.trans q (h i (j - 1) (by omega) (by omega))
 ·exact h i j vd (by omega)
theorem Dn.ev (O:Ord lt){p p':Array Nat}{m:Nat}(h:Dn lt p m)(e:∀k,k < m->Ev lt (pg p' k) (pg p k)):Dn lt p' m:=λ i j vd hj=>
 O.trans (e j hj).1 (O.trans (h i j vd hj) (e i (by omega)).2)
theorem Up.OH {p:Array Nat}{m:Nat}(hm:m<=p.size)(h:Dn lt p m):Up lt (kas_rev p 0 m) m:=λ i j vd hj=>by rw[lX hm,lX hm,J8 ⟨G7 _,by omega⟩,J8 ⟨G7 _,hj⟩];exact h _ _ (by omega) (by omega)
theorem vh(O:Ord lt){p:Array Nat}{i j:Nat}(hj:j<=p.size)(he:∀k,i<=k->k < j->Ev lt (pg p k) (pg p (j - 1)))(k:Nat):Ev lt (pg (kas_rev p i j) k) (pg p k):=by
 rw[lX hj];split
 case isTrue h=>exact O.PL (he _ (by omega) (by omega)) (he k h.1 h.2).sym
 case isFalse h=>exact⟨O.refl _,O.refl _⟩
theorem uT(O:Ord lt){p:Array Nat}(hp:Pm n p){Q:Nat->Prop}:∀(f a:Nat),1<=a->a+f<=n->Up lt p a->(∀m,a<=m->m<=a+f->Up lt p m->(m < a+f->lt (pg p m) (pg p (m - 1))=true)->Q m)->kw n lt (kas_asc p f a) Q
 |0,a,h1,hn,hu,hq=>hq a (G5 _) (G5 _) hu λ h=>absurd h (by omega)
 |f+1,a,h1,hn,hu,hq=>by
  refine⟨hp.below a (by omega),hp.below (a - 1) (by omega),?_⟩;show kw n lt (if lt (pg p a) (pg p (a - 1))=true then KasT.ret a else kas_asc p f (a+1)) Q;cases e:lt (pg p a) (pg p (a - 1))with
  |true=>rw[J8 rfl];exact hq a (G5 _) (by omega) hu λ _=>e
  |false=>rw[J9 (by simp)];exact uT O hp f (a+1) (by omega) (by omega) (hu.next O h1 e) λ m m1 m2 m3 m4=>hq m (by omega) (by omega) m3 λ q=>m4 (by omega)
theorem kL(O:Ord lt){Q:Array Nat×Nat×Nat->Prop}(xh:0 < n):∀(f:Nat) (p:Array Nat) (m q:Nat),Pm n p->1<=m->m+f<=n->q+1<=m->Dn lt p m->(∀k,m - (q+1)<=k->k < m->Ev lt (pg p k) (pg p (m - 1)))-> (∀p' m' q',Pm n p'->m<=m'->m'<=m+f->q'+1<=m'->Dn lt p' m'->(∀k,m' - (q'+1)<=k->k < m'->Ev lt (pg p' k) (pg p' (m' - 1)))->Q (p',m',q'))->kw n lt (kas_desc f p m q) Q
 |0,p,m,q,hp,h1,hf,Rk,hd,he,hQ=>hQ p m q hp (G5 _) (G5 _) Rk hd he
 |f+1,p,m,q,hp,h1,hf,Rk,hd,he,hQ=>by
  refine⟨hp.below m xh,hp.below (m - 1) xh,?_⟩;show kw n lt (if lt (pg p m) (pg p (m - 1))=true then(if q > 0 then kas_desc f (kas_rev p (m - (q+1)) m) (m+1) 0 else kas_desc f p (m+1) 0)else KasT.ask (pg p (m - 1)) (pg p m) λ d=>if d=true then KasT.ret (p,m,q)else kas_desc f p (m+1) (q+1)) Q;have hz:=hp.size;cases e:lt (pg p m) (pg p (m - 1))with
  |true=>
   rw[J8 rfl];by_cases hq:q > 0
   ·rw[J8 hq];have ev:=vh O (p:=p) (i:=m - (q+1)) (j:=m) (by omega) he;have em:pg (kas_rev p (m - (q+1)) m) m=pg p m:=by rw[lX (by omega),J9 (by omega)]
    refine kL O xh f _ (m+1) 0 (hp.rev _ _) (by omega) (by omega) (by omega) ((hd.ev O λ k _=>ev k).next O h1 ?_) (λ k k1 k2=>?_) λ p' m' q' a b c d g i=>hQ p' m' q' a (by omega) (by omega) d g i
    ·rw[em];exact O.trans (O.zF _ _ e) (ev (m - 1)).2
    ·have:k=m:=by omega
     subst this;exact⟨O.refl _,O.refl _⟩
   ·rw[J9 hq];refine kL O xh f _ (m+1) 0 hp (by omega) (by omega) (by omega) (hd.next O h1 (O.zF _ _ e)) (λ k k1 k2=>?_) λ p' m' q' a b c d g i=>hQ p' m' q' a (by omega) (by omega) d g i;have:k=m:=by omega
    subst this;exact⟨O.refl _,O.refl _⟩
  |false=>
   rw[J9 (by simp)];refine⟨hp.below (m - 1) xh,hp.below m xh,?_⟩;cases e2:lt (pg p (m - 1)) (pg p m)with
   |true=>exact hQ p m q hp (G5 _) (by omega) Rk hd he
   |false=>
    refine kL O xh f p (m+1) (q+1) hp (by omega) (by omega) (by omega) (hd.next O h1 e2) (λ k k1 k2=>?_) λ p' m' q' a b c d g i=>hQ p' m' q' a (by omega) (by omega) d g i;have hE:Ev lt (pg p (m - 1)) (pg p m):=⟨e,e2⟩;by_cases ek:k=m
    ·subst ek;exact⟨O.refl _,O.refl _⟩
    ·exact O.PL (he k (by omega) (by omega)) hE
theorem wW(O:Ord lt){p:Array Nat}(hp:Pm n p){m:Nat}(h1:1<=m)(hm:m<=n)(hd:Dn lt p m){Q:Nat×Array Nat->Prop}(hQ:∀m' p',Pm n p'->1<=m'->m'<=n->Up lt p' m'->Q (m',p')):kw n lt (kas_tail3 m n p) Q:=by unfold kas_tail3;refine gS (uT O (hp.rev _ _) (n - m) m h1 (by omega) (Up.OH (by rw[hp.size];exact hm) hd) λ m' a b c _=>?_);exact hQ m' _ (hp.rev _ _) (by omega) (by omega) c
theorem r_(O:Ord lt){p:Array Nat}(hp:Pm n p){m:Nat}(h1:1<=m)(hm:m+1<=n)(hd:Dn lt p (m+1)){Q:Nat×Array Nat->Prop}(hQ:∀m' p',Pm n p'->1<=m'->m'<=n->Up lt p' m'->Q (m',p')):kw n lt (kas_descPart m n p) Q:=by
 unfold kas_descPart;refine gS (kL O (by omega) (n - (m+1)) p (m+1) 0 hp (by omega) (by omega) (by omega) hd (λ k k1 k2=>?_) λ p' m' q' a b c d g i=>?_)
 ·have:k=m:=by omega
  subst this;exact⟨O.refl _,O.refl _⟩
 ·show kw n lt (if q' > 0 then kas_tail3 m' n (kas_rev p' (m' - (q'+1)) m')else kas_tail3 m' n p') Q;by_cases hq:q' > 0
  ·rw[J8 hq];have hz:=a.size;exact wW O (a.rev _ _) (by omega) (by omega) (g.ev O λ k _=>vh O (by omega) i k) hQ
  ·rw[J9 hq];exact wW O a (by omega) (by omega) g hQ
theorem Cg(O:Ord lt){p:Array Nat}(hp:Pm n p)(hn:2<=n){Q:Nat×Array Nat->Prop}(hQ:∀m' p',Pm n p'->1<=m'->m'<=n->Up lt p' m'->Q (m',p')):kw n lt (kas_count n p) Q:=by
 unfold kas_count;refine gS (uT O hp (n - 1) 1 (G5 _) (by omega) (Up.one O p) λ m a b c d=>?_);have hz:=hp.size;by_cases e1:(m==n)=true
 ·rw[J8 e1];exact hQ m p hp a (by omega) c
 ·rw[J9 e1];have dj:m≠n:=λ q=>e1 (by rw[q];exact beq_self_eq_true _);have hl:=d (by omega);by_cases e2:m > 1
  ·rw[J8 e2];refine⟨hp.below 0 (by omega),hp.below (m - 1) (by omega),?_⟩;show kw n lt (if lt (pg p 0) (pg p (m - 1))=true then KasT.ret (m,p)else kas_descPart m n (kas_rev p 0 m)) Q;cases e3:lt (pg p 0) (pg p (m - 1))with
   |true=>rw[J8 rfl];exact hQ m p hp a (by omega) c
   |false=>
    rw[J9 (by simp)];have CZ:∀k,0<=k->k < m->Ev lt (pg p k) (pg p (m - 1)):=λ k _ hk=>⟨c k (m - 1) (by omega) (by omega),O.trans e3 (c 0 k (by omega) hk)⟩;have ev:=vh O (p:=p) (i:=0) (j:=m) (by omega) CZ;have em:pg (kas_rev p 0 m) m=pg p m:=by rw[lX (by omega),J9 (by omega)]
    refine r_ O (hp.rev _ _) a (by omega) (Dn.next O (λ i j vd hj=>?_) a ?_) hQ
    ·exact O.trans (ev j).1 (O.trans (O.trans (CZ j (G7 _) hj).1 (CZ i (G7 _) (by omega)).2) (ev i).2)
    ·rw[em];exact O.trans (O.zF _ _ hl) (ev (m - 1)).2
  ·rw[J9 e2];have cb:m=1:=by omega
   subst cb;refine r_ O hp (G5 _) (by omega) (Dn.next O (λ i j vd hj=>?_) (G5 _) (O.zF _ _ hl)) hQ;have:i=j:=by omega
   subst this;exact O.refl _
theorem mi(O:Ord lt){p:Array Nat}(hp:Pm n p){k:Nat}(hk:k < n){Q:Nat->Prop}(hQ:∀l,l<=k->(∀i,i < l->le lt (pg p i) (pg p k))->(∀i,l<=i->i < k->lt (pg p k) (pg p i)=true)->Q l)(hu:Up lt p k):∀(f l r:Nat),l<=r->r<=k->r - l<=f->(∀i,i < l->le lt (pg p i) (pg p k))->(∀i,r<=i->i < k->lt (pg p k) (pg p i)=true)->kw n lt (kas_place p k f l r) Q
 |0,l,r,h1,h2,h3,h4,h5=>by
  have:r=l:=by omega
  subst this;exact hQ r h2 h4 h5
 |f+1,l,r,h1,h2,h3,h4,h5=>by
  unfold kas_place;by_cases e:l ≥ r
  ·rw[J8 e];have:r=l:=by omega
   subst this;exact hQ r h2 h4 h5
  ·rw[J9 e];refine⟨hp.below k (by omega),hp.below _ (by omega),?_⟩;show kw n lt (if lt (pg p k) (pg p ((l+r) / 2))=true then kas_place p k f l ((l+r) / 2)else kas_place p k f ((l+r) / 2+1) r) Q;cases e2:lt (pg p k) (pg p ((l+r) / 2))with
   |true=>
    rw[J8 rfl];refine mi O hp hk hQ hu f l _ (by omega) (by omega) (by omega) h4 λ i i1 i2=>?_;cases e3:lt (pg p k) (pg p i)with
    |true=>rfl
    |false=>have:=O.tr _ _ _ e3 (hu ((l+r) / 2) i i1 i2);rw[e2]at this;cases this
   |false=>rw[J9 (by simp)];exact mi O hp hk hQ hu f _ r (by omega) (by omega) (by omega) (λ i hi=>O.trans (hu i ((l+r) / 2) (by omega) (by omega)) e2) h5
theorem Ci(O:Ord lt){Q:Array Nat->Prop}(hQ:∀p,Pm n p->Up lt p n->Q p):∀(f:Nat) (p:Array Nat) (k:Nat),Pm n p->k+f=n->Up lt p k->kw n lt (kas_bin f p k) Q
 |0,p,k,hp,hf,hu=>hQ p hp (by rw[<- hf];exact hu)
 |f+1,p,k,hp,hf,hu=>by
  unfold kas_bin;have hz:=hp.size;refine gS (mi O hp (by omega) (λ l hl h4 h5=>?_) hu k 0 k (G7 _) (G5 _) (by omega) (λ i hi=>absurd hi (by omega)) λ i a b=>absurd b (by omega));refine Ci O hQ f _ (k+1) (hp.Ya _ _) (by omega) λ i j vd hj=>?_;rw[BB (by omega) hl,BB (by omega) hl];by_cases e1:i=l
  ·rw[J8 e1];by_cases e2:j=l
   ·rw[J8 e2];exact O.refl _
   ·rw[J9 e2,J8 ⟨by omega,by omega⟩];exact O.zF _ _ (h5 (j - 1) (by omega) (by omega))
  ·rw[J9 e1];by_cases e2:j=l
   ·rw[J8 e2,J9 (by omega)];exact h4 i (by omega)
   ·rw[J9 e2];by_cases e3:l < i/\i<=k
    ·rw[J8 e3,J8 ⟨by omega,by omega⟩];exact hu _ _ (by omega) (by omega)
    ·rw[J9 e3];by_cases e4:l < j/\j<=k
     ·rw[J8 e4];exact hu _ _ (by omega) (by omega)
     ·rw[J9 e4];exact hu _ _ (by omega) (by omega)
theorem Hk(O:Ord lt)(hn:2<=n){Q:Array Nat->Prop}(hQ:∀p,Pm n p->Up lt p n->Q p):kw n lt (kas_sort n) Q:=by
 unfold kas_sort;refine gS (Cg O (Array.Perm.refl _) hn λ m p hp h1 h2 hu=>?_);show kw n lt (if m < n then kas_bin (n - max m 1) p (max m 1)else KasT.ret p) Q;have hm:max m 1=m:=by omega
 rw[hm];by_cases e:m < n
 ·rw[J8 e];exact Ci O hQ (n - m) p m hp (by omega) hu
 ·rw[J9 e];have:m=n:=by omega
  subst this;exact hQ p hp hu
end
end L5
namespace L5
open PySem
def kr(T:String)(h:Heap)(j l:Addr)(i:Nat):Prop:=∃o,h.get? j=some o/\o.cls=.type T/\o.data=.fields #[.ref l,.int i 0]
theorem kr.keep {T:String}{h h':Heap}{j l:Addr}{i:Nat}(x:kr T h j l i)(k:∀o,h.get? j=some o->h'.get? j=some o):kr T h' j l i:=let⟨o,a,r⟩:=x;⟨o,k o a,r⟩
structure NK(T:String)(Sq:Heap->Addr->Array Value->Prop):Prop where
 keep:∀{h h':Heap} {l:Addr} {vs:Array Value},Sq h l vs->(∀o,h.get? l=some o->h'.get? l=some o)->Sq h' l vs
 start:∀{prog:Program} {w:World} {A:Around} {E:Value->Shared->Prop} {s:Shared} {l:Addr} {vs:Array Value} {Q:Value->Shared->Prop},Sq s.heap l vs->
  Q (.ref s.heap.objs.size) {s with heap:=s.heap.push {cls:=.type T,data:=.fields #[.ref l,.int 0 0]}}->wpAny (model prog w) A (pyIter (.ref l)) Q E s
 item:∀{prog:Program} {w:World} {A:Around} {E:Value->Shared->Prop} {s:Shared} {j l:Addr} {i:Nat} {vs:Array Value} {x:Value} {Q:Value->Shared->Prop},kr T s.heap j l i->Sq s.heap l vs->vs[i]?=some x->
  (∀h',kr T h' j l (i+1)->Heap.SameBut j s.heap h'->Q x {s with heap:=h'})->wpAny (model prog w) A (Builtin.SmallTypes.nextOf (.ref j)) Q E s
 stop:∀{prog:Program} {w:World} {A:Around} {E:Value->Shared->Prop} {s:Shared} {j l:Addr} {i:Nat} {vs:Array Value} {Q:Value->Shared->Prop},A.handled=none->kr T s.heap j l i->Sq s.heap l vs->vs[i]?=none->
  (∀h' e,Heap.ExtBut j s.heap h'->(∃o,h'.get? e=some o/\o.cls=.type "StopIteration")->E (.ref e) {s with heap:=h'})->wpAny (model prog w) A (Builtin.SmallTypes.nextOf (.ref j)) Q E s
theorem iT:NK "list_iterator" Heap.IsList where
 keep:=λ x k=>x.at k
 start:=λ x q=>x5 x q
 item:=λ a b c d=>wpAny_nextOf_list_item a b c d
 stop:=λ a b c d e=>wpAny_nextOf_list_end a b c d e
section
variable {prog:Program}{w:World}{A:Around}{E:Value->Shared->Prop}{s:Shared}
theorem LV{j q:Addr}{i:Nat}{vs:Array Value}{x:Value}{Q:Value->Shared->Prop}(ji:s.heap.IsTupleIter j q i)(jt:s.heap.IsTuple q vs)(jx:vs[i]?=some x) (k:∀h',h'.IsTupleIter j q (i+1)->Heap.SameBut j s.heap h'->Q x {s with heap:=h'}):wpAny (model prog w) A (Builtin.SmallTypes.nextOf (.ref j)) Q E s:=by obtain⟨ob,hb,kc,kd⟩:=id ji;obtain⟨ot,ht,_,nt,dt⟩:=jt;unfold Builtin.SmallTypes.nextOf;refine H0 (i9 (name:=Str.ofString "__next__") ji.typeIs c5 (y8 c5 ji.typeIs F.entry_tuple_iterator_next ?_ (F.args_tuple_iterator_next_1 _)));refine H0 (m:=field (.ref j) 0) (G8 hb kd (x:=.ref q) rfl ?_);show wpAny _ _ (if(Value.ref q==Value.none)=true then _ else _) _ _ s;rw[J9 (show(Value.ref q==Value.none)≠true from p5)];refine H0 (m:=field (.ref j) 1) (G8 hb kd (x:=.int i 0) rfl ?_);refine H0 (m:=seqItems? (.ref q)) (C1 ht dt ?_);simp only[w6,jx];refine H0 (C4 hb kd (by simp) (H9 ⟨x,rfl,H9 (k _ ?_ (l8 ..))⟩));refine⟨_,j8 _ hb (Obj.isFreed_of_fields (u6 kd _)),(Obj.cls_mapFields ..).trans kc,?_⟩;rw[u6 kd];simp[rawInt]
theorem JU{j q:Addr}{i:Nat}{vs:Array Value}{Q:Value->Shared->Prop}(hA:A.handled=none)(ji:s.heap.IsTupleIter j q i)(jt:s.heap.IsTuple q vs)(jx:vs[i]?=none) (k:∀h' e,Heap.ExtBut j s.heap h'->(∃o,h'.get? e=some o/\o.cls=.type "StopIteration")->E (.ref e) {s with heap:=h'}):wpAny (model prog w) A (Builtin.SmallTypes.nextOf (.ref j)) Q E s:=by obtain⟨ob,hb,kc,kd⟩:=id ji;obtain⟨ot,ht,_,nt,dt⟩:=jt;unfold Builtin.SmallTypes.nextOf;refine H0 (i9 (name:=Str.ofString "__next__") ji.typeIs c5 (y8 c5 ji.typeIs F.entry_tuple_iterator_next ?_ (F.args_tuple_iterator_next_1 _)));refine H0 (m:=field (.ref j) 0) (G8 hb kd (x:=.ref q) rfl ?_);show wpAny _ _ (if(Value.ref q==Value.none)=true then _ else _) _ _ s;rw[J9 (show(Value.ref q==Value.none)≠true from p5)];refine H0 (m:=field (.ref j) 1) (G8 hb kd (x:=.int i 0) rfl ?_);refine H0 (m:=seqItems? (.ref q)) (C1 ht dt ?_);simp only[w6,jx];refine H0 (J0 (H0 (C4 hb kd (by simp) ?_)));refine H0 (m:=newExc (.type "StopIteration") []) ?_;simp only[newExc,newTuple];refine H0 (w9 (H0 (m:=firstArgMember _ _) (wpAny_of_eq (a:=Value.none) (by first|rfl|(simp only[firstArgMember];rfl)) (w9 ?_ (by size_fits)))) (by size_fits));simp only[raiseNew];refine H0 (wpAny_handled ?_);have hB:A.in1.handled=none:=hA;rw[hB];exact H0 (H9 (wpAny_throw (k _ _ (((l8 ..).extBut.push _).push _) ⟨_,m9 _ rfl,rfl⟩)))
end
theorem fq:NK "tuple_iterator" Heap.IsTuple where
 keep:=λ x k=>let⟨o,a,r⟩:=x;⟨o,k o a,r⟩
 start:=λ x q=>wpAny_pyIter_tuple x q
 item:=λ a b c d=>LV a b c d
 stop:=λ a b c d e=>JU a b c d e
end L5
namespace L2
open PySem PySem.Spec PyProof.Rows
open HT (lexLt cZ dS dC dD lS)
open PySem.SeqAt PySem.MeetsSeq PySem.MeetsSeq2 PySem.MeetsSeq3 PySem.SeqRoads2
open PySem.AutoSeq1 (wpAny_loadPart')
theorem kN{vs:List Value}{ns:List Int}(h:IntsAre vs ns){i:Nat}(hi:i < ns.length):∃t,vs[i]?=some (.int ns[i] t):=by
 induction h generalizing i with
 |nil=>simp at hi
 |cons n t h ih=>
  cases i with
  |zero=>exact⟨t,rfl⟩
  |succ i=>obtain⟨t',e⟩:=ih (i:=i) (by simpa using hi);exact⟨t',by simpa using e⟩
theorem Hd(l b:Addr)(xs ys:Array Value)(n k:Nat)(dd ee:Option Addr)(sl tl:Array (Option Value))(ns ms:List Int)(hi:IntsAre xs.toList ns)(hj:IntsAre ys.toList ms)(f:Nat):∀i:Nat,ns.length - i=f->Meets (Builtin.«list.__eq__.loop» ⟨[.ref l,.ref b,rawInt i,rawInt 0],[]⟩)
   (λ A R s=>s.heap.get? l=some {cls:=.type "list",dict:=dd,data:=.seq xs n,slots:=sl}/\s.heap.get? b=some {cls:=.type "list",dict:=ee,data:=.seq ys k,slots:=tl}/\i<=ns.length/\i<=ms.length/\
    R (.ok (.ret (.bool (lexLt (ns.drop i) (ms.drop i))))) s):=by
 have z1:xs.size=ns.length:=by rw[<- hi.length];simp
 have z2:ys.size=ms.length:=by rw[<- hj.length];simp
 induction f with
 |zero=>
  intro i hf prog w A R s h;obtain⟨hp,g,d,tk,os⟩:=s;obtain⟨hl,hb,i1,i2,h⟩:=h
  wp_walk using A8 hl,A8 hb
  have e1:xs[((i:Nat):Int).toNat]?=none:=by simp;omega
  have d1:ns.drop i=[]:=by simp;omega
  rw[d1]at h;rw[e1];have fin:R (.ok (.ret (.bool (decide (xs.size < ys.size))))) ⟨hp,g,d,tk,os⟩:=by
   have q:lexLt [] (ms.drop i)=decide (xs.size < ys.size):=by
    cases e:ms.drop i with
    |nil=>
     have:ms.length<=i:=by simpa using e
     rw[dS];exact(A7 (by omega)).symm
    |cons c r=>
     have:i < ms.length:=by refine y6 λ z=>?_;rw[drop_eq_nil_of_le z]at e;cases e
     rw[dC];exact(C0 (by omega)).symm
   rw[<- q];exact h
  wp_walk using A8 hl,A8 hb
  exact fin
 |succ f ih=>
  intro i hf prog w A R s h;obtain⟨hp,g,d,tk,os⟩:=s;obtain⟨hl,hb,i1,i2,h⟩:=h;have a1:i < ns.length:=by omega
  obtain⟨t,e1⟩:=kN hi a1;have e1:xs[((i:Nat):Int).toNat]?=some (.int ns[i] t):=by simpa using e1
  by_cases a2:i < ms.length
  ·obtain⟨u,e2⟩:=kN hj a2;have e2:ys[((i:Nat):Int).toNat]?=some (.int ms[i] u):=by simpa using e2
   rw[e7 a1,e7 a2,cZ]at h
   wp_walk using A8 hl,A8 hb
   rw[e1,e2];refine H0 (EqAt.int_int ns[i] t ms[i] u prog w _ _ ?_);have cc:((i:Int)+1)=((i+1:Nat):Int):=by push_cast;rfl
   by_cases q:ns[i]=ms[i]
   ·rw[J8 q]at h;have qb:(ns[i]==ms[i])=true:=by simp[q]
    rw[qb]
    wp_walk
    rw[cc];exact⟨D3 plain_eq_loop _,B3 entry_eq_loop (by rw[l6 plain_eq_loop _];exact ih (i+1) (by omega) prog w A R _ ⟨hl,hb,by omega,by omega,h⟩)⟩
   ·rw[J9 q]at h;have qb:(ns[i]==ms[i])=false:=by simp[q]
    rw[qb];have rl:=lS A.in1 ⟨hp,g,d,tk,os⟩ ns[i] t ms[i] u prog w
    wp_walk using A8 hl,A8 hb
    rw[e1,e2]
    wp_walk using rl
    exact h
  ·have e2:ys[((i:Nat):Int).toNat]?=none:=by simp;omega
   have d2:ms.drop i=[]:=by simp;omega
   rw[e7 a1,d2,dD]at h
   wp_walk using A8 hl,A8 hb
   rw[e1,e2]
   wp_walk using A8 hl,A8 hb
   have q:decide (xs.size < ys.size)=false:=A7 (by omega);show R (.ok (.ret (.bool (decide (xs.size < ys.size))))) _;rw[q];exact h
theorem rY(l b:Addr)(xs ys:Array Value)(n k:Nat)(dd ee:Option Addr)(sl tl:Array (Option Value))(ns ms:List Int)(hi:IntsAre xs.toList ns)(hj:IntsAre ys.toList ms):
  Meets (Builtin.«list.__lt__» ⟨[.ref l,.ref b],[]⟩) (λ A R s=>s.heap.get? l=some {cls:=.type "list",dict:=dd,data:=.seq xs n,slots:=sl}/\s.heap.get? b=some {cls:=.type "list",dict:=ee,data:=.seq ys k,slots:=tl}/\
    R (.ok (.ret (.bool (lexLt ns ms)))) s):=by
 intro prog w A R s h;obtain⟨hp,g,d,tk,os⟩:=s;obtain⟨hl,hb,h⟩:=h;have f3:=AutoSeq1.sub_list_list
 wp_walk using A8 hl,A8 hb
 exact⟨D3 plain_eq_loop _,B3 entry_eq_loop (by rw[l6 plain_eq_loop _];exact Hd l b xs ys n k dd ee sl tl ns ms hi hj _ 0 rfl prog w A R _ ⟨hl,hb,G7 _,G7 _,h⟩)⟩
theorem BZ{prog:Program}{w:World}{A:Around}{E:Value->Shared->Prop}{s:Shared}{l b:Addr}{xs ys:Array Value}{ns ms:List Int}{Q:Value->Shared->Prop}(hl:s.heap.IsList l xs)(hb:s.heap.IsList b ys)(hi:IntsAre xs.toList ns)(hj:IntsAre ys.toList ms) (hu:A.units < cLine) (h:Q (.bool (lexLt ns ms)) s):wpAny (model prog w) A (compareOp .Lt (.ref l) (.ref b)) Q E s:=by
 obtain⟨⟨c1,dd,da,sl⟩,o1,k1,n,d1⟩:=id hl;obtain⟨⟨c2,ee,db,tl⟩,o2,k2,m,d2⟩:=id hb;simp only at k1 d1 k2 d2;subst k1 d1 k2 d2;exact richCompare_meets_room (op:=.Lt) ⟨_,o1,rfl⟩ ⟨_,o2,rfl⟩ PySem.F.slot_list_lt PySem.F.entry_list_lt (PySem.F.args_list_lt_2 _ _) (rY l b xs ys n m dd ee sl tl ns ms hi hj)
  ⟨o1,o2,show Value.bool (lexLt ns ms)≠Value.notImplemented/\Q (.bool (lexLt ns ms)) s from⟨(λ x=>nomatch x),h⟩⟩ hu
end L2
namespace L2
open PySem PySem.Spec PyProof.Rows L5
def Sq(b:Bool)(K:K2)(H:Hp)(a:Addr)(xs:List V):Prop:=match b with
 |true=>fE K H a xs
 |false=>dn K H a xs
def Qx(b:Bool):String:=match b with
 |true=>"tuple_iterator"
 |false=>"list_iterator"
def fN(b:Bool):Heap->Addr->Array Value->Prop:=match b with
 |true=>Heap.IsTuple
 |false=>Heap.IsList
theorem gA:∀b,NK (Qx b) (fN b)
 |true=>fq
 |false=>iT
section
variable {X:Cx}{pins:List (Addr×Obj)}{σ:St}{H:Hp}{s:Shared}{a v:Addr}{xs ys:List V}
theorem gh(I:Inv X pins σ H s):∀{b:Bool},Sq b X.K H a xs->∃av:List Value,Vals xs av/\fN b s.heap a av.toArray
 |true,h=>let⟨av,r,p,_⟩:=I.tuple h;⟨av,r,p⟩
 |false,h=>let⟨av,r,p,_⟩:=I.list h;⟨av,r,p.isList⟩
theorem JV(I:Inv X pins σ H s):∀{b:Bool},Sq b X.K H a xs->Sq b X.K H a ys->xs=ys
 |true,h,q=>I.nX h q
 |false,h,q=>I.rX h q
theorem wt{u:HO}(h:Rd H a u):∃o,H a=some o:=by
 rcases h with h|⟨o,h⟩
 ·exact⟨_,h⟩
 ·exact⟨_,h⟩
theorem Ai:∀{b:Bool} {K:K2},Sq b K H a xs->(∃o,H a=some o)\/∃o,K.lookup a=some o
 |true,K,h=>by
  rcases h with h|⟨o,av,n,hk,_⟩
  ·exact .inl (wt h)
  ·exact .inr ⟨o,hk⟩
 |false,K,h=>by
  rcases h with h|⟨o,av,n,hk,_⟩
  ·exact .inl (wt h)
  ·exact .inr ⟨o,hk⟩
theorem Aj(I:Inv X pins σ H s)(f:iC X pins H v){b:Bool}(h:Sq b X.K H a xs):a≠v:=λ e=>by
 subst e;rcases Ai h with⟨o,q⟩|⟨o,q⟩
 ·rw[f.1]at q;cases q
 ·have q:=I.ok.mod.Ra a o q;rcases f.2.2.2.1 with z|z
  ·exact I.ok.yQ a o q z
  ·exact absurd (q9 (D6 q) (D9 I.ok.Ei z)) (C8 _)
theorem qO{t':Nat}{ch:List Addr}{h':Heap}(I:Inv X pins σ H s)(k:∀b o,b∉ch->s.heap.get? b=some o->h'.get? b=some o)(hf:∀b∈ch,iC X pins H b):Inv X pins σ H {s with heap:=h',toks:=t'}:=by
 have OO:∀b u,H b=some u->b∉ch:=λ b u e z=>by rw[(hf b z).1]at e;cases e
 refine I.step (g':=s.gens) (d':=s.drawn) (ch:=ch) (λ b hb=>?_) (λ b o _ _ hc e _=>k b o hc e) (λ b o _ _ hc e _=>⟨o.slots,k b o hc e⟩) (λ _ _ _ _ n=>n)
  (λ b o hc e=>⟨o,k b o hc e⟩) (λ _ _ e=>e) (λ _ _ _ e=>e) (λ b ps e=>⟨#[],by rw[e];simp⟩) (λ m hm=>?_) (λ b u e=>?_) I.bare
 ·obtain⟨f0,f1,f2,f3,f4,f5⟩:=hf b hb;exact⟨f3,f1,f4,f5⟩
 ·obtain⟨o,es,ep,ho,r⟩:=hm;exact⟨o,es,ep,k _ o (λ z=>(hf _ z).2.1 rfl) ho,r⟩
 ·refine(I.cp b u e).jV (λ c v hc q=>k c v ?_ q) (λ _ q=>q) λ _ _ q=>q;rcases hc with z|z
  ·rw[z];exact OO b u e
  ·exact OO c _ z
end
end L2
namespace L5
open PySem PySem.W PySem.Calls PyProof.Rows
section
variable {prog:Program}{w:World}{A:Around}{E:Value->Shared->Prop}{s:Shared}
theorem I_{α:Type}{n:Nat}{lt:Nat->Nat->Bool}{κ:SortKind}{ks:List Value}{Q:α->Shared->Prop}(hc:∀i j C,i < n->j < n->C (lt i j) s->wpAny (model prog w) A (keyLt' κ (ks.getD i Value.none) (ks.getD j Value.none)) C (λ _ _=>False) s):∀(t:KasT α),kw n lt t (λ a=>Q a s)->t.kasWp (kas_ask prog w A κ ks) Q s
 | .ret a,h=>h
 | .ask i j k,h=>hc i j _ h.1 h.2.1 (I_ hc (k (lt i j)) h.2.2)
def Out{α:Type}(lt:Nat->Nat->Bool)(vs:List α)(d:α)(out:List α):Prop:=∃p:Array Nat,Pm vs.length p/\Up lt p vs.length/\out=p.toList.map λ i=>vs.getD i d
theorem Gu{α:Type}{lt:Nat->Nat->Bool}(O:Ord lt){vs:List α}(d:α)(h:vs.length < 2):Out lt vs d vs:=by
 refine⟨List.toArray (List.range vs.length),Array.Perm.refl _,λ i j vd hj=>?_,?_⟩
 ·have:i=j:=by omega
  subst this;exact O.refl _
 ·match vs,h with
  |[],_=>rfl
  |[v],_=>rfl
theorem wX{a kS:Addr}{e e1:Nat}{ks out:List Value}{st:SortSt}{P:PySem.Fin->Shared->Prop}(hk:s.heap.get? kS=some (seqObj "list" (List.toArray ks) e))(ha:s.heap.get? a=some (seqObj "list" #[] e1))(dj:a≠kS)(YN:ks.length < 64)(YH:out.length < 64)
  (ho:(arrOf st).map (·.2)=List.toArray out) (hf:failedOf st=none)
  (h:∀h' c,h'.get? a=some (seqObj "list" (List.toArray out) c)->(∀b o,b≠a->b≠kS->s.heap.get? b=some o->h'.get? b=some o)->P (.done (.ret .none)) {s with heap:=h'}):wpAny (model prog w) A (ksk_tail a false e1 (.ref kS) st) P E s:=by
 unfold ksk_tail
 try dsimp only
 rw[ho];have s1:=l8 s.heap kS (Obj.mapSeq λ _=>(#[]:Array Value));have a1:(s.heap.update kS (Obj.mapSeq λ _=>(#[]:Array Value))).get? a=some (seqObj "list" #[] e1):=(s1.2 a dj).trans ha;have s2:=l8 (s.heap.update kS (Obj.mapSeq λ _=>(#[]:Array Value))) a (Obj.mapSeq λ _=>List.toArray out);refine H0 (listUpdate_at hk rfl (H0 (G9 (H0 (seqEpoch_at a1 rfl (H0 (listUpdate_at a1 rfl ?_ (G7 _) ?_)))))) (by rw[x8,G6];omega) (G7 _))
 ·rw[hf];simp only[bne_self_eq_false,p7,J4];exact H9 (h _ _ (get?_update_seq a1 λ _=>List.toArray out) λ b o b1 b2 q=>(s2.2 b b1).trans ((s1.2 b b2).trans q))
 ·simp only[p7,J4];rw[x8,G6];omega
theorem Ma{a kS:Addr}{e e1:Nat}{ks vs:List Value}{κ:SortKind}{lt:Nat->Nat->Bool}{P:PySem.Fin->Shared->Prop}(O:Ord lt)(hl:ks.length=vs.length)(nB:vs.length < 64)(hk:s.heap.get? kS=some (seqObj "list" (List.toArray ks) e))(ha:s.heap.get? a=some (seqObj "list" #[] e1))(dj:a≠kS)
  (CS:2<=vs.length->∀C:SortKind->Shared->Prop,C κ s->wpAny (model prog w) A (keyKind' (List.toArray ks)) C E s)
  (hc:2<=vs.length->∀i j C,i < vs.length->j < vs.length->C (lt i j) s->wpAny (model prog w) A (keyLt' κ (ks.getD i Value.none) (ks.getD j Value.none)) C (λ _ _=>False) s)
  (h:∀out h' c,Out lt vs Value.none out->h'.get? a=some (seqObj "list" (List.toArray out) c)->(∀b o,b≠a->b≠kS->s.heap.get? b=some o->h'.get? b=some o)->P (.done (.ret .none)) {s with heap:=h'}):
  wpAny (model prog w) A (ksk_end a false vs.toArray e1 (.ref kS) (List.toArray ks)) P E s:=by
 unfold ksk_end
 try dsimp only
 simp only[p7,J4];by_cases h2:vs.length < 2
 ·have z2:vs.toArray.size < 2:=by rw[x8];exact h2
  rw[J8 z2,J8 z2];refine H0 (H9 (H0 ?_));rw[StateT.run_pure];refine H9 ?_;refine wX hk ha dj (by omega) nB (st:=SortSt.mk' general' ((List.toArray ks).zip vs.toArray) #[] 7 none) ?_ rfl λ h' c a1 a2=>h vs h' c (Gu O _ h2) a1 a2;show((List.toArray ks).zip vs.toArray).map (·.2)=_;apply Array.toList_inj.mp;simp;exact map_snd_zip (by omega)
 ·have z2:¬vs.toArray.size < 2:=by rw[x8];exact h2
  rw[J9 z2,J9 z2];refine H0 (CS (by omega) _ ?_);refine H0 (J3 (kat_run (Q:=λ og s'=>s'=s/\∃p:Array Nat,p.size=vs.length/\arrOf og=p.map (kas_item ((List.toArray ks).zip vs.toArray))/\failedOf og=none/\Pm vs.length p/\Up lt p vs.length)
   (G:=λ p s'=>s'=s/\Pm vs.length p/\Up lt p vs.length) hl (by omega) nB (λ p og s' a1 a2 a3 a4=>⟨a4.1,p,a1,a2,a3,a4.2⟩) (I_ (hc (by omega)) _ (Hk O (by omega) λ p p1 p2=>⟨rfl,p1,p2⟩))) ?_ λ _ _ x=>x)
  rintro⟨⟨⟩,og⟩ s' ⟨rfl,p,hp,W8,hf,p1,p2⟩
  try dsimp only
  refine wX hk ha dj (by omega) ?_ (kat_snds hl W8) hf λ h' c a1 a2=>h _ h' c ⟨p,p1,p2,rfl⟩ a1 a2;rw[B5,m8,hp];exact nB
theorem wY{kS q:Addr}{body:Value->PUnit->Sem (ForInStep PUnit)}{J:List Value->Nat->Shared->Prop}{vs:List Value} (hb:∀x ks e (s:Shared),J ks e s->vs[ks.length]?=some x->wpAny (model prog w) A (body x ⟨⟩) (λ r s'=>r=.yield ⟨⟩/\∃k c,J (ks++[k]) c s') E s):∀(r ks:List Value) (e:Nat) (s:Shared),vs.drop ks.length=r->ks.length<=vs.length->J ks e s->
   wpAny (model prog w) A (forIn r PUnit.unit body) (λ _ s'=>∃ks e,ks.length=vs.length/\J ks e s') E s
 |[],ks,e,s,hr,hl,h=>by rw[forIn_nil];exact H9 ⟨ks,e,B8 hl (by simpa using hr),h⟩
 |x::r,ks,e,s,hr,hl,h=>by
  rw[forIn_cons];have eR:ks.length < vs.length:=by refine y6 λ z=>?_;rw[drop_eq_nil_of_le z]at hr;cases hr
  rw[e7 eR]at hr;injection hr with e1 e2
  refine H0 (J3 (hb x ks e s h (by rw[i5 eR,e1])) (λ y s' hy=>?_) λ _ _ z=>z);obtain⟨rfl,k,c,h2⟩:=hy;exact wY (kS:=kS) (q:=q) hb r (ks++[k]) c s' (by rw[p6,k4];exact e2) (by rw[p6,k4];omega) h2
theorem Hl{a kS q:Addr}{e1:Nat}{vs:List Value}{P:PySem.Fin->Shared->Prop}{J:List Value->Nat->Shared->Prop}(nB:vs.length < 64)(hJ:∀ks e s,J ks e s->s.heap.get? kS=some (seqObj "list" (List.toArray ks) e)/\ks.length<=vs.length)
  (Pw:∀x ks e (s:Shared),J ks e s->vs[ks.length]?=some x->wpAny (model prog w) A (call (.ref q) [x]) (λ k s'=>s'.heap.get? kS=some (seqObj "list" (List.toArray ks) e)/\∀h' c,h'.get? kS=some (seqObj "list" (List.toArray (ks++[k])) c)->Heap.SameBut kS s'.heap h'->J (ks++[k]) c {s' with heap:=h'}) (λ _ _=>False) s)
  (h0:J [] 0 s) (Tz:∀ks e s,J ks e s->ks.length=vs.length->wpAny (model prog w) A (ksk_end a false vs.toArray e1 (.ref kS) (List.toArray ks)) P E s):wpAny (model prog w) A (ksk_rest a (.ref q) false vs.toArray e1 (.ref kS)) P E s:=by
 unfold ksk_rest;refine H0 (J0 ?_)
 first
  |rw[List.forIn_toArray]
  |(rw[<- Array.forIn_toList];simp only[List.toList_toArray])
  |rw[<- Array.forIn_toList]
 refine H0 (J3 (wY (kS:=kS) (q:=q) (J:=J) (vs:=vs) (λ x ks e s' hj hx=>?_) vs [] 0 s rfl (G7 _) h0) (λ _ s' hd=>?_) λ _ _ x=>x)
 ·refine H0 (C6 (J3 (Pw x ks e s' hj hx) (λ k NW hk=>?_) λ _ _ hF=>hF.elim));obtain⟨k1,k2⟩:=hk;have hz:=(hJ ks e s' hj).2;have s1:=l8 NW.heap kS (Obj.mapSeq (·.push k));have ea:(List.toArray ks).push k=List.toArray (ks++[k]):=by simp
  try dsimp only
  refine H0 (listUpdate_at k1 rfl (H9 ⟨rfl,k,_,k2 _ _ (by rw[<- ea];exact get?_update_seq k1 (·.push k)) s1⟩) (by rw[x8,G6];omega) (D9 (E4 (Array.size_push ..)) (by rw[x8,G6];omega)))
 ·obtain⟨ks,e,hl,hj⟩:=hd
  try dsimp only
  exact H0 (listItems_at (hJ ks e s' hj).1 rfl (Tz ks e s' hj hl))
end
end L5
namespace L2
open PySem PySem.Spec PyProof.Rows L5 PySem.W
open HT (lexLt cZ dS dC dD)
theorem eO{h:Heap}:∀{vs:List Value} {ns:List Int},IntsAre vs ns->ReadsAll h vs (ns.map PyData.int) []
 |_,_,.nil=>ReadsAll.nil
 |_,_,.cons n t r=>ReadsAll.cons (Reads.int n t) (eO r)
abbrev Ky:=Int×List Int
def klt(a b:Ky):Bool:=if a.1=b.1 then lexLt a.2 b.2 else decide (a.1 < b.1)
theorem wR:∀a:List Int,lexLt a a=false
 |[]=>rfl
 |x::a=>by rw[cZ,J8 rfl];exact wR a
theorem rZ:∀a b:List Int,lexLt a b=true->lexLt b a=false
 |[],[],h=>by cases h
 |[],_::_,_=>rfl
 |_::_,[],h=>by cases h
 |x::a,y::b,h=>by
  rw[cZ]at h ⊢;by_cases e:x=y
  ·rw[J8 e]at h;rw[J8 e.symm];exact rZ a b h
  ·rw[J9 e]at h;rw[J9 (J6 e)];have:=of_decide_eq_true h;exact A7 (by omega)
set_option tactic.hygienic true in
theorem Cd:∀a b c:List Int,lexLt a b=false->lexLt b c=false->lexLt a c=false
 |_,_::_,[],_,_=>by rename_i a _ _ _ _;cases a <;> rfl
 |[],[],c,_,h=>h
 |_::_,[],[],_,_=>rfl
 |_::_,[],_::_,_,h=>by cases h
 |[],_::_,_::_,h,_=>by cases h
 |x::a,y::b,z::c,h,g=>by
  rw[cZ]at h g ⊢;by_cases e:x=y
  ·rw[J8 e]at h;subst e;by_cases e2:x=z
   ·rw[J8 e2]at g ⊢;exact Cd a b c h g
   ·rw[J9 e2]at g ⊢;exact g
  ·rw[J9 e]at h;have h:=s9 h;by_cases e2:y=z
   ·subst e2;rw[J9 e];exact A7 h
   ·rw[J9 e2]at g;have g:=s9 g;have:x≠z:=by omega
    rw[J9 this];exact A7 (by omega)
theorem Cj(a b:Ky)(h:klt a b=true):klt b a=false:=by
 unfold klt at h ⊢;by_cases e:a.1=b.1
 ·rw[J8 e]at h;rw[J8 e.symm];exact rZ _ _ h
 ·rw[J9 e]at h;rw[J9 (J6 e)];have:=of_decide_eq_true h;exact A7 (by omega)
theorem Mc(a b c:Ky)(h:klt a b=false)(g:klt b c=false):klt a c=false:=by
 unfold klt at h g ⊢;by_cases e:a.1=b.1
 ·rw[J8 e]at h;by_cases e2:b.1=c.1
  ·rw[J8 e2]at g;rw[J8 (e.trans e2)];exact Cd _ _ _ h g
  ·rw[J9 e2]at g;rw[J9 (by rw[e];exact e2),e];exact g
 ·rw[J9 e]at h;have h:=s9 h;by_cases e2:b.1=c.1
  ·rw[J9 (by rw[<- e2];exact e),<- e2];exact A7 h
  ·rw[J9 e2]at g;have g:=s9 g;have:a.1≠c.1:=by omega
   rw[J9 this];exact A7 (by omega)
theorem Hm(key:Nat->Ky):Ord λ i j=>klt (key i) (key j):=⟨λ a b h=>Cj _ _ h,λ a b c h g=>Mc _ _ _ h g⟩
def mW(K:K2)(b:Bool)(H:Hp)(k:V)(c:Ky):Prop:=∃t m,k=.ref t/\fE K H t [.int c.1,.ref m]/\Sq b K H m (c.2.map V.int)
section
variable {X:Cx}{pins:List (Addr×Obj)}{σ:St}{H:Hp}{s:Shared}
theorem pQ(I:Inv X pins σ H s){b:Bool}{k:V}{c:Ky}{u:Value}(h:mW X.K b H k c)(r:RelV k u):∃(t m:Addr) (o:Obj) (tk:Tok) (n:Nat) (av:List Value),u=.ref t/\s.heap.get? t=some o/\o.cls=.type "tuple"/\o.data=.seq #[.int c.1 tk,.ref m] n/\fN b s.heap m av.toArray/\IntsAre av c.2:=by obtain⟨t,m,rfl,h1,h2⟩:=h;cases(show u=Value.ref t from r);obtain⟨av,r1,⟨o,ho,hc,n,hd⟩,_⟩:=I.tuple h1;obtain⟨u1,u2,rfl,⟨tk,rfl⟩,q2⟩:=vals2 r1;cases(show u2=Value.ref m from q2);obtain⟨SM,r2,p2⟩:=gh I h2;exact⟨t,m,o,tk,n,SM,rfl,ho,hc,hd,p2,intsAre_of r2⟩
theorem HM{A:Around}{b:Bool}{m m':Addr}{xs ys:List Value}{ns ms:List Int}(h1:fN b s.heap m xs.toArray)(h2:fN b s.heap m' ys.toArray)(i1:IntsAre xs ns)(i2:IntsAre ys ms)(hu:A.units+1 < cLine):SeqAt.EqAt A s (.ref m) (.ref m') (decide (ns=ms)):=by
 have dp:∀l:List Int,PyData.depthAll (l.map PyData.int)=0:=λ l=>ke_depthAll l;cases b with
 |true=>obtain⟨o,ho,hc,n,hd⟩:=h1;obtain⟨o',va,zi,n',iW⟩:=h2;have q:=SeqAt.eqAt_reads (.tuple (ns.map .int)) (.tuple (ms.map .int)) A s (.ref m) (.ref m') _ _ (reads_tuple_at ho hc hd (eO i1)) (reads_tuple_at va zi iW (eO i2)) (by simp[PyData.canLay0,ke_canLayAll0]) (by simp[PyData.canLay0,ke_canLayAll0]) (by simp[PyData.depth,dp];omega);rw[show PyData.eqv (.tuple (ns.map .int)) (.tuple (ms.map .int))=decide (ns=ms) by simp only[PyData.eqv];exact ked_eqvAll ns ms]at q;exact q
 |false=>obtain⟨o,ho,hc,n,hd⟩:=h1;obtain⟨o',va,zi,n',iW⟩:=h2;have q:=SeqAt.eqAt_reads (.list (ns.map .int)) (.list (ms.map .int)) A s (.ref m) (.ref m') _ _ (reads_list_at ho hc hd (eO i1)) (reads_list_at va zi iW (eO i2)) (by simp[PyData.canLay0,ke_canLayAll0]) (by simp[PyData.canLay0,ke_canLayAll0]) (by simp[PyData.depth,dp];omega);rw[show PyData.eqv (.list (ns.map .int)) (.list (ms.map .int))=decide (ns=ms) by simp only[PyData.eqv];exact ked_eqvAll ns ms]at q;exact q
theorem He{prog:Program}{w:World}{A:Around}{E:Value->Shared->Prop}{b:Bool}{m m':Addr}{xs ys:List Value}{ns ms:List Int}{Q:Value->Shared->Prop}(h1:fN b s.heap m xs.toArray)(h2:fN b s.heap m' ys.toArray)(i1:IntsAre xs ns)(i2:IntsAre ys ms)(hu:A.units < cLine) (h:Q (.bool (lexLt ns ms)) s):wpAny (model prog w) A (compareOp .Lt (.ref m) (.ref m')) Q E s:=by
 cases b with
 |true=>exact HT.uS (show IsTup s.heap m xs.toArray from h1) (show IsTup s.heap m' ys.toArray from h2) i1 i2 hu h
 |false=>exact BZ h1 h2 i1 i2 hu h
theorem Mf{A:Around}(I:Inv X pins σ H s)(hu:A.units+1 < cLine){b:Bool}{k k':V}{c c':Ky}{u u':Value}(h:mW X.K b H k c)(h':mW X.K b H k' c')(r:RelV k u)(r':RelV k' u'){C:Bool->Shared->Prop}(hC:C (klt c c') s):wpAny (model X.prog X.w) A (keyLt' (tuples' true) u u') C (λ _ _=>False) s:=by
 obtain⟨t,m,o,tk,n,av,rfl,ho,_,hd,hm,hi⟩:=pQ I h r;obtain⟨t',m',o',zI,n',its',rfl,va,_,iW,fu,Ec⟩:=pQ I h' r';refine kat_lt ho hd va iW (kat_cons (SeqAt.EqAt.int_int c.1 tk c'.1 zI X.prog X.w _ _ ?_));unfold klt at hC;by_cases e:c.1=c'.1
 ·rw[J8 e]at hC;rw[show(c.1==c'.1)=true by simp[e]];refine kat_yes (kat_cons (HM hm fu hi Ec hu X.prog X.w _ _ ?_));by_cases e2:c.2=c'.2
  ·rw[C0 e2];rw[e2,wR]at hC;exact kat_yes (kat_nil hC)
  ·rw[A7 e2];exact kat_no (kat_one _ _ (He hm fu hi Ec (by omega) hC))
 ·rw[J9 e]at hC;rw[show(c.1==c'.1)=false by simp[e]];exact kat_no (oneLt_int hC)
theorem sf(I:Inv X pins σ H s){b:Bool}:∀{kvs:List V} {ks:List Value} {key:Nat->Ky},Vals kvs ks->(∀i k,kvs[i]?=some k->mW X.K b H k (key i))->∃fs,KatTups s.heap ks fs/\fs.length=ks.length/\∀v∈fs,∃i t,v=Value.int i t
 |_,_,_,.nil,_=>⟨[],KatTups.nil,rfl,λ v hv=>by cases hv⟩
 |_,_,key,.cons (a:=k) r rr,h=>by
  obtain⟨fs,h1,h2,h3⟩:=sf I rr (key:=λ i=>key (i+1)) λ i k hk=>h (i+1) k (by simpa using hk);obtain⟨t,m,o,tk,n,av,rfl,ho,hc,hd,_,_⟩:=pQ I (h 0 _ rfl) r;refine⟨.int (key 0).1 tk::fs,KatTups.cons ho hc hd rfl h1,by simp[h2],λ v hv=>?_⟩;rcases D1.mp hv with rfl|hv
  ·exact⟨_,_,rfl⟩
  ·exact h3 v hv
theorem Ab{ys:List V}{av:List Value}(r:Vals ys av)(p:List Nat):Vals (p.map λ i=>ys.getD i V.bM) (p.map λ i=>av.getD i Value.none):=by
 induction p with
 |nil=>exact .nil
 |cons i p ih=>
  refine .cons ?_ ih;show RelV (ys.getD i V.bM) (av.getD i Value.none);cases e:ys[i]? with
  |none=>have e2:=r.none_of e;rw[c7,c7,e,e2];rfl
  |some y=>obtain⟨u,hu,ru⟩:=r.get e;rw[c7,c7,e,hu];exact ru
variable {k:Nat}{q:Addr}{fd:FuncData}{ps:List Str}{sp:Sp}
end
end L2
namespace L5
open PySem
theorem Et:fillsNumberSlot (.type "tuple") "mul"=pure false:=fillsNumberSlot_seq (id:="tuple.__mul__") (r:=some (.builtin "tuple.__rmul__")) F.slot_tuple_mul.lookup (by decide+kernel) F.slot_tuple_rmul.lookup (by decide+kernel)
theorem JJ:seqRepeat? (.type "tuple")=pure (some (.builtin "tuple.__mul__")):=by unfold seqRepeat?;rw[seqSlot_of (T:="tuple") (name:="__mul__") (id:="tuple.__mul__") F.slot_tuple_mul.lookup (by decide+kernel),seqSlot_of (T:="tuple") (name:="__rmul__") (id:="tuple.__rmul__") F.slot_tuple_rmul.lookup (by decide+kernel)];rfl
theorem JL(a:Int)(t:Tok)(l:Addr)(av:Array Value)(n:Nat)(dd:Option Addr)(sl:Array (Option Value)):Meets (Builtin.«int.__rmul__» ⟨[.int a t,.ref l],[]⟩) (λ _ R s=>s.heap.get? l=some {cls:=.type "tuple",dict:=dd,data:=.seq av n,slots:=sl}/\R (.ok (.ret Value.notImplemented)) s):=
 .of_wp λ prog w A R s h=>by
  obtain⟨hp,g,d,tk,os⟩:=s;obtain⟨hl,h⟩:=h
  wp_walk
  exact⟨_,rfl,h⟩
theorem JK(l:Addr)(av:Array Value)(n:Nat)(dd:Option Addr)(sl:Array (Option Value))(u:Tok):Meets (Builtin.«tuple.__mul__» ⟨[.ref l,.int 1 u],[]⟩) (λ _ R s=>s.heap.get? l=some {cls:=.type "tuple",dict:=dd,data:=.seq av n,slots:=sl}/\R (.ok (.ret (.ref l))) s):=
 .of_wp λ prog w A R s h=>by
  obtain⟨hp,g,d,tk,os⟩:=s;obtain⟨hl,h⟩:=h
  wp_walk
  exact⟨_,rfl,h⟩
theorem Es(l:Addr)(av:Array Value)(n:Nat)(dd:Option Addr)(sl:Array (Option Value))(x:Int)(u:Tok)(hx:x≠1)(h1: -(2^63)<=x)(h2:x < 2^63)(hi:av.isEmpty=false)(hz:av.size*x.toNat<=sizeLine):
  Meets (Builtin.«tuple.__mul__» ⟨[.ref l,.int x u],[]⟩) (λ _ R s=>s.heap.get? l=some {cls:=.type "tuple",dict:=dd,data:=.seq av n,slots:=sl}/\
   R (.ok (.ret (.ref s.heap.objs.size))) {s with heap:=s.heap.push {cls:=.type "tuple",data:=.seq ((List.replicate x.toNat av).foldl (·++·) #[])}}):=
 .of_wp λ prog w A R s h=>by
  obtain⟨hp,g,d,tk,os⟩:=s;obtain⟨hl,h⟩:=h
  wp_walk
  rw[J9 (by simp;omega)]
  wp_walk
  by_cases UM:x<=0
  ·rw[J8 (by simp[UM])]
   wp_walk
   have e:x.toNat=0:=by omega
   rw[e]at h;exact⟨_,rfl,h⟩
  ·rw[J9 (by simp[hi];omega)];have ez:((av.size:Int)*x)=((av.size*x.toNat:Nat):Int):=by rw[Int.natCast_mul,Int.toNat_of_nonneg (by omega)]
   have SQ:=hz;rw[G6]at SQ;rw[J9 (by rw[ez];omega)]
   wp_walk
   rw[J9 (by unfold Builtin.Tuple.tupleTooMany;rw[ez,w5,G6];omega)];have hsz:(List.foldl (λ x1 x2=>x1++x2) #[] (List.replicate x.toNat av)).size<=sizeLine:=by
    have f0:∀(m:Nat) (acc:Array Value),(List.foldl (λ x1 x2=>x1++x2) acc (List.replicate m av)).size=acc.size+m*av.size:=by
     intro m
     induction m with
     |zero=>intro acc;simp
     |succ m ih=>intro acc;rw[m7,foldl_cons,ih,Array.size_append,Nat.succ_mul];omega
    rw[f0,Nat.mul_comm];simpa using hz
   wp_walk
   exact⟨_,rfl,h⟩
end L5
namespace L2
open PySem PySem.Spec PyProof.Rows L5
section
variable {X:Cx}
theorem vY(ns:List Int):∀n,n<=ns.length->preSum (λ i=>ns.getD i 0) n=(ns.take n).sum
 |0,_=>by simp[preSum]
 |n+1,h=>by
  have hn:n < ns.length:=by omega
  rw[preSum,vY ns n (by omega),take_succ_eq_append_getElem hn,sum_append];simp[c7,hn]
theorem nM(hc:X.calm=true):cW X (.builtin "sum") (λ xs H Q=>∃(b:Bool) (p:Addr) (ns:List Int),xs=[.ref p]/\Sq b X.K H p (ns.map V.int)/\Q (.int ns.sum) H):=by
 intro pins s σ H xs us Q I r h;obtain⟨b,p,ns,rfl,hq,q⟩:=h;obtain⟨u,rfl,r1⟩:=vals1 r;cases r1;obtain⟨av,rv,pl⟩:=gh I hq;have hi:IntsAre av ns:=intsAre_of rv;have hlen:av.length=ns.length:=by rw[<- rv.length,B5]
 have hA:X.A.in1.handled=none:=I.ok.hd hc;have hv:∀i v,av.toArray[i]?=some v->∃t,v=Value.int (ns.getD i 0) t:=λ i v e=>by
  have e:av[i]?=some v:=by simpa using e
  have h1:i < ns.length:=by rw[<- hlen];exact(g9.mp e).1
  obtain⟨t,e2⟩:=kN hi h1;rw[e]at e2;cases e2;exact⟨t,by simp[c7,h1]⟩
 have ht:preSum (λ i=>ns.getD i 0) av.toArray.size=ns.sum:=by rw[x8,hlen,vY ns _ (G5 _),y7]
 cases b with
 |false=>
  have pl:s.heap.IsList p av.toArray:=pl;have dj:p≠s.heap.objs.size:=by obtain⟨o,e,_⟩:=pl;exact D5 (D6 e)
  refine call_sum_walkG (x5 pl ⟨s.heap.objs.size,_,_,_,_,_,λ i=>ns.getD i 0,rfl,Walks.list hA s.heap.objs.size p dj av.toArray,⟨⟨_,m9 _ rfl,rfl,rfl⟩,pl.at λ o e=>j5 _ e⟩,?_,hv,λ h' tk t' hk=>?_⟩)
  ·intro b hb;have:s.heap.objs.size < (s.heap.push {cls:=.type "list_iterator",data:=.fields #[.ref p,.int 0 0]}).objs.size:=by rw[C2];omega
   obtain⟨o,e,_⟩:=pl;have h2:=D6 e;simp at hb;rcases hb with rfl|rfl
   ·exact this
   ·exact Nat.lt_trans h2 this
  ·rw[ht];exact⟨.int ns.sum,H,I.kept (t':=tk) λ b o e=>hk b o (by simpa using D5 (D6 e)) (j5 _ e),⟨_,rfl⟩,q⟩
 |true=>
  have pl:s.heap.IsTuple p av.toArray:=pl;have dj:p≠s.heap.objs.size:=by obtain⟨o,e,_⟩:=pl;exact D5 (D6 e)
  refine call_sum_walkG (wpAny_pyIter_tuple pl ⟨s.heap.objs.size,_,_,_,_,_,λ i=>ns.getD i 0,rfl,Walks.tuple hA s.heap.objs.size p dj av.toArray,⟨⟨_,m9 _ rfl,rfl,rfl⟩,fq.keep pl λ o e=>j5 _ e⟩,?_,hv,λ h' tk t' hk=>?_⟩)
  ·intro b hb;have:s.heap.objs.size < (s.heap.push {cls:=.type "tuple_iterator",data:=.fields #[.ref p,.int 0 0]}).objs.size:=by rw[C2];omega
   obtain⟨o,e,_⟩:=pl;have h2:=D6 e;simp at hb;rcases hb with rfl|rfl
   ·exact this
   ·exact Nat.lt_trans h2 this
  ·rw[ht];exact⟨.int ns.sum,H,I.kept (t':=tk) λ b o e=>hk b o (by simpa using D5 (D6 e)) (j5 _ e),⟨_,rfl⟩,q⟩
theorem Gw:fF X (binaryOp .Mult) (λ x y H Q=>∃l k xs,x=.ref l/\y=.int k/\fE X.K H l xs/\xs≠[]/\-(2^63)<=k/\k < 2^63/\xs.length*k.toNat<=sizeLine/\(k=1->Q (.ref l) H)/\(k≠1->∀p,H p=none->Q (.ref p) (upd H p (.tup (List.replicate k.toNat xs).flatten)))):=by
 intro pins s σ H x y v u Q I rx ry h;obtain⟨l,k,xs,rfl,rfl,hH,dj,h1,h2,hz,q1,q2⟩:=h;cases rx;obtain⟨t,rfl⟩:=ry;obtain⟨av,r,⟨⟨c,dd,da,sl⟩,e,hc,n,hd⟩,_⟩:=I.tuple hH;have hl:=r.length;cases(show c=.type "tuple" from hc);cases(show da=.seq av.toArray n from hd);refine wpAny_binaryOp_repeat_ref (T:="tuple") (U:="int") (by decide) ⟨_,e,rfl⟩ (λ s'=>typeIs_int s' k t) Et F.fills_int_mul F.slot_int_rmul JJ F.slot_int_index.lookup
  (J1 F.slot_int_rmul (typeIs_int s k t) F.entry_int_rmul (F.args_int_rmul_2 _ _) (JL k t l av.toArray n dd sl) ⟨e,rfl,⟨_,e,rfl⟩,?_⟩)
 by_cases hk:k=1
 ·subst hk;exact J1 F.slot_tuple_mul ⟨_,e,rfl⟩ F.entry_tuple_mul (F.args_tuple_mul_2 _ _) (JK l av.toArray n dd sl t) ⟨e,.ref l,H,I,rfl,q1 rfl⟩
 ·refine J1 F.slot_tuple_mul ⟨_,e,rfl⟩ F.entry_tuple_mul (F.args_tuple_mul_2 _ _) (Es l av.toArray n dd sl k t hk h1 h2 ?_ (by rw[x8,<- hl];exact hz)) ⟨e,?_⟩
  ·cases av with
   |nil=>cases r;exact absurd rfl dj
   |cons a b=>rfl
  ·have CP:List.foldl (λ x1 x2=>x1++x2) #[] (List.replicate k.toNat av.toArray)=(List.replicate k.toNat av).flatten.toArray:=by have:=foldl_rep av k.toNat [];rw[nil_append]at this;exact this
   rw[CP];have fr:=I.fresh;refine⟨.ref s.heap.objs.size,_,I.laid (t':=s.toks) (o:=.tup (List.replicate k.toNat xs).flatten) (λ b o e=>j5 _ e) (G5 _) ⟨?_,_,r.rep k.toNat,⟨_,m9 _ rfl,rfl,_,rfl⟩⟩,rfl,q2 hk _ fr⟩;rw[len_rep,Nat.mul_comm];exact hz
end
end L2
namespace L3
open PySem PySem.Spec L2 L5 PyProof.Rows
mutual
def toP:D->PyData
 | .bM=>.none
 | .bl b=>.bool b
 | .int i=>.int i
 | .str x=>.str x
 | .ty _=>.none
 | .ref _=>.none
 | .tup ds=>.tuple (toPs ds)
 | .fl ds=>.list (toPs ds)
def toPs:List D->List PyData
 |[]=>[]
 |d::ds=>toP d::toPs ds
end
mutual
def nr:D->Bool
 | .bM=>true
 | .bl _=>true
 | .int _=>true
 | .str _=>true
 | .ty _=>false
 | .ref _=>false
 | .tup ds=>pK ds
 | .fl ds=>pK ds
def pK:List D->Bool
 |[]=>true
 |d::ds=>nr d&&pK ds
end
section
variable {X:Cx}{pins:List (Addr×Obj)}{σ:L2.St}{H:Hp}{s:Shared}
mutual
theorem N_(I:Inv X pins σ H s):∀(d:D) {x:V} {u:Value},nr d=true->Dat X.K H d x->RelV x u->∃as,Reads s.heap u (toP d) as
 | .bM,x,u,_,h,r=>by cases(eG.mp h);cases r;unfold toP;exact⟨_,Reads.none⟩
 | .bl b,x,u,_,h,r=>by cases(bq.mp h);cases r;unfold toP;exact⟨_,Reads.bool b⟩
 | .int i,x,u,_,h,r=>by cases(ax.mp h);obtain⟨t,rfl⟩:=r;unfold toP;exact⟨_,Reads.int i t⟩
 | .str z,x,u,_,h,r=>by cases(aY.mp h);obtain⟨t,rfl⟩:=r;unfold toP;exact⟨_,Reads.str z t⟩
 | .ty _,x,u,n,h,r=>by unfold nr at n;cases n
 | .ref _,x,u,n,h,r=>by unfold nr at n;cases n
 | .tup ds,x,u,n,h,r=>by unfold nr at n;obtain⟨p,xs,rfl,hq,hd⟩:=aU.mp h;cases(show u=Value.ref p from r);obtain⟨av,rv,⟨o,ho,hc,m,pX⟩,_⟩:=I.tuple hq;obtain⟨as,ra⟩:=rA I ds n hd rv;unfold toP;exact⟨_,reads_tuple_at ho hc pX ra⟩
 | .fl ds,x,u,n,h,r=>by unfold nr at n;obtain⟨p,xs,rfl,hq,hd⟩:=il.mp h;cases(show u=Value.ref p from r);obtain⟨av,rv,pl,_⟩:=I.list hq.sq;obtain⟨o,ho,hc,m,pX⟩:=pl.isList;obtain⟨as,ra⟩:=rA I ds n hd rv;unfold toP;exact⟨_,reads_list_at ho hc pX ra⟩
theorem rA(I:Inv X pins σ H s):∀(ds:List D) {xs:List V} {us:List Value},pK ds=true->aB X.K H ds xs->Vals xs us->∃as,ReadsAll s.heap us (toPs ds) as
 |[],xs,us,_,h,r=>by cases(aq.mp h);cases r;unfold toPs;exact⟨_,ReadsAll.nil⟩
 |d::ds,xs,us,n,h,r=>by
  unfold pK at n;rw[z9]at n;obtain⟨x,Jz,rfl,h1,h2⟩:=ag.mp h;cases r with
  |cons r1 r2=>obtain⟨as,a⟩:=N_ I d n.1 h1 r1;obtain⟨bs,b⟩:=rA I ds n.2 h2 r2;unfold toPs;exact⟨_,ReadsAll.cons a b⟩
end
end
def MZ(K:K2)(H:Hp)(x:V)(a:PyData):Prop:=(∃d,nr d=true/\Dat K H d x/\toP d=a)\/∃p ds xs,x=.ref p/\dn K H p xs/\aB K H ds xs/\pK ds=true/\a=.list (toPs ds)
def rC(M:Mem)(d:D):Option PyData:=match d with
 | .ref a=>match M a with
  |some (.lst ds)=>if pK ds=true then some (.list (toPs ds))else none
  |_=>none
 |d=>if nr d=true then some (toP d)else none
theorem iN{K:K2}{H:Hp}{M:Mem}{d:D}{x:V}{a:PyData}(e:rC M d=some a)(h:Dat K H d x)(hm:RelM K H M):MZ K H x a:=by
 cases d with
 |ref p=>
  cases(aE.mp h);unfold rC at e;cases q:M p with
  |none=>simp[q]at e
  |some o=>
   cases o with
   |zP b kvs=>simp[q]at e
   |uJ x=>simp[q]at e
   |lst ds=>
    simp only[q]at e;by_cases n:pK ds=true
    ·rw[J8 n]at e;cases e;obtain⟨xs,hx,hd⟩:=hm p _ q;exact .inr ⟨p,ds,xs,rfl,dn.of hx,hd,n,rfl⟩
    ·rw[J9 n]at e;cases e
 |bM=>exact .inl ⟨_,rfl,h,by simpa[rC,nr]using e⟩
 |bl _=>exact .inl ⟨_,rfl,h,by simpa[rC,nr]using e⟩
 |int _=>exact .inl ⟨_,rfl,h,by simpa[rC,nr]using e⟩
 |str _=>exact .inl ⟨_,rfl,h,by simpa[rC,nr]using e⟩
 |ty _=>simp[rC,nr]at e
 |tup ds=>
  by_cases n:pK ds=true
  ·exact .inl ⟨.tup ds,by unfold nr;exact n,h,by simpa[rC,nr,n]using e⟩
  ·simp[rC,nr,n]at e
 |fl ds=>
  by_cases n:pK ds=true
  ·exact .inl ⟨.fl ds,by unfold nr;exact n,h,by simpa[rC,nr,n]using e⟩
  ·simp[rC,nr,n]at e
section
variable {X:Cx}
theorem eJ{pins:List (Addr×Obj)}{σ:L2.St}{H:Hp}{s:Shared}(I:Inv X pins σ H s){x:V}{u:Value}{a:PyData}(h:MZ X.K H x a)(r:RelV x u):∃as,Reads s.heap u a as:=by
 rcases h with⟨d,n,hd,rfl⟩|⟨p,ds,xs,rfl,hq,hd,n,rfl⟩
 ·exact N_ I d n hd r
 ·cases(show u=Value.ref p from r);obtain⟨av,rv,pl,_⟩:=I.list hq;obtain⟨o,ho,hc,m,pX⟩:=pl.isList;obtain⟨as,ra⟩:=rA I ds n hd rv;exact⟨_,reads_list_at ho hc pX ra⟩
def T7(neg:Bool):gH:=λ x y M Q=>∃a b,rC M x=some a/\rC M y=some b/\SeqAt.shaped a=true/\SeqAt.shaped b=true/\Q (.bl (if neg then !PyData.eqv a b else PyData.eqv a b)) M
theorem LH(hu:X.A.units+64 < cLine):fF X (compareOp .Eq) (λ x y H Q=>∃a b,MZ X.K H x a/\MZ X.K H y b/\SeqAt.shaped a=true/\SeqAt.shaped b=true/\Q (.bl (PyData.eqv a b)) H):=by intro pins s σ H x y v u Q I rx ry h;obtain⟨a,b,ha,hb,sa,sb,q⟩:=h;obtain⟨as,ra⟩:=eJ I ha rx;obtain⟨bs,rb⟩:=eJ I hb ry;exact eq_dataH ra rb sa sb hu ⟨.bl (PyData.eqv a b),H,I,rfl,q⟩
theorem LA(hu:X.A.units+64 < cLine):fF X (compareOp .NotEq) (λ x y H Q=>∃a b,MZ X.K H x a/\MZ X.K H y b/\SeqAt.shaped a=true/\SeqAt.shaped b=true/\Q (.bl (!PyData.eqv a b)) H):=by intro pins s σ H x y v u Q I rx ry h;obtain⟨a,b,ha,hb,sa,sb,q⟩:=h;obtain⟨as,ra⟩:=eJ I ha rx;obtain⟨bs,rb⟩:=eJ I hb ry;exact ne_dataH ra rb sa sb hu ⟨.bl (!PyData.eqv a b),H,I,rfl,q⟩
theorem fX.or {f:Value->Value->Sem Value}{r r':gH}(h:fX X f r)(h':fX X f r'):fX X f (λ x y M Q=>r x y M Q\/r' x y M Q):=by
 obtain⟨a,h1,h2⟩:=h;obtain⟨b,g1,g2⟩:=h';refine⟨_,h1.or g1,λ x y d e H M Q2 Q hd he hm q k=>?_⟩;rcases q with q|q
 ·exact .inl (h2 x y d e H M Q2 Q hd he hm q k)
 ·exact .inr (g2 x y d e H M Q2 Q hd he hm q k)
def vv(neg:Bool):gH:=λ x y M Q=>ML neg x y M Q\/T7 neg x y M Q
theorem cu(hu:X.A.units+64 < cLine):fX X (compareOp .Eq) (vv false):=Sy.or ⟨_,LH hu,λ x y d e H M Q2 Q hd he hm q k=>by
 obtain⟨a,b,ha,hb,sa,sb,q⟩:=q;exact⟨a,b,iN ha hd hm,iN hb he hm,sa,sb,k _ H _ M (bq.mpr rfl) hm (aw.refl H) q⟩⟩
theorem BR(hu:X.A.units+64 < cLine):fX X (compareOp .NotEq) (vv true):=Su.or ⟨_,LA hu,λ x y d e H M Q2 Q hd he hm q k=>by
 obtain⟨a,b,ha,hb,sa,sb,q⟩:=q;exact⟨a,b,iN ha hd hm,iN hb he hm,sa,sb,k _ H _ M (bq.mpr rfl) hm (aw.refl H) q⟩⟩
def Dz:D->List D->Mem->bR->Prop:=λ x vs M Q=>∃p ds y,x=.ref p/\vs=[y]/\M p=some (.lst ds)/\pK ds=true/\nr y=true/\PyData.canLayAll0 (toPs ds)=true/\(toP y).canLay0=true/\(toP y).depth < 60/\Q (.int (ds.countP λ d=>PyData.eqv (toP d) (toP y):Nat)) M
theorem sR{A:Around}{s:Shared}{v:Value}{y:PyData}{bs:List Addr}(ry:Reads s.heap v y bs)(cy:y.canLay0=true)(hu:A.units+y.depth < cLine):∀{ds:List D} {us:List Value} {as:List Addr},ReadsAll s.heap us (toPs ds) as->PyData.canLayAll0 (toPs ds)=true->
  ∃e:Value->Bool,(∀u∈us,SeqAt.EqAt A s u v (e u))/\us.countP e=ds.countP λ d=>PyData.eqv (toP d) y:=by
 intro ds us as ra cl;refine⟨λ u=>PyData.eqv (SeqAt.readOf s.heap u) y,λ u Nu=>?_,?_⟩
 ·obtain⟨d,Yb,rd,cd,_⟩:=SeqAt.readsAll_mem _ _ _ cl ra u Nu;have e:=SeqAt.readOf_eq cd rd;dsimp only;rw[e];exact SeqAt.eqAt_reads d y A s u v _ _ rd ry cd cy (by omega)
 ·have e:=SeqAt.readsAll_map _ _ _ cl ra;have f:∀(us:List Value) (ds:List D),us.map (SeqAt.readOf s.heap)=toPs ds->us.countP (λ u=>PyData.eqv (SeqAt.readOf s.heap u) y)=ds.countP λ d=>PyData.eqv (toP d) y:=by
   intro us
   induction us with
   |nil=>
    intro ds q;cases ds with
    |nil=>rfl
    |cons d r=>unfold toPs at q;cases q
   |cons u us ih=>
    intro ds q;cases ds with
    |nil=>unfold toPs at q;cases q
    |cons d r=>
     unfold toPs at q;rw[C9]at q;injection q with q1 q2
     rw[countP_cons,countP_cons,ih r q2,q1]
  exact f us ds e
theorem Hc(hu:X.A.units+64 < cLine):Ip X "list.count" Dz:=⟨λ x vs H Q=>∃p ds xs d y,x=.ref p/\vs=[y]/\dn X.K H p xs/\aB X.K H ds xs/\Dat X.K H d y/\pK ds=true/\nr d=true/\PyData.canLayAll0 (toPs ds)=true/\(toP d).canLay0=true/\(toP d).depth < 60/\Q (.int (ds.countP λ e=>PyData.eqv (toP e) (toP d):Nat)) H,by
  intro pins s σ H x xs v us Q I rx rv h;obtain⟨p,ds,zs,d,y,rfl,rfl,hq,hd,hy,n1,n2,c1,c2,dp,q⟩:=h;cases(show v=Value.ref p from rx);obtain⟨u,rfl,ru⟩:=rv.one;obtain⟨av,rz,pl,_⟩:=I.list hq;obtain⟨as,ra⟩:=rA I ds n1 hd rz;obtain⟨bs,rb⟩:=N_ I d n2 hy ru;obtain⟨e,e1,e2⟩:=sR (A:=X.A.in1) rb c2 (by show X.A.units+1+_ < _;omega) ra c1;obtain⟨⟨c,dd,da,sl⟩,ho,hc,n,pX⟩:=pl.isList;cases(show c=.type "list" from hc);cases(show da=.seq av.toArray n from pX);refine J1 PySem.F.slot_list_count ⟨_,ho,rfl⟩ PySem.F.entry_list_count (PySem.F.args_list_count_2 _ _) (SeqAt.list_countAt p av.toArray n dd sl u e) ⟨ho,λ y hy=>e1 y (by simpa using hy),?_⟩;rw[show av.toArray.toList=av from rfl,e2];exact⟨.int _,H,I.tok _,⟨_,rfl⟩,q⟩,λ x xs d ds H M Q2 Q hx hd hm q k=>by
  obtain⟨p,es,y,rfl,rfl,hM,n1,n2,c1,c2,dp,q⟩:=q;cases(aE.mp hx);obtain⟨v,r,rfl,hv,hr⟩:=ag.mp hd;cases(aq.mp hr);obtain⟨zs,hz,iW⟩:=hm p _ hM;exact⟨p,es,zs,y,v,rfl,rfl,dn.of hz,iW,hv,n1,n2,c1,c2,dp,k _ H _ M (ax.mpr rfl) hm (aw.refl H) q⟩⟩
def kU:D->List D->Mem->bR->Prop:=λ x vs M Q=>∃p ds y,x=.ref p/\vs=[y]/\M p=some (.lst ds)/\ds.length < sizeLine/\Q .bM (ah M p (.lst (ds++[y])))
theorem bb:Ip X "list.append" kU:=⟨wy,yS,λ x xs d ds H M Q2 Q hx hd hm q k=>by
 obtain⟨p,es,y,rfl,rfl,hM,hz,q⟩:=q;cases(aE.mp hx);obtain⟨v,r,rfl,hv,hr⟩:=ag.mp hd;cases(aq.mp hr);obtain⟨zs,h1,h2⟩:=hm p _ hM;have t:=aw.lst (o:=.lst (zs++[v])) h1;refine⟨p,zs,v,rfl,rfl,h1,by rw[h2.length];exact hz,k _ _ .bM _ (eG.mpr rfl) (hm.put (u:=.lst (es++[y])) t ⟨_,bW,?_⟩) t q⟩;exact(aB.mono t es h2).append (aB.one (Dat.mono t y hv))⟩
theorem bY{K:K2}{H:Hp}:∀{ns:List Int} {xs:List V},aB K H (ns.map D.int) xs->xs=ns.map V.int
 |[],xs,h=>by rw[E5,aq]at h;exact h
 |b::bs,xs,h=>by rw[C9,ag]at h;obtain⟨x,r,rfl,a,q⟩:=h;rw[ax]at a;rw[a,bY q];rfl
def MH:List D->Mem->bR->Prop:=λ xs M Q=>∃(x:D) (ds:List D) (ns:List Int),xs=[x]/\cz M x=some ds/\ds=ns.map D.int/\Q (.int ns.sum) M
theorem DI(hc:X.calm=true):dM X (.builtin "sum") MH:=⟨_,nM hc,λ xs ds H M Q2 Q hd hm q k=>by
 obtain⟨x,es,ns,rfl,e,rfl,q⟩:=q;obtain⟨v,r,rfl,hv,hr⟩:=ag.mp hd;cases(aq.mp hr);obtain⟨p,ys,rfl,h,hy⟩:=fi e hv hm;rw[bY hy]at h;rcases h with h|h
 ·exact⟨false,p,ns,rfl,h,k _ H _ M (ax.mpr rfl) hm (aw.refl H) q⟩
 ·exact⟨true,p,ns,rfl,h,k _ H _ M (ax.mpr rfl) hm (aw.refl H) q⟩⟩
def Qa:List D->Mem->bR->Prop:=λ xs M Q=>∃i j,xs=[.int i,.int j]/\Q (.int (if j < i then j else i)) M
theorem Ju(hc:X.calm=true):dM X (.builtin "min") Qa:=⟨_,zx hc,λ xs ds H M Q2 Q hd hm q k=>by
 obtain⟨i,j,rfl,q⟩:=q;obtain⟨v,r,rfl,hv,hr⟩:=ag.mp hd;obtain⟨v2,r2,rfl,O5,HA⟩:=ag.mp hr;cases(aq.mp HA);cases(ax.mp hv);cases(ax.mp O5);exact⟨i,j,rfl,k _ H _ M (ax.mpr rfl) hm (aw.refl H) q⟩⟩
def P':gH:=λ x y M Q=>∃ds k,x=.tup ds/\y=.int k/\ds≠[]/\-(2^63)<=k/\k < 2^63/\ds.length*k.toNat<=sizeLine/\Q (.tup (List.replicate k.toNat ds).flatten) M
theorem mL{K:K2}{H:Hp}{ds:List D}{xs:List V}(h:aB K H ds xs):∀k:Nat,aB K H (List.replicate k ds).flatten (List.replicate k xs).flatten
 |0=>by simp[aq]
 |k+1=>by rw[m7,m7,x3,x3];exact h.append (mL h k)
def sN:gH:=λ x y M Q=>HR x y M Q\/P' x y M Q
theorem LU:fX X (binaryOp .Mult) sN:=OJ.or ⟨_,Gw,λ x y d e H M Q2 Q hd he hm q k=>by
 obtain⟨ds,n,rfl,rfl,dj,h1,h2,hz,q⟩:=q;obtain⟨p,xs,rfl,hq,hx⟩:=aU.mp hd;cases(ax.mp he);refine⟨p,n,xs,rfl,rfl,hq,λ z=>?_,h1,h2,by rw[hx.length];exact hz,λ e1=>?_,λ _ l hl=>?_⟩
 ·have:=hx.length;rw[z]at this;exact dj (j0.mp this.symm)
 ·subst e1;rw[show(1:Int).toNat=1 from rfl,show(List.replicate 1 ds).flatten=ds by simp]at q;exact k _ H _ M (aU.mpr ⟨p,xs,rfl,hq,hx⟩) hm (aw.refl H) q
 ·exact k _ _ (.tup _) M (gN hl (mL hx _)) (hm.laid hl) (aw.laid hl) q⟩
end
end L3
namespace L3
open PySem PySem.Spec L2 L5
def Iq(b:Bool)(M:Mem)(k:D)(c:Ky):Prop:=match b with
 |true=>k=.tup [.int c.1,.tup (c.2.map D.int)]
 |false=>∃m,k=.tup [.int c.1,.ref m]/\M m=some (.lst (c.2.map D.int))
theorem Iq.v {K:K2}{H:Hp}{M:Mem}{b:Bool}{k:D}{c:Ky}{v:V}(h:Iq b M k c)(r:Dat K H k v)(hm:RelM K H M):mW K b H v c:=by
 cases b with
 |true=>cases(show k=_ from h);obtain⟨p,xs,rfl,hq,hd⟩:=aU.mp r;obtain⟨x1,r1,rfl,h1,hd⟩:=ag.mp hd;obtain⟨x2,r2,rfl,h2,hd⟩:=ag.mp hd;cases(aq.mp hd);cases(ax.mp h1);obtain⟨p2,ys,rfl,CJ,hd2⟩:=aU.mp h2;rw[bY hd2]at CJ;exact⟨p,p2,rfl,hq,CJ⟩
 |false=>obtain⟨m,rfl,hM⟩:=h;obtain⟨p,xs,rfl,hq,hd⟩:=aU.mp r;obtain⟨x1,r1,rfl,h1,hd⟩:=ag.mp hd;obtain⟨x2,r2,rfl,h2,hd⟩:=ag.mp hd;cases(aq.mp hd);cases(ax.mp h1);cases(aE.mp h2);obtain⟨ys,hy,hd2⟩:=hm m _ hM;rw[bY hd2]at hy;exact⟨p,m,rfl,hq,dn.of hy⟩
theorem oJ{K:K2}{H:Hp}{ds:List D}{xs:List V}(h:aB K H ds xs):∀p:List Nat,aB K H (p.map λ i=>ds.getD i D.bM) (p.map λ i=>xs.getD i V.bM)
 |[]=>by simp[aq]
 |i::p=>by
  rw[C9,C9,ag];refine⟨_,_,rfl,?_,oJ h p⟩;cases e:ds[i]? with
  |none=>
   have e2:xs[i]?=none:=by have:=h.length;have:=i0.mp e;exact k8 (by omega)
   rw[c7,c7,e,e2];exact eG.mpr rfl
  |some d=>obtain⟨x,e2,hx⟩:=h.get e;rw[c7,c7,e,e2];exact hx
end L3
namespace L3
open PySem PySem.Spec L2 L5
section
variable {M:Mem}{Q:bR}
theorem Fy{i j:Int}(q:Q (.bl (decide (i=j))) M):vv false (.int i) (.int j) M Q:=.inl (Kz q)
theorem Fz{i j:Bool}(q:Q (.bl (decide (i=j))) M):vv false (.bl i) (.bl j) M Q:=.inl (KA q)
theorem Fx{i j:Str}(q:Q (.bl (decide (i=j))) M):vv false (.str i) (.str j) M Q:=.inl (Kx q)
theorem Fd{i j:Bool}(q:Q (.bl (!decide (i=j))) M):vv true (.bl i) (.bl j) M Q:=.inl (Kr q)
theorem A_{i j:Int}(h:qA i j)(q:Q (.int (i*j)) M):sN (.int i) (.int j) M Q:=.inl (Fg h q)
theorem AZ{i:Str}{j:Int}(h:MulOk i j)(q:Q (.str (Txt.mul i j)) M):sN (.str i) (.int j) M Q:=.inl (Ff h q)
theorem AY{d:D}{k:Int}(h0:0<=k)(h1:k<=10000)(q:Q (.tup (List.replicate k.toNat d)) M):sN (.tup [d]) (.int k) M Q:=.inr ⟨[d],k,rfl,rfl,by simp,Int.le_trans (by decide) h0,u7 h1 (by decide),D9 (show 1*k.toNat<=10000 by omega) (by decide),by
 rw[show(List.replicate k.toNat [d]).flatten=List.replicate k.toNat d by simp];exact q⟩
theorem Ks{i j:Int}(q:Q (.int (if j < i then j else i)) M):Qa [.int i,.int j] M Q:=⟨i,j,rfl,q⟩
theorem EV{ns:List Int}(q:Q (.int ns.sum) M):MH [.tup (ns.map D.int)] M Q:=⟨_,_,ns,rfl,rfl,rfl,q⟩
theorem cA{p:Addr}{ds:List D}{y:D}(h:M p=some (.lst ds))(hz:ds.length < sizeLine)(q:Q .bM (ah M p (.lst (ds++[y])))):kU (.ref p) [y] M Q:=⟨p,ds,y,rfl,rfl,h,hz,q⟩
abbrev row(ns:List Int):D:=.tup (ns.map D.int)
theorem toPs_ints:∀ns:List Int,toPs (ns.map D.int)=ns.map PyData.int
 |[]=>rfl
 |n::ns=>by rw[C9];unfold toPs;rw[toPs_ints ns];unfold toP;rfl
theorem ma:∀ns:List Int,pK (ns.map D.int)=true
 |[]=>rfl
 |n::ns=>by rw[C9];unfold pK;rw[ma ns];rfl
theorem ET{i j:Nat}{a b:D}{δ:dk}{N:dk->Mem->Prop}(h:N ((δ.set i (some a)).set j (some b)) M):ny 2 (cN (hName i) (cN (hName j) nA)) (.tup [a,b]) δ M N:=⟨rfl,h⟩
theorem Bd{A B:Prop}(h:B):if(!true)=true then A else B:=by rw[Bool.not_true,J9 p5];exact h
theorem cU{c:eM}{tb:jg}{E:jb}{δ:dk}(h:∃W:Nat->dk->Mem->Prop,(∃m,W m δ M)/\∀m δ M,W m δ M->c δ M λ b M1=>
  if b=true then ∃N:dk->Mem->Prop,(∀δ' M',N δ' M'->∃m',m' < m/\W m' δ' M')/\tb {E with nx:=N,ct:=N,bk:=E.nx} δ M1 else E.nx δ M1):um c tb E δ M:=h
theorem xI{g:fQ}{tt:eM}{te:cw}{δc:dk}{M1:Mem}{Qe:List D->Mem->Prop}{a:Addr}{ds:List D}(Pv:Nat->List D->Mem->Prop)(h0:Pv 0 [] M1)(hl:∀i acc M,i<=ds.length->Pv i acc M->M a=some (.lst ds))(hz:∀i acc M,i<=ds.length->Pv i acc M->acc.length<=sizeLine) (hs:∀i d acc M,ds[i]?=some d->Pv i acc M->g d δc M λ δ2 M2=>tt δ2 M2 λ b M3=>if b=true then te δ2 M3 λ y M4=>Pv (i+1) (acc++[y]) M4 else Pv (i+1) acc M3) (hd:∀acc M,Pv ds.length acc M->Qe acc M):∃(B:Nat) (W:Nat->List D->Mem->Prop),W 0 [] M1/\∀i acc M,W i acc M->i<=B/\acc.length<=sizeLine/\match items (.at a) M with
   |none=>False
   |some ds=>match ds[i]? with
    |none=>i=ds.length/\Qe acc M
    |some d=>g d δc M λ δ2 M2=>tt δ2 M2 λ b M3=>if b=true then te δ2 M3 λ y M4=>W (i+1) (acc++[y]) M4 else W (i+1) acc M3:=by
 refine⟨ds.length,λ i acc M=>if i<=ds.length then Pv i acc M else False,by dsimp only;rw[J8 (G7 _)];exact h0,?_⟩;intro i acc M w;by_cases hi:i<=ds.length
 ·rw[J8 hi]at w;refine⟨hi,hz i acc M hi w,?_⟩;have e0:items (.at a) M=some ds:=by show(match M a with|some (.lst ds)=>some ds|_=>none)=some ds;rw[hl i acc M hi w]
  rw[e0];show(match ds[i]? with
    |none=>i=ds.length/\Qe acc M
    |some d=>g d δc M λ δ2 M2=>tt δ2 M2 λ b M3=>if b=true then te δ2 M3 λ y M4=>(if i+1<=ds.length then Pv (i+1) (acc++[y]) M4 else False)else(if i+1<=ds.length then Pv (i+1) acc M3 else False))
  cases e:ds[i]? with
  |none=>have:i=ds.length:=B8 hi (i0.mp e);subst this;exact⟨rfl,hd acc M w⟩
  |some d=>have eR:i+1<=ds.length:=(g9.mp e).1;simp only[J8 eR];exact hs i d acc M e w
 ·rw[J9 hi]at w;exact w.elim
theorem yF{a:Addr}{ns:List Int}{i:Int}(ha:M a=some (.lst (ns.map D.int)))(q:Q (.int (ns.count i:Nat)) M):Dz (.ref a) [.int i] M Q:=by
 refine⟨a,_,_,rfl,rfl,ha,ma ns,rfl,by rw[toPs_ints];exact PySem.W.ke_canLayAll0 ns,by simp[toP,PyData.canLay0],by simp[toP,PyData.depth],?_⟩;have e:(ns.map D.int).countP (λ d=>PyData.eqv (toP d) (toP (.int i)))=ns.count i:=by rw[countP_map,count_eq_countP];refine countP_congr λ x _=>?_;show PyData.eqv (toP (.int x)) (toP (.int i))=true↔_;simp[toP,PyData.eqv]
 rw[e];exact q
end
end L3
namespace L5
open PySem
theorem pO:typeLookup (.type "list") "keys"=pure none:=by rw[typeLookup_type,builtinLookup_eq_fast];kernel_rfl
theorem GS{prog:Program}{w:World}{A:Around}{E:Value->Shared->Prop}{s:Shared}{a:Addr}{xs:Array Value}{k:Nat}{sl:Array (Option Value)}{Q:Option Value->Shared->Prop}(hx:s.heap.get? a=some {cls:=.type "list",dict:=none,data:=.seq xs k,slots:=sl})(hA:A.handled=none) (h:∀h' tk,(∀b o,s.heap.get? b=some o->h'.get? b=some o)->Q none {s with heap:=h',toks:=tk}):wpAny (model prog w) A (getAttr? (.ref a) "keys") Q E s:=by
 obtain⟨hp,g,d,tk,os⟩:=s;have ty:∀zI,(⟨hp,g,d,zI,os⟩:Shared).TypeIs (.ref a) "list":=λ _=>⟨_,hx,rfl⟩;have f1:=sub_AttributeError;have f3:=F.slot_list_getattribute.lookup;have f4:=F.slot_list_getattribute.bind (.ref a);have f5:=am_list_getattr_none;unfold getAttr? getAttrBy? getAttrBy
 repeat(any_goals (first|assumption|exact ty _|((with_reducible show wpAny _ _ (call (Value.builtin "list.__getattribute__") _ _) _ _ _);refine J1 F.slot_list_getattribute (ty _) am_entry_list_getattribute (F.args_list_getattribute_2 _ _) (meets_getattribute_miss_list a xs k sl _ _ pO (by decide+kernel) (by decide+kernel)) ⟨hx,hA,λ h' zI e oD=>?_⟩)|wp_step))
 obtain⟨t',u',he⟩:=oD.there;show wpAny _ _ (getattributeRaised _ _ _ _ _ _ _) _ _ _;unfold getattributeRaised
 repeat(any_goals (first|assumption|wp_step))
 exact h _ _ oD.keeps
end L5
namespace L5
open PySem
theorem sF:entryFor table "dict.update.loop"=some Builtin.«dict.update.loop»:=entryFor_of_tree (by kernel_rfl)
theorem kG:plainId "dict.update.loop"=true:=by decide+kernel
section
variable {prog:Program}{w:World}{A:Around}{R:Result->Shared->Prop}
abbrev TK(prog:Program)(w:World):HeapKind prog w (List L2.Key):=tupleKind (L2.eT prog w)
abbrev Ent:=List L2.Key×Addr×Value
theorem uc{h:Heap}{k:List L2.Key}{a:Addr}(x:(TK prog w).is h k a):∃o,h.get? a=some o/\o.cls=.type "tuple":=let⟨o,av,n,h1,h2,h3,h4⟩:=x;⟨o,h1,h2⟩
theorem oU{h h':Heap}{k:List L2.Key}{a:Addr}(x:(TK prog w).is h k a)(q:∀o,h.get? a=some o->h'.get? a=some o):(TK prog w).is h' k a:=let⟨o,av,n,h1,h2,h3,h4⟩:=x;⟨o,av,n,q o h1,h2,h3,h4⟩
structure jG(prog:Program)(w:World)(h:Heap)(u:Value)(p:Ent):Prop where
 ex:∃t,u=.ref t/\h.IsTuple t #[.ref p.2.1,p.2.2]
 key:(TK prog w).is h p.1 p.2.1
def mT(h h':Heap):Prop:=∀b o,o.cls=.type "tuple"->h.get? b=some o->h'.get? b=some o
theorem jG.jV {h h':Heap}{u:Value}{p:Ent}(x:jG prog w h u p)(q:mT h h'):jG prog w h' u p:=by obtain⟨⟨t,rfl,o,ho,hc,n,hd⟩,key⟩:=x;obtain⟨oa,h1,h2⟩:=uc key;exact⟨⟨t,rfl,o,q t o hc ho,hc,n,hd⟩,oU key λ o' e=>by rw[h1]at e;cases e;exact q _ _ h2 h1⟩
def putAll(xs:List Ent)(ps:List Ent):List Ent:=ps.foldl (λ xs p=>storedH xs p.1 p.2.1 p.2.2) xs
theorem jK(xs:List Ent)(p:Ent):(storedH xs p.1 p.2.1 p.2.2).length<=xs.length+1:=by
 unfold storedH;split
 ·simp
 ·simp
theorem uH(hu:A.in1.units < cLine)(hA:A.handled=none)(d it l:Addr)(TC:d≠it)(U6:l≠it)(WL:l≠d)(av:List Value)(ps:List Ent)(hlen:av.length=ps.length)(Pg:ps.length<=1000):∀(k i:Nat) (s:Shared) (xs:List Ent),ps.length - i=k->i<=ps.length->xs.length<=i->s.heap.IsListIter it l i->s.heap.IsList l av.toArray->s.heap.DictOfH (TK prog w) d xs->
   (∀(j:Nat) (u:Value) (p:Ent),av[j]?=some u->ps[j]?=some p->jG prog w s.heap u p)->
   (∀h' tk,(∀b o,b≠d->b≠it->s.heap.get? b=some o->h'.get? b=some o)->h'.DictOfH (TK prog w) d (putAll xs (ps.drop i))->R (.ok (.ret .none)) {s with heap:=h',toks:=tk})->
   codeAny (model prog w) A (.builtin "dict.update.loop" ⟨[.ref d,.ref it,rawInt i,.none],[]⟩) R s:=by
 intro k
 induction k with
 |zero=>
  intro i s xs hk hi O1 hit hl hd hp hR;have e:i=ps.length:=by omega
  subst e;refine B3 sF ?_;rw[l6 kG _];refine H0 (m:=pyNext (.ref it)) (wpAny_pyNext_list_end (show A.in1.handled=none from hA) hit hl (by simp;omega) λ h' eb=>?_);refine H0 (m:=Builtin.Dict.addKeywords d []) (H9 (H9 ?_));refine hR h' s.toks (λ b o _ n2 q=>eb b o n2 q) ?_;rw[drop_length];obtain⟨o,es,ep,ho,r1,r2,r3,r4,r5⟩:=hd;refine⟨o,es,ep,eb d o TC ho,r1,r2,r3,λ x hx=>?_,r5⟩;obtain⟨oa,h1,h2⟩:=uc (r4 x hx);refine oU (r4 x hx) λ o' e=>eb _ _ (λ z=>?_) e;rw[z]at h1;obtain⟨oi,g1,g2,_⟩:=hit;rw[g1]at h1;cases h1;rw[g2]at h2;exact absurd h2 (by decide)
 |succ k ih=>
  intro i s xs hk hi O1 hit hl hd hp hR;have eR:i < ps.length:=by omega
  have e1:av[i]?=some av[i]:=i5 (by omega);have e2:ps[i]?=some ps[i]:=i5 eR;refine B3 sF ?_;rw[l6 kG _];refine H0 (m:=pyNext (.ref it)) (wpAny_pyNext_list_item hit hl (x:=av[i]) (by simpa using e1) λ g1 V6 s1=>?_);have RP:mT s.heap g1:=λ b o hc e=>s1.extBut _ _ (λ z=>by
   rw[z]at e;obtain⟨oi,q1,q2,_⟩:=hit;rw[q1]at e;cases e;rw[hc]at q2;exact absurd q2 (by decide)) e
  obtain⟨⟨t,et,⟨ct,dt,da,st⟩,ho,hc,n,pX⟩,key⟩:=(hp i _ _ e1 e2).jV RP;cases(show ct=.type "tuple" from hc);cases(show da=_ from pX);have Rn:g1.IsList l av.toArray:=hl.at λ o e=>s1.extBut _ _ U6 e;have Va:g1.DictOfH (TK prog w) d xs:=by obtain⟨o,es,ep,ho,r1,r2,r3,r4,r5⟩:=hd;refine⟨o,es,ep,s1.extBut _ _ TC ho,r1,r2,r3,λ x hx=>?_,r5⟩;obtain⟨oa,h1,h2⟩:=uc (r4 x hx);exact oU (r4 x hx) λ o' e=>by rw[h1]at e;cases e;exact RP _ _ h2 h1
  rw[et];refine H0 (C5 (H0 (C3 ?_)));unfold Builtin.Dict.pairItems;refine H0 (E6 (T:="tuple") ⟨_,ho,rfl⟩ ?_);rw[J8 (by decide)];refine H0 (C1 ho rfl (H9 ?_));show wpAny _ A.in1 (holding [Value.ref ps[i].2.1,ps[i].2.2] (dictSet d (.ref ps[i].2.1) ps[i].2.2)) _ _ _;refine C5 (wpAny_dictSet_heap (s:={s with heap:=g1}) (knd:=TK prog w) hu key Va (λ g2 d2 s2=>?_) (D9 (show xs.length<=1000 by omega) (by decide)));refine H9 ⟨D3 kG _,?_⟩;have od:∃o,g1.get? d=some o/\o.cls=.type "dict":=by obtain⟨o,es,ep,ho,r1,_⟩:=Va;exact⟨o,ho,r1.1⟩
  have VC:mT g1 g2:=λ b o hc e=>s2.extBut _ _ (λ z=>by
   rw[z]at e;obtain⟨oi,q1,q2⟩:=od;rw[q1]at e;cases e;rw[hc]at q2;exact absurd q2 (by decide)) e
  have W6:((i:Int)+1)=((i+1:Nat):Int):=by push_cast;rfl
  show codeAny (model prog w) A (.builtin "dict.update.loop" ⟨[.ref d,.ref it,rawInt ((i:Int)+1),.none],[]⟩) R _;rw[W6];refine ih (i+1) _ (storedH xs ps[i].1 ps[i].2.1 ps[i].2.2) (by omega) eR ?_ (V6.at λ o e=>s2.extBut _ _ (J6 TC) e) (Rn.at λ o e=>s2.extBut _ _ WL e) d2 (λ j u p h1 h2=>((hp j u p h1 h2).jV RP).jV VC) λ h' tk xi iW=>?_
  ·have:=jK xs ps[i];omega
  ·refine hR h' tk (λ b o n1 n2 e=>xi b o n1 n2 (s2.extBut _ _ n1 (s1.extBut _ _ n2 e))) ?_;rw[e7 eR];exact iW
end
end L5
namespace L5
open PySem PySem.W PySem.Calls PyProof.Rows
section
variable {prog:Program}{w:World}{A:Around}{E:Value->Shared->Prop}{s:Shared}
theorem GY{l:Addr}{av:List Value}{ps:List Ent}{Q:Value->Shared->Prop}(hu:A.units+2 < cLine)(hA:A.handled=none)(hl:s.heap.IsList l av.toArray)(hpl:∃o,s.heap.get? l=some o/\o.dict=none)(hlen:av.length=ps.length)(Pg:ps.length<=1000) (hp:∀(j:Nat) (u:Value) (p:Ent),av[j]?=some u->ps[j]?=some p->jG prog w s.heap u p) (h:∀h' tk,(∀b o,s.heap.get? b=some o->h'.get? b=some o)->h'.DictOfH (TK prog w) s.heap.objs.size (putAll [] ps)->s.heap.objs.size < h'.objs.size->Q (.ref s.heap.objs.size) {s with heap:=h',toks:=tk}):wpAny (model prog w) A (call (.type "dict") [.ref l]) Q E s:=by
 refine callType_codes (Q₁:=λ obj s₁=>obj=.ref s.heap.objs.size/\s₁={s with heap:=s.heap.push {cls:=.type "dict",data:=.dict #[]}}) F.kt_called_dict (F.kt_typeCall_dict_1 _) F.entry_dict_init (kt_code_dict_new _ ⟨rfl,rfl⟩) ?_;rintro obj s1 ⟨rfl,rfl⟩;have new:(s.heap.push {cls:=.type "dict",data:=.dict #[]}).DictOfH (TK prog w) s.heap.objs.size []:=Heap.DictOfH.new s.heap;refine⟨new.typeIs,F.args_dict_init_2 _ _,?_⟩;unfold Builtin.«dict.__init__»;refine H0 ?_;unfold Builtin.Dict.selfAndRest;refine H0 (wpAny_notOrdered_dict new.typeIs ?_);refine H9 (a:=(s.heap.objs.size,[Value.ref l])) ?_;obtain⟨ob,U1,W3⟩:=hpl;obtain⟨⟨c,dd,da,sl⟩,ho,hc,n,pX⟩:=id hl;rw[ho]at U1;cases U1;cases(show c=.type "list" from hc);cases(show da=.seq av.toArray n from pX);cases(show dd=none from W3);have Ms:(s.heap.push {cls:=.type "dict",data:=.dict #[]}).get? l=some {cls:=.type "list",dict:=none,data:=.seq av.toArray n,slots:=sl}:=j5 _ ho;show wpAny _ _ (Builtin.Dict.updateFrom "dict.__init__" s.heap.objs.size (.ref l) [] .none) _ _ _;unfold Builtin.Dict.updateFrom;refine H0 (E6 (T:="list") ⟨_,Ms,rfl⟩ ?_);rw[J8 (by decide)];refine H0 (GS (s:={s with heap:=s.heap.push {cls:=.type "dict",data:=.dict #[]}}) Ms (show A.in1.handled=none from hA) λ g tk gk=>?_);rw[J8 (by rfl)];have k0:∀b o,s.heap.get? b=some o->g.get? b=some o:=λ b o e=>gk b o (j5 _ e);have U7:g.IsList l av.toArray:=hl.at λ o e=>k0 l o e;have dg:g.DictOfH (TK prog w) s.heap.objs.size []:=by obtain⟨o,es,ep,h1,r⟩:=new;exact⟨o,es,ep,gk _ _ h1,r.1,r.2.1,r.2.2.1,λ x hx=>absurd hx (by simp),r.2.2.2.2⟩
 have T6:s.heap.objs.size < g.objs.size:=by obtain⟨o,es,ep,h1,_⟩:=dg;exact D6 h1
 refine H0 (J0 (H0 (x5 (s:={s with heap:=g,toks:=tk}) U7 ?_)));refine H9 ⟨D3 kG _,?_⟩;have up:∀b o,g.get? b=some o->(g.push {cls:=.type "list_iterator",data:=.fields #[.ref l,.int 0 0]}).get? b=some o:=λ b o e=>j5 _ e;have dj:l≠s.heap.objs.size:=D5 (D6 ho);have eR:l < g.objs.size:=Nat.lt_trans (D6 ho) T6;refine uH (prog:=prog) (w:=w) (A:=A.in1) (by show A.units+1+1 < cLine;omega) (show A.in1.handled=none from hA) s.heap.objs.size g.objs.size l (D5 T6) (D5 eR) dj av ps hlen Pg _ 0 {s with heap:=g.push {cls:=.type "list_iterator",data:=.fields #[.ref l,.int 0 0]},toks:=tk} [] rfl (G7 _) (G5 _) ⟨_,m9 _ rfl,rfl,rfl⟩ (U7.at λ o e=>up l o e) ?_ ?_ ?_
 ·obtain⟨o,es,ep,h1,r⟩:=dg;exact⟨o,es,ep,up _ _ h1,r.1,r.2.1,r.2.2.1,λ x hx=>absurd hx (by simp),r.2.2.2.2⟩
 ·intro j u p e1 e2;exact(hp j u p e1 e2).jV λ b o _ e=>up b o (k0 b o e)
 ·intro h' zI xi iW;have To:s.heap.objs.size < h'.objs.size:=by obtain⟨o,es,ep,h1,_⟩:=iW;exact D6 h1
  refine⟨rfl,h h' zI (λ b o e=>xi b o (D5 (D6 e)) (D5 (Nat.lt_trans (D6 e) T6)) (up b o (k0 b o e))) iW To⟩
end
end L5
namespace L5
open PySem PySem.W PySem.Calls PyProof.Rows
def Raw(g:Heap)(d:Addr)(es:Array DictEntry)(ep:Nat):Prop:=∃b,g.get? d=some b/\b.ExactDict/\b.data=.dict es ep
theorem Raw.to {g g':Heap}{d:Addr}{es:Array DictEntry}{ep:Nat}(x:Raw g d es ep)(q:∀b,g.get? d=some b->g'.get? d=some b):Raw g' d es ep:=let⟨b,h1,h2⟩:=x;⟨b,q b h1,h2⟩
theorem Raw.ty {s:Shared}{d:Addr}{es:Array DictEntry}{ep:Nat}(x:Raw s.heap d es ep):s.TypeIs (.ref d) "dict":=let⟨b,h1,h2,_⟩:=x;⟨b,h1,h2.1⟩
theorem Raw.lt {g:Heap}{d:Addr}{es:Array DictEntry}{ep:Nat}(x:Raw g d es ep):d < g.objs.size:=let⟨b,h1,_⟩:=x;D6 h1
section
variable {prog:Program}{w:World}{A:Around}{E:Value->Shared->Prop}{s:Shared}
theorem Bm{d:Addr}{es:Array DictEntry}{ep:Nat}{Q:Value->Shared->Prop}(nd:(d==sysModules)=false)(x:Raw s.heap d es ep) (fin:Q (.ref s.heap.objs.size) {s with heap:=s.heap.push {cls:=.type "dict_keyiterator",data:=.fields #[.ref d,.int 0 0,.int es.size 0,.int ep 0]}}):wpAny (model prog w) A (pyIter (.ref d)) Q E s:=by obtain⟨b,hb,xb,db⟩:=id x;refine wpAny_pyIter_slot x.ty F.slot_dict_iter (y8 F.slot_dict_iter x.ty F.entry_dict_iter ?_ (F.args_dict_iter_1 _));unfold Builtin.«dict.__iter__»;refine H0 ?_;unfold Builtin.Dict.dictSlotNone;refine H0 (wpAny_notOrdered_dict x.ty ?_);refine H9 (a:=Value.ref d) ?_;show wpAny (model prog w) _ (Builtin.Dict.showsAll d >>= _) _ _ s;unfold Builtin.Dict.showsAll;rw[J9 (by simp[nd])];refine H0 (H9 (H0 (wpAny_dictEntries hb db (H0 (wpAny_dictEpoch hb db ?_)))));refine H0 (w9 (H9 ⟨_,rfl,"dict_keyiterator",_,⟨_,m9 _ rfl,rfl⟩,c3.lookup,?_⟩));simpa[rawInt]using fin
theorem rB{it d:Addr}{i n ep:Nat}{es:Array DictEntry}{Q:Option Value->Shared->Prop}(ki:s.heap.IsKeyIter it d i n ep)(x:Raw s.heap d es ep)(en:n=es.size) (hi:∀e:DictEntry,es[i]?=some e->∀g,g.IsKeyIter it d (i+1) n ep->Heap.SameBut it s.heap g->Q (some e.key) {s with heap:=g}) (hn:A.handled=none) (he:es[i]?=none->∀g,Heap.ExtBut it s.heap g->Q none {s with heap:=g}):wpAny (model prog w) A (pyNext (.ref it)) Q E s:=by
 subst en;obtain⟨oi,gi,ci,di⟩:=id ki;obtain⟨b,hb,xb,db⟩:=id x;unfold pyNext;refine H0 (C6 (i9 (name:=Str.ofString "__next__") ki.typeIs c3
  (y8 c3 ki.typeIs F.entry_dict_keyiterator_next ?_ (F.args_dict_keyiterator_next_1 _))))
 refine H0 (H9 (H0 (H0 ?_)))
 first|refine H0 (a9 ki.typeIs (H9 ?_))|refine H0 (wpAny_typeNameOf_keyiter ki.typeIs (H9 ?_))
 refine H0 (wpAny_fieldsOf gi di ?_);have own:Builtin.Dict_items.ownsTuple "dict_keyiterator"=false:=rfl;simp only[own,J4,p7];show wpAny (model prog w) _ (if(Value.ref d==Value.none)=true then _ else _) _ _ s;rw[J9 (by exact p5)];refine H0 (H9 (H0 (wpAny_dictEntries hb db ?_)));rw[J9 (by simp)];refine H0 (H9 (H0 (wpAny_dictEpoch hb db ?_)));rw[J9 (by simp)];refine H9 ?_;have nn:¬((i:Int) < 0):=by omega
 by_cases lt:i < es.size
 ·simp only[nn,J4,w6,c9 lt];refine H0 ?_
  first|refine H0 (a9 ki.typeIs (H9 ?_))|refine H0 (wpAny_typeNameOf_keyiter ki.typeIs (H9 ?_))
  refine H0 (wpAny_isOneOf_keyiter ki.typeIs ?_);show wpAny (model prog w) _ (setField (.ref it) 1 (rawInt ((i:Int)+1)) >>= _) _ _ s;refine H0 (C4 gi di (by simp) ?_);have k2:(s.heap.update it (Obj.mapFields (·.setIfInBounds 1 (rawInt ((i:Int)+1))))).IsKeyIter it d (i+1) es.size ep:=
   ⟨_,j8 _ gi (Obj.isFreed_of_fields (u6 di _)),(Obj.cls_mapFields ..).trans ci,by rw[u6 di];simp[rawInt]⟩
  refine H0 (C5 (H0 (wpAny_isOneOf_keyiter (s:={s with heap:=s.heap.update it (Obj.mapFields (·.setIfInBounds 1 (rawInt ((i:Int)+1))))}) k2.typeIs ?_)));show wpAny (model prog w) _ (pure es[i].key) _ _ _;exact H9 (H9 ⟨_,rfl,H9 (hi _ (c9 lt) _ k2 (l8 ..))⟩)
 ·have ge:es.size<=i:=y3 lt;simp only[nn,J4,w6,j4 ge];refine H0 ?_
  first|refine H0 (a9 ki.typeIs (H9 ?_))|refine H0 (wpAny_typeNameOf_keyiter ki.typeIs (H9 ?_))
  show wpAny (model prog w) _ (setField (.ref it) 0 .none >>= _) _ _ s;refine H0 (C4 gi di (by simp) ?_);show wpAny (model prog w) _ (newExc (.type "StopIteration") [] >>= _) _ _ _;refine H0 ?_;simp only[newTuple,newExc];refine H0 (w9 ?_ (by size_fits));refine H0 (m:=firstArgMember _ _) (wpAny_of_eq (a:=Value.none) (by first|rfl|(simp only[firstArgMember];rfl)) (w9 ?_ (by size_fits)));simp only[raiseNew];refine H0 (wpAny_handled ?_);rw[show A.in1.handled=none from hn];refine H0 (H9 (wpAny_throw ?_));refine H0 (A4 (b:=true) (T:="StopIteration") ⟨_,m9 _ rfl,rfl⟩ isSubtype_stop ?_);exact H9 (he (j4 ge) _ (((l8 ..).extBut.push _).push _))
theorem Bl(hn:A.handled=none)(I d:Addr)(ne:d≠I)(es:Array DictEntry)(ep:Nat):Walks prog w A I [I,d] [I] es.size (λ i v=>∃e,es[i]?=some e/\v=e.key) (λ i g=>g.IsKeyIter I d i es.size ep/\Raw g d es ep) where
 sub:=λ b m=>by simp at m;simp[m]
 frame:=λ _ _ _ st k=>⟨st.1.at λ o e=>k I (by simp) o e,st.2.to λ o e=>k d (by simp) o e⟩
 item:=λ i s Q E lt st fin=>rB st.1 st.2 rfl (λ e ee g k2 sb=>fin e.key g s.toks ⟨e,ee,rfl⟩ ⟨k2,st.2.to λ o q=>sb.extBut d o ne q⟩ λ b o m q=>sb.extBut b o (λ z=>m (by simp[z])) q) hn λ e=>absurd e (by rw[c9 lt];exact λ z=>nomatch z)
 done:=λ s Q E st fin=>rB st.1 st.2 rfl (λ e ee=>absurd ee (by rw[j4 (G5 _)];exact λ z=>nomatch z)) hn λ _ g sb=>fin g s.toks λ b o m q=>sb b o (λ z=>m (by simp[z])) q
 self:=λ _ _ _ _ st fin=>wpAny_pyIter_keyiter st.1 fin
theorem FH{d:Addr}{es:Array DictEntry}{ep:Nat}(nd:(d==sysModules)=false):KdlSrc prog w "dict" d d es.size (λ i v=>∃e,es[i]?=some e/\v=e.key) (λ g=>Raw g d es ep) where
 type:=λ _ x=>x.ty
 there:=λ _ x=>⟨x.lt,x.lt⟩
 keep:=λ _ _ x k=>x.to λ o e=>k d (.inl rfl) o e
 notList:=by decide
 notTuple:=by decide
 hint:=λ _ _ _ _ x q=>kdl_hint_dict x.ty q
 iter:=λ _ _ hn x=>⟨_,_,(λ _ _ q=>Bm nd x q),Bl hn _ d (D5 x.lt) es ep,⟨⟨_,m9 _ rfl,rfl,rfl⟩,x.to λ o e=>j5 _ e⟩⟩
theorem yG{es:Array DictEntry}{acc:Array Value}(it:ItemsOf (λ i v=>∃e,es[i]?=some e/\v=e.key) acc es.size):acc.toList=es.toList.map (·.key):=by
 apply ext_getElem?;intro i;by_cases lt:i < acc.size
 ·have le:i < es.size:=by rw[<- it.1];exact lt
  obtain⟨e,e1,e2⟩:=it.2 i acc[i] (c9 lt);rw[k5,c9 lt,u9,k5,e1,e2];rfl
 ·have le:¬i < es.size:=by rw[<- it.1];exact lt
  rw[k5,j4 (y3 lt),u9,k5,j4 (y3 le)];rfl
theorem sS{d:Addr}{es:Array DictEntry}{ep:Nat}{R:List Value->Shared->Prop}(nd:(d==sysModules)=false)(hn:A.handled=none)(x:Raw s.heap d es ep)(hz:es.size<=sizeLine) (h:∀g tk,(∀b o,s.heap.get? b=some o->g.get? b=some o)->R (es.toList.map (·.key)) {s with heap:=g,toks:=tk}):wpAny (model prog w) A (collect (.ref d)) R E s:=by refine kdu_collect (FH nd) hn x hz λ g tk acc k it=>?_;have e:=yG it;rw[e];exact h g tk k
end
end L5
namespace L5
open PySem PySem.W PySem.Calls PyProof.Rows
section
variable {prog:Program}{w:World}{A:Around}{E:Value->Shared->Prop}{s:Shared}
theorem EG{d q:Addr}{es:Array DictEntry}{ep:Nat}{Q:Value->Shared->Prop}(nd:(d==sysModules)=false)(hn:A.handled=none)(x:Raw s.heap d es ep)(nB:es.size < 64) (h:∀(Dd kS:Addr) (g0 g:Heap) (tk e1:Nat),(∀b o,s.heap.get? b=some o->g0.get? b=some o)->Dd≠kS->g0.objs.size<=Dd->g0.objs.size<=kS->g.get? Dd=some (seqObj "list" #[] e1)->g.get? kS=some (seqObj "list" #[] 0)->(∀b o,s.heap.get? b=some o->g.get? b=some o)->
   wpAny (model prog w) A.in1.in1 (ksk_rest Dd (.ref q) false (es.toList.map (·.key)).toArray e1 (.ref kS)) (λ f s'=>f=.done (.ret .none)/\Q (.ref Dd) s') E {s with heap:=g,toks:=tk}):
  wpAny (model prog w) A (call (.builtin "sorted") [.ref d] [(Str.ofString "key",.ref q)]) Q E s:=by
 refine call_function_entry_kw kind_sorted plain_sorted entry_sorted (ksk_s1 _ _) ?_;unfold Builtin.«sorted»;have hlen:(es.toList.map (·.key)).length=es.size:=by simp
 refine H0 (m:=checkCount "sorted" 1 1 _) (H9 (H0 (sS nd (show A.in1.handled=none from hn) x (by rw[G6];omega) λ g tk gk=>H0 (wpAny_newList ?_ (by rw[hlen,G6];omega)))));generalize UP:es.toList.map (·.key)=vs at*;have Th:g.objs.size≠g.objs.size+2:=by omega
 have g1:(g.push (seqObj "list" vs.toArray 0)).get? g.objs.size=some (seqObj "list" vs.toArray 0):=m9 _ rfl;refine H0 (C5 (wpAny_call_entry_kw slot_list_sort ⟨_,g1,rfl⟩ entry_list_sort ?body (ksk_l1 _ _)))
 case body=>
  show wpAny (model prog w) A.in1.in1 (Builtin.«list.sort» ⟨[.ref g.objs.size],[(Str.ofString "key",.ref q)]⟩) _ _ _;rw[ksk_t1];unfold ksk_tree;generalize hH:g.push (seqObj "list" vs.toArray 0)=H at*;have eH:H.objs.size=g.objs.size+1:=by rw[<- hH,size_push']
  obtain⟨c1,o1⟩:∃c1,(H.update g.objs.size (Obj.mapSeq λ _=>(#[]:Array Value))).get? g.objs.size=some (seqObj "list" #[] c1):=⟨_,get?_update_seq g1 λ _=>#[]⟩;refine H0 (listItems_at g1 rfl (H0 (listUpdate_at g1 rfl (H0 (seqEpoch_at o1 rfl (H0 (wpAny_newTuple (H0 (wpAny_newList (C5 ?_) (G7 _))) (by show vs.length<=_;rw[G6];omega))))) (by rw[x8,G6];omega) (G7 _))));have e2:(H.update g.objs.size (Obj.mapSeq λ _=>(#[]:Array Value))).objs.size=g.objs.size+1:=by rw[A3,eH]
  have e3:((H.update g.objs.size (Obj.mapSeq λ _=>(#[]:Array Value))).push (seqObj "tuple" vs.toArray 0)).objs.size=g.objs.size+2:=by rw[size_push',e2]
  have g3:(((H.update g.objs.size (Obj.mapSeq λ _=>(#[]:Array Value))).push (seqObj "tuple" vs.toArray 0)).push (seqObj "list" #[] 0)).get? (g.objs.size+2)=some (seqObj "list" #[] 0):=by rw[<- e3];exact m9 _ rfl
  show wpAny (model prog w) A.in1.in1 (ksk_rest g.objs.size (.ref q) false vs.toArray c1 (.ref ((H.update g.objs.size (Obj.mapSeq λ _=>(#[]:Array Value))).push (seqObj "tuple" vs.toArray 0)).objs.size)) _ _ {s with heap:=((H.update g.objs.size (Obj.mapSeq λ _=>(#[]:Array Value))).push (seqObj "tuple" vs.toArray 0)).push (seqObj "list" #[] 0),toks:=tk};rw[e3];refine J3 (h g.objs.size (g.objs.size+2) g _ tk c1 gk Th (G5 _) (A2 _ _) (j5 _ (j5 _ o1)) g3 λ b o y=>j5 _ (j5 _ (by
   have hb:b < g.objs.size:=D6 (gk b o y);rw[Heap.get?_update_ne _ _ _ _ (D5 hb),<- hH];exact j5 _ (gk b o y)))) (λ f s' hf=>?_) λ _ _ z=>z
  obtain⟨rfl,hq⟩:=hf;exact⟨_,rfl,H9 ⟨_,rfl,hq⟩⟩
end
end L5
namespace L2
open PySem PySem.Spec PyProof.Rows L5 PySem.W
section
variable {X:Cx}{pins:List (Addr×Obj)}{σ:St}{H:Hp}{s:Shared}
variable {k:Nat}{q:Addr}{fd:FuncData}{ps:List Str}{sp:Sp}
def Goes(X:Cx)(q l:Addr)(av:List Value)(s:Shared):Prop:=∀(Q:Value->Shared->Prop),
 (∀(Dd kS:Addr) (g0 g:Heap) (tk e1:Nat),(∀b o,s.heap.get? b=some o->g0.get? b=some o)->Dd≠kS->g0.objs.size<=Dd->g0.objs.size<=kS->g.get? Dd=some (seqObj "list" #[] e1)->g.get? kS=some (seqObj "list" #[] 0)->(∀b o,s.heap.get? b=some o->g.get? b=some o)->
  wpAny (model X.prog X.w) X.A.in1.in1 (ksk_rest Dd (.ref q) false av.toArray e1 (.ref kS)) (λ f s'=>f=.done (.ret .none)/\Q (.ref Dd) s') X.xe {s with heap:=g,toks:=tk})->
 wpAny (model X.prog X.w) X.A (call (.builtin "sorted") [.ref l] [(Str.ofString "key",.ref q)]) Q X.xe s
theorem vF(F:bZ X.prog X.w X.K X.mg X.base fc k q fd ps sp)(hb:Binds X.K fd ps [])(hr:dh (k+2) X.A){l:Addr}{ys:List V}{Q:VK}{b:Bool}(I:Inv X pins σ H s){av:List Value}(rv:Vals ys av)(go:Goes X q l av s)(nB:ys.length < 64)(R:List V->Hp->Prop)(key:Nat->Ky)(h0:R [] H) (hc:∀kvs H v,R kvs H->ys[kvs.length]?=some v->sp [v] H (λ k H'=>R (kvs++[k]) H') E0) (hk:∀kvs H,R kvs H->kvs.length=ys.length->(∀i k,kvs[i]?=some k->mW X.K b H k (key i))/\∀p out,H p=none->Out (λ i j=>klt (key i) (key j)) ys V.bM out->Q (.ref p) (upd H p (.lst out))):wpAny (model X.prog X.w) X.A (call (.builtin "sorted") [.ref l] [(Str.ofString "key",.ref q)]) (EP X pins σ Q) X.xe s:=by
 have hlen:=rv.length;have hu:=hr.units;have room:dh k X.A.in1.in1:=(hr.in1 (k:=k+1)).in1;refine go _ λ Dd kS g0 g tk e1 Xr dj lD lK gD gK gk=>?_;have I0:Inv X pins σ H {s with heap:=g0,toks:=tk}:=I.kept (t':=tk) Xr;have f1:=I0.iZ (H':=λ _=>none) (b:=Dd) lD rfl;have f3:=I0.iZ (H':=λ _=>none) (b:=kS) lK rfl;refine Hl (J:=λ ks e s'=>∃kvs H',Inv X ((kS,seqObj "list" (List.toArray ks) e)::(Dd,seqObj "list" #[] e1)::pins) σ H' s'/\Vals kvs ks/\R kvs H'/\ks.length<=av.length) (by omega) ?_ ?_ ?_ ?_
 ·rintro ks e s' ⟨kvs,H',I',rk,hR,zL⟩;exact⟨(I'.pin _ (j9 _ (.head _))).1,zL⟩
 ·rintro x ks e s' ⟨kvs,H',I',rk,hR,zL⟩ hx;have lk:=rk.length;obtain⟨y,hy,ry⟩:∃y,ys[kvs.length]?=some y/\RelV y x:=by
   have hi:kvs.length < ys.length:=by have:=(g9.mp hx).1;omega
   obtain⟨u,Nu,ru⟩:=rv.get (i5 hi);rw[lk,hx]at Nu;cases Nu;exact⟨_,i5 hi,ru⟩
  have call:=hc kvs H' y hR hy;have r1:Vals [y] [x]:=.cons ry .nil;have HB:([x]++([]:List Value)).length=ps.length:=by have:=F.len _ _ _ _ call;simpa using this
  have en:tJ X.prog X.w X.K X.mg X.base X.A.in1.in1 X.stack s' H':=I'.PM.in1.in1;have bt:=hb s' [x] I'.oB HB;rw[A6]at bt;refine wpAny_call (E7 (F.run X.A.in1.in1 X.stack s' H' ⟨[x],[]⟩ [x] [y] _ E0 room en bt r1 call) λ r s2 hq=>?_);cases r with
  |error e=>exact hq
  |ok fl=>
   cases fl with
   |ret u=>
    obtain⟨kv,H2,I2,ru,Xc⟩:=I'.after hq;have pk:=I2.pin _ (j9 _ (o8 ..));refine⟨pk.1,λ h' c WX sb=>⟨kvs++[kv],H2,?_,rk.append (.cons ru .nil),Xc,?_⟩⟩
    ·have I3:Inv X ((Dd,seqObj "list" #[] e1)::pins) σ H2 s2:=I2.eC λ p hp=>I2.pin p (j9 _ (.tail _ hp));have pd:=I2.pin _ (j9 _ (List.Mem.tail _ (o8 ..)));have fk:iC X ((Dd,seqObj "list" #[] e1)::pins) H2 (kS):=⟨pk.2.1,f3.2.1,f3.2.2.1,f3.2.2.2.1,f3.2.2.2.2.1,λ p hp=>by
      rcases B6.mp hp with z|z
      ·exact f3.2.2.2.2.2 p (l5 _ z)
      ·rcases D1.mp z with rfl|z
       ·exact dj
       ·exact f3.2.2.2.2.2 p (j9 _ z)⟩
     have I4:Inv X ((Dd,seqObj "list" #[] e1)::pins) σ H2 {s2 with heap:=h'}:=qO (t':=s2.toks) (ch:=[kS]) I3 (λ b o hb e=>(sb.2 b (λ z=>hb (by simp[z]))).trans e) λ b Jk=>by
      have:b=kS:=by simpa using Jk
      subst this;exact fk
     refine I4.eC λ p hp=>?_;rcases D1.mp hp with rfl|z
     ·exact⟨WX,pk.2.1,f3.2.1,f3.2.2.1,λ v z=>by cases z⟩
     ·exact I4.pin p (j9 _ z)
    ·have:=(g9.mp hx).1;rw[p6,k4];omega
   |next=>exact hq.elim
   |brk=>exact hq.elim
   |cont=>exact hq.elim
 ·have I5:Inv X pins σ H {s with heap:=g,toks:=tk}:=I.kept (t':=tk) gk;have hn:∀b,g0.objs.size<=b->H b=none:=λ b hb=>I0.cp.fresh hb;refine⟨[],H,I5.eC λ p hp=>?_,.nil,h0,G7 _⟩;rcases D1.mp hp with rfl|z
  ·exact⟨gK,hn _ lK,f3.2.1,f3.2.2.1,λ v z=>by cases z⟩
  ·rcases D1.mp z with rfl|z
   ·exact⟨gD,hn _ lD,f1.2.1,f1.2.2.1,λ v z=>by cases z⟩
   ·exact I5.pin p (j9 _ z)
 ·rintro ks e s' ⟨kvs,H',I',rk,hR,_⟩ zL;have lk:=rk.length;obtain⟨CT,hQ⟩:=hk kvs H' hR (by omega);have pk:=I'.pin _ (j9 _ (o8 ..));have pd:=I'.pin _ (j9 _ (List.Mem.tail _ (o8 ..)));have Wg:X.A.in1.in1.units+1 < cLine:=by have:=room.units;omega
  refine Ma (κ:=tuples' true) (Hm key) zL (by omega) pk.1 pd.1 dj (λ h2 C hC=>?_) (λ h2 i j C hi hj hC=>?_) λ out h' c ho hD Pk=>⟨rfl,?_⟩
  ·obtain⟨fs,t1,t2,t3⟩:=sf I' rk CT;refine kat_kind (T:=.type "int") t1 (by omega) (λ v hv=>?_) rfl hC;obtain⟨i,t,rfl⟩:=t3 v hv;exact(show Looks _ s'.heap (pure (Value.type "int")) _ from .now)
  ·have gi:∀i,i < av.length->∃k u,kvs[i]?=some k/\ks.getD i Value.none=u/\RelV k u:=λ i hi=>by
    have Ec:i < kvs.length:=by omega
    obtain⟨u,e,r⟩:=rk.get (i5 Ec);exact⟨_,u,i5 Ec,by rw[c7,e];rfl,r⟩
   obtain⟨k1,u1,a1,a2,a3⟩:=gi i hi;obtain⟨k2,u2,b1,b2,b3⟩:=gi j hj;rw[a2,b2];exact Mf I' Wg (CT i k1 a1) (CT j k2 b1) a3 b3 hC
  ·obtain⟨p,p1,p2,p3⟩:=ho;subst p3;have I6:Inv X pins σ H' s':=I'.eC λ p hp=>I'.pin p (j9 _ (.tail _ (.tail _ hp)));have I7:Inv X pins σ H' {s' with heap:=h'}:=qO (t':=s'.toks) (ch:=[Dd,kS]) I6 (λ b o hb e=>Pk b o (λ z=>hb (by simp[z])) (λ z=>hb (by simp[z])) e) λ b Jk=>by
    simp at Jk;rcases Jk with rfl|rfl
    ·exact⟨pd.2.1,f1.2⟩
    ·exact⟨pk.2.1,f3.2⟩
   have VO:Vals (p.toList.map λ i=>ys.getD i V.bM) (p.toList.map λ i=>av.getD i Value.none):=Ab rv _;have SQ:(p.toList.map λ i=>ys.getD i V.bM).length<=sizeLine:=by rw[B5,m8,p1.size,G6];omega
   refine⟨.ref (Dd),_,Inv.lF (D:=Dd) (o:=.lst (p.toList.map λ i=>ys.getD i V.bM)) I7 pd.2.1 (show _/\∃(av:List Value) (n:Nat),Vals _ av/\_ from⟨SQ,_,c,VO,hD⟩) f1.2.1 (D9 I0.sz lD) f1.2.2.2.2.1 f1.2.2.2.2.2,rfl,hQ _ _ pd.2.1 ⟨p,by rw[hlen];exact p1,by rw[hlen];exact p2,rfl⟩⟩
end
end L2
namespace L5
open PySem
section
variable {α β γ:Type}[DecidableEq α][DecidableEq γ]
def iU(acc:List (α×β))(p:α×β):List (α×β):=if p.1∈acc.map (·.1)then acc else acc++[p]
def eP(ps:List (α×β)):List (α×β):=ps.foldl iU []
def iV(acc:List γ)(r:γ):List γ:=if r∈acc then acc else acc++[r]
def once(rs:List γ):List γ:=rs.foldl iV []
theorem yU{acc:List (α×β)}{p q:α×β}(h:q∈iU acc p):q∈acc\/q=p:=by
 unfold iU at h;split at h
 ·exact .inl h
 ·simpa using h
theorem rV:∀(ps acc:List (α×β)) (q:α×β),q∈ps.foldl iU acc->q∈acc\/q∈ps
 |[],_,_,h=>.inl h
 |p::ps,acc,q,h=>by
  rcases rV ps _ q h with h|h
  ·rcases yU h with h|h
   ·exact .inl h
   ·exact .inr (by simp[h])
  ·exact .inr (by simp[h])
theorem uP{ps:List (α×β)}{q:α×β}(h:q∈eP ps):q∈ps:=by
 rcases rV ps [] q h with h|h
 ·cases h
 ·exact h
theorem oG(F:γ->α)(inj:∀a b,F a=F b->a=b):∀(ps acc:List (α×β)) (rs ac:List γ),acc.map (·.1)=ac.map F->ps.map (·.1)=rs.map F->(ps.foldl iU acc).map (·.1)=(rs.foldl iV ac).map F
 |[],_,[],_,h,_=>h
 |[],_,_::_,_,_,e=>by simp at e
 |_::_,_,[],_,_,e=>by simp at e
 |p::ps,acc,r::rs,ac,h,e=>by
  simp only[C9,List.cons.injEq]at e;refine oG F inj ps _ rs _ ?_ e.2;have iff:p.1∈acc.map (·.1)↔r∈ac:=by
   rw[h,e.1,D7];constructor
   ·rintro⟨a,ha,hb⟩;rw[<- inj _ _ hb];exact ha
   ·exact λ ha=>⟨r,ha,rfl⟩
  unfold iU iV;by_cases m:r∈ac
  ·rw[J8 m,J8 (iff.mpr m)];exact h
  ·rw[J9 m,J9 (λ z=>m (iff.mp z))];simp[h,e.1]
theorem sy(F:γ->α)(inj:∀a b,F a=F b->a=b){ps:List (α×β)}{rs:List γ}(e:ps.map (·.1)=rs.map F):(eP ps).map (·.1)=(once rs).map F:=oG F inj ps [] rs [] rfl e
theorem ou:∀(rs acc:List γ) (q:γ),q∈rs.foldl iV acc->q∈acc\/q∈rs
 |[],_,_,h=>.inl h
 |p::ps,acc,q,h=>by
  rcases ou ps _ q h with h|h
  ·unfold iV at h;split at h
   ·exact .inl h
   ·rcases B6.mp h with h|h
    ·exact .inl h
    ·exact .inr (by simp at h;simp[h])
  ·exact .inr (by simp[h])
theorem rU{rs:List γ}{q:γ}(h:q∈once rs):q∈rs:=by
 rcases ou rs [] q h with h|h
 ·cases h
 ·exact h
theorem ow:∀(rs acc:List γ),(rs.foldl iV acc).length<=acc.length+rs.length
 |[],_=>by simp
 |p::ps,acc=>by
  have h:=ow ps (iV acc p);have h2:(iV acc p).length<=acc.length+1:=by unfold iV;split <;> simp
  simp only[foldl_cons,y4];omega
theorem Ce(rs:List γ):(once rs).length<=rs.length:=by have:=ow rs [];simpa[once]using this
end
def ka(x:Ent):List L2.Key×Addr:=(x.1,x.2.1)
theorem Mi(k:List L2.Key)(v:Value)(x:Ent):ka (putAt k v x)=ka x:=by unfold putAt ka;split <;> rfl
theorem DM(xs:List Ent)(k:List L2.Key):(atKey xs k).isSome=true↔k∈(xs.map ka).map (·.1):=by
 unfold atKey;rw[Option.isSome_map,find?_isSome];constructor
 ·rintro⟨x,hx,e⟩;refine D7.mpr ⟨ka x,D7.mpr ⟨x,hx,rfl⟩,of_decide_eq_true e⟩
 ·intro h;obtain⟨p,hp,e⟩:=D7.mp h;obtain⟨x,hx,rfl⟩:=D7.mp hp;exact⟨x,hx,C0 e⟩
theorem y'(xs:List Ent)(p:Ent):(storedH xs p.1 p.2.1 p.2.2).map ka=iU (xs.map ka) (ka p):=by
 unfold storedH iU;by_cases h:(atKey xs p.1).isSome=true
 ·rw[J8 h,J8 (show(ka p).1∈_ from(DM xs p.1).mp h),D8];exact map_congr_left λ x _=>Mi _ _ x
 ·rw[J9 h,J9 (show ¬(ka p).1∈(xs.map ka).map (·.1)from λ z=>h ((DM xs p.1).mpr z)),B7];rfl
theorem Cm:∀(ps xs:List Ent),(putAll xs ps).map ka=(ps.map ka).foldl iU (xs.map ka)
 |[],_=>rfl
 |p::ps,xs=>by show(putAll (storedH xs p.1 p.2.1 p.2.2) ps).map ka=_;rw[Cm ps,y'];rfl
theorem wU:∀(ps xs:List Ent),(putAll xs ps).length<=xs.length+ps.length
 |[],_=>by simp[putAll]
 |p::ps,xs=>by have h:=wU ps (storedH xs p.1 p.2.1 p.2.2);have h2:=jK xs p;have e:putAll xs (p::ps)=putAll (storedH xs p.1 p.2.1 p.2.2) ps:=rfl;rw[e,y4];omega
end L5
namespace L2
open PySem PySem.Spec PyProof.Rows L5 PySem.W
def iA(K:K2)(H:Hp):List V->List (List Key×Addr)->Prop
 |[],[]=>True
 |y::ys,p::ps=>(∃(t:Addr) (v:V) (r:List Int),y=.ref t/\fE K H t [.ref p.2,v]/\p.1=r.map Sum.inl/\fE K H p.2 (r.map V.int))/\iA K H ys ps
 |_,_=>False
theorem iA.row {K:K2}{H:Hp}:∀{ys:List V} {ps:List (List Key×Addr)},iA K H ys ps->∀p∈ps,∃r:List Int,p.1=r.map Sum.inl/\fE K H p.2 (r.map V.int)
 |[],[],_,_,m=>by cases m
 |[],_::_,h,_,_=>h.elim
 |_::_,[],h,_,_=>h.elim
 |y::ys,q::ps,⟨⟨t,v,r,_,_,h1,h2⟩,h⟩,p,m=>by
  rcases D1.mp m with rfl|m
  ·exact⟨r,h1,h2⟩
  ·exact iA.row h p m
section
variable {X:Cx}{pins:List (Addr×Obj)}{σ:St}{H:Hp}{s:Shared}
theorem mj{prog:Program}{w:World}:∀{av:List Value} {r:List Int},Vals (r.map V.int) av->ItemsAre (eT prog w) (r.map Sum.inl) av
 |av,[],h=>by cases h;exact .nil
 |av,i::r,h=>by
  cases h with
  |cons h1 h2=>obtain⟨t,rfl⟩:=h1;exact .cons (rT prog w i t) (mj h2)
theorem lY(I:Inv X pins σ H s):∀{ys:List V} {kp:List (List Key×Addr)} {av:List Value},iA X.K H ys kp->Vals ys av->∃ps:List Ent,ps.map ka=kp/\av.length=ps.length/\∀(j:Nat) (u:Value) (p:Ent),av[j]?=some u->ps[j]?=some p->jG X.prog X.w s.heap u p
 |[],[],_,_,.nil=>⟨[],rfl,rfl,λ j u p h=>by simp at h⟩
 |[],_::_,_,h,_=>h.elim
 |_::_,[],_,h,_=>h.elim
 |y::ys,q::kp,_,h0,.cons (b:=u0) e0 er=>by
  obtain⟨⟨t,v,r,rfl,h1,h2,h3⟩,h⟩:=h0;obtain⟨ps,p1,p2,p3⟩:=lY I h er;cases(show u0=Value.ref t from e0);obtain⟨i2,r2,⟨o,ho,hc,n,hd⟩,_⟩:=I.tuple h1;obtain⟨u1,u2,rfl,q1,q2⟩:=vals2 r2;cases(show u1=Value.ref q.2 from q1);obtain⟨i3,r3,⟨o3,Tg,W5,n3,Pt⟩,_⟩:=I.tuple h3;refine⟨(q.1,q.2,u2)::ps,by simp[ka,p1],by simp[p2],λ j u p e1 e2=>?_⟩;cases j with
  |zero=>simp at e1 e2;subst e1 e2;refine⟨⟨t,rfl,o,ho,hc,n,hd⟩,o3,i3.toArray,n3,Tg,W5,Pt,?_⟩;rw[h2];exact mj r3
  |succ j=>exact p3 j u p (by simpa using e1) (by simpa using e2)
end
section
variable {X:Cx}{e:Expr}{te:TE}{p p2 pos bw fp kp:Pos}{f:Str}{k:Nat}{ps:List Str}{sp:Sp}
def pC(K:K2)(sp:Sp)(x:V)(H:Hp)(Q:VK):Prop:=∃(l:Addr) (ys zs:List V) (kp:List (List Key×Addr)) (b:Bool) (R:List V->Hp->Prop) (key:Nat->Ky),x=.ref l/\dn K H l ys/\ys.length < 64/\iA K H ys kp/\zs=(eP kp).map (λ p=>V.ref p.2)/\R [] H/\
 (∀kvs H v,R kvs H->zs[kvs.length]?=some v->sp [v] H (λ k H'=>R (kvs++[k]) H') E0)/\
 ∀kvs H,R kvs H->kvs.length=zs.length->(∀i k,kvs[i]?=some k->mW K b H k (key i))/\∀p out,H p=none->Out (λ i j=>klt (key i) (key j)) zs V.bM out->Q (.ref p) (upd H p (.lst out))
theorem nU:∀as:List Addr,Vals (as.map V.ref) (as.map Value.ref)
 |[]=>.nil
 |a::as=>.cons rfl (nU as)
theorem rH(d:bJ X.prog X.w X.K X.mg X.base k f ps sp)(hr:dh (k+2) X.A)(hg:Gl X "sorted")(hm:X.mg "sorted"=none)(Pr:Gl X "dict")(Pf:X.mg "dict"=none)(Pq:Gl X f)(he:PE X e te)(CY:(f==("__debug__":Str))=false:=by decide) (hs:starEach [.Call (.Name "dict" p2) [e] [] bw] X.env=[(false,eval (.Call (.Name "dict" p2) [e] [] bw) X.env)]:=by rfl) (mw:backTo pos (starEach [.Call (.Name "dict" p2) [e] [] bw] X.env)=(false,eval (.Call (.Name "dict" p2) [e] [] bw) X.env)::backTo pos (starEach [] X.env):=by rfl) (gb:(backTo pos (starEach [.Call (.Name "dict" p2) [e] [] bw] X.env)).any (·.1)=false:=by rfl) (ht:starEach [e] X.env=[(false,eval e X.env)]:=by rfl) (O8:starEach [e] X.env=(false,eval e X.env)::starEach [] X.env:=by rfl) (O7:(backTo bw (starEach [] X.env)).any (·.1)=false:=by rfl):PE X (.Call (.Name "sorted" p) [.Call (.Name "dict" p2) [e] [] bw] [⟨some "key",.Name f fp,kp⟩] pos) (λ σ H Q=>te σ H λ x H1=>pC X.K sp x H1 Q):=by
 intro pins s σ H Q I h;obtain⟨q,fd,G,WD,kq,bd⟩:=d.ex;refine r9 (ef I hg hm PyProof.Rows.boot_sorted ?_ (by decide) (by decide));refine PyProof.Rows.callWith_kw ?_ mw gb;rw[hs];show wpAny _ _ (spliced ((false,eval (.Call (.Name "dict" p2) [e] [] bw) X.env)::[])) _ _ s;refine Calls.spliced_cons (r9 (ef I Pr Pf PyProof.Rows.boot_dict ?_ (by decide) (by decide)));refine c4 (dF ((fL he ie (by rw[ht];rfl)) bw pins s σ H (λ vs H1=>match vs with|[x]=>pC X.K sp x H1 Q|_=>False) I h) λ us s1 ⟨vs,H1,I1,r1,q1⟩=>?_) O8 O7;cases vs with
 |nil=>exact q1.elim
 |cons x vs=>
  cases vs with
  |cons _ _=>exact q1.elim
  |nil=>
  have q1:pC X.K sp x H1 Q:=q1;obtain⟨u,rfl,ru⟩:=vals1 r1;obtain⟨l,ys,zs,D',b,R,key,rfl,hl,nB,hp,rfl,h0,hc,hk⟩:=q1;cases(show u=Value.ref l from ru);obtain⟨av,rv,pl,hz⟩:=I1.list hl;have hlen:=rv.length;obtain⟨es,e1,e2,e3⟩:=lY I1 hp rv;have hu:=hr.un;have ol:∃o,s1.heap.get? l=some o/\o.dict=none:=by obtain⟨o,n,a1,a2,a3,a4⟩:=pl;exact⟨o,a1,a3⟩
  have two:(s1.heap.objs.size==sysModules)=false:=by
   obtain⟨o,n,a1,a2,a3,a4⟩:=pl;obtain⟨m,⟨o',b1,b2,b3,b4,_⟩,_⟩:=I1.loc;have ne:l≠X.env.locals:=λ z=>by rw[z,b3]at a1;cases a1;rw[a4]at b4;cases b4
   have l1:l < s1.heap.objs.size:=D6 a1;have l2:X.env.locals < s1.heap.objs.size:=D6 b3;refine beq_eq_false_iff_ne.mpr λ z=>?_;have z:s1.heap.objs.size=1:=z;have:∀a b:Nat,a≠b->a < 1->b < 1->False:=λ a b _ _ _=>by omega
   exact this l X.env.locals ne (z▸l1) (z▸l2)
  refine GY (by omega) hr.hd pl.isList ol e2 (by omega) e3 λ g tk gk gd gz=>?_;have I2:Inv X pins σ H1 {s1 with heap:=g,toks:=tk}:=I1.kept (t':=tk) gk;refine Calls.spliced_nil ?_;show wpAny _ _ (evalAll ((do let v <- eval (.Name f fp) X.env;standAt pos;pure v)::[])) _ _ _;refine wpAny_evalAll_cons (H0 (wV I2 Pq WD (H0 (wpAny_standAt (H9 (wpAny_evalAll_nil ?_)))) CY));obtain⟨o,PV,ep,o1,o2,o3,o4,o5,o6⟩:=gd;have ek:(putAll [] es).map ka=eP D':=by rw[Cm,e1];rfl
  have ev:PV.toList.map (·.key)=((eP D').map (·.2)).map Value.ref:=by rw[o4,<- ek,D8,D8,D8];rfl
  have hsz:PV.size < 64:=by
   have a:=wU es [];have b:PV.toList.length=(putAll [] es).length:=by rw[o4,B5]
   rw[m8]at b;simp at a;omega
  have ez:(eP D').map (λ p=>V.ref p.2)=((eP D').map (·.2)).map V.ref:=by rw[D8];rfl
  have lz:((eP D').map (λ p=>V.ref p.2)).length < 64:=by
   have b:(eP D').length=PV.size:=by have:=J5 List.length ev;simpa using this.symm
   rw[B5,b];exact hsz
  have go:Goes X q s1.heap.objs.size (((eP D').map (·.2)).map Value.ref) {s1 with heap:=g,toks:=tk}:=by intro Q' hQ;refine EG (s:={s1 with heap:=g,toks:=tk}) two hr.hd (⟨o,o1,o2,o3⟩:Raw g _ PV ep) hsz λ Dd kS g0 g' zI PQ a1 a2 a3 a4 a5 a6 a7=>?_;rw[ev];exact hQ Dd kS g0 g' zI PQ a1 a2 a3 a4 a5 a6 a7
  exact vF G bd hr I2 (by rw[ez];exact nU _) go lz R key h0 hc hk
end
end L2
namespace L3
open PySem PySem.Spec L2 L5
def yz(r:List Int):D:=.tup (r.map D.int)
def pairD(r:List Int):D:=.tup [yz r,.bl true]
theorem pU:∀a b:List Int,(a.map Sum.inl:List Key)=b.map Sum.inl->a=b
 |[],[],_=>rfl
 |[],_::_,h=>by cases h
 |_::_,[],h=>by cases h
 |x::a,y::b,h=>by simp only[C9,List.cons.injEq,Sum.inl.injEq]at h;rw[h.1,pU a b h.2]
section
variable {K:K2}{H:Hp}
theorem rL:∀{rows:List (List Int)} {ys:List V},aB K H (rows.map pairD) ys->∃kp,iA K H ys kp/\kp.map (·.1)=rows.map λ r=>(r.map Sum.inl:List Key)
 |[],ys,h=>by cases(aq.mp h);exact⟨[],trivial,rfl⟩
 |r::rows,ys,h=>by obtain⟨y,ys,rfl,h1,h2⟩:=ag.mp h;obtain⟨kp,a1,a2⟩:=rL h2;obtain⟨t,xs,rfl,hq,hd⟩:=aU.mp h1;obtain⟨x1,r1,rfl,b1,hd⟩:=ag.mp hd;obtain⟨x2,r2,rfl,b2,hd⟩:=ag.mp hd;cases(aq.mp hd);obtain⟨m,zs,rfl,CJ,hd2⟩:=aU.mp b1;rw[bY hd2]at CJ;exact⟨((r.map Sum.inl:List Key),m)::kp,⟨⟨t,x2,r,rfl,hq,rfl,CJ⟩,a1⟩,by simp[a2]⟩
theorem jP:∀{fs:List (List Key×Addr)} {rs:List (List Int)},(∀p∈fs,∃r:List Int,p.1=r.map Sum.inl/\fE K H p.2 (r.map V.int))->fs.map (·.1)=rs.map (λ r=>(r.map Sum.inl:List Key))->aB K H (rs.map yz) (fs.map λ p=>V.ref p.2)
 |[],[],_,_=>by simp[aq]
 |[],_::_,_,h=>by cases h
 |_::_,[],_,h=>by cases h
 |p::fs,r::rs,h,e=>by simp only[C9,List.cons.injEq]at e;obtain⟨r',e1,e2⟩:=h p (by simp);have er:r'=r:=pU _ _ (e1.symm.trans e.1);subst er;rw[C9,C9,ag];refine⟨_,_,rfl,aU.mpr ⟨p.2,_,rfl,e2,fv r'⟩,jP (λ q m=>h q (by simp[m])) e.2⟩
end
def qe(sp:fb)(d:D)(M:Mem)(Q:bR):Prop:=∃(l:Addr) (rows:List (List Int)) (b:Bool) (R:List D->Mem->Prop) (key:Nat->Ky),d=.ref l/\M l=some (.lst (rows.map pairD))/\rows.length < 64/\R [] M/\
 (∀je M e,R je M->((once rows).map yz)[je.length]?=some e->sp [e] M (λ k M'=>R (je++[k]) M'))/\
 ∀je M,R je M->je.length=(once rows).length->(∀i k,je[i]?=some k->Iq b M k (key i))/\∀p out,M p=none->Out (λ i j=>klt (key i) (key j)) ((once rows).map yz) D.bM out->Q (.ref p) (ah M p (.lst out))
def ph(sp:fb)(te:cw):cw:=λ δ M Q=>te δ M λ d M1=>qe sp d M1 Q
section
variable {X:Cx}{e:Expr}{te:cw}{p p2 pos bw fp kp:Pos}{f:Str}{k:Nat}{ps:List Str}{sp:fb}
theorem uA(d:bT X.prog X.w X.K X.mg X.base k f ps sp)(hr:dh (k+2) X.A)(hg:Gl X "sorted")(hm:X.mg "sorted"=none)(Pr:Gl X "dict")(Pf:X.mg "dict"=none)(Pq:Gl X f)(he:QE X e te)(CY:(f==("__debug__":Str))=false:=by decide) (hs:starEach [.Call (.Name "dict" p2) [e] [] bw] X.env=[(false,eval (.Call (.Name "dict" p2) [e] [] bw) X.env)]:=by rfl) (mw:backTo pos (starEach [.Call (.Name "dict" p2) [e] [] bw] X.env)=(false,eval (.Call (.Name "dict" p2) [e] [] bw) X.env)::backTo pos (starEach [] X.env):=by rfl) (gb:(backTo pos (starEach [.Call (.Name "dict" p2) [e] [] bw] X.env)).any (·.1)=false:=by rfl) (ht:starEach [e] X.env=[(false,eval e X.env)]:=by rfl) (O8:starEach [e] X.env=(false,eval e X.env)::starEach [] X.env:=by rfl) (O7:(backTo bw (starEach [] X.env)).any (·.1)=false:=by rfl):QE X (.Call (.Name "sorted" p) [.Call (.Name "dict" p2) [e] [] bw] [⟨some "key",.Name f fp,kp⟩] pos) (ph sp te):=by
 refine b_ (rH d hr hg hm Pr Pf Pq he CY hs mw gb ht O8 O7) ?_;rintro σ H Q ⟨δ,M,Q2,hs,hm,q,k⟩;refine⟨δ,M,_,hs,hm,q,λ x H1 d M1 hd cb t1 q1=>?_⟩;obtain⟨l,rows,b,R,key,rfl,hM,nB,h0,hc,hk⟩:=q1;cases(aE.mp hd);obtain⟨ys,hy,zM⟩:=cb l _ hM;have hlen:=zM.length;rw[B5]at hlen;obtain⟨D',p1,p2⟩:=rL zM;have hd2:aB X.K H1 ((once rows).map yz) ((eP D').map λ p=>V.ref p.2):=jP (λ p m=>p1.row p (uP m)) (sy _ pU p2);have U5:=hd2.length;rw[B5 (f:=yz)]at U5;refine⟨l,ys,_,D',b,λ kvs H'=>∃je M',aB X.K H' je kvs/\RelM X.K H' M'/\aw H1 H'/\R je M',key,rfl,dn.of hy,by omega,p1,rfl,⟨[],M1,by rw[aq],cb,aw.refl _,h0⟩,?_,?_⟩
 ·rintro kvs H2 v ⟨je,M2,h1,h2,t2,hR⟩ hv;have Pj:=h1.length;obtain⟨e,e1,e2⟩:=(aB.mono t2 _ hd2).vf hv;refine⟨[e],M2,_,aB.one e2,h2,hc je M2 e hR (by rw[<- Pj];exact e1),λ w H3 d3 M3 Pt HF t3 q3=>?_⟩;exact⟨je++[d3],M3,(aB.mono t3 je h1).append (aB.one Pt),HF,t2.trans t3,q3⟩
 ·rintro kvs H2 ⟨je,M2,h1,h2,t2,hR⟩ hl;have Pj:=h1.length;obtain⟨a1,a2⟩:=hk je M2 hR (by omega);refine⟨λ i w hw=>?_,λ p out hp ho=>?_⟩
  ·obtain⟨d3,e3,Pt⟩:=h1.vf hw;exact(a1 i d3 e3).v Pt h2
  ·obtain⟨π,p1,p2,rfl⟩:=ho;rw[U5]at p1 p2;refine k _ _ (.ref p) _ (aE.mpr rfl) (cX hp (oJ (aB.mono t2 _ hd2) π.toList) h2) (t1.trans (t2.trans (aw.laid hp))) (a2 p _ (h2.free hp) ⟨π,by rw[B5];exact p1,by rw[B5];exact p2,rfl⟩)
end
theorem AU{sp:fb}{te:cw}{δ:dk}{M:Mem}{Q:bR}(h:te δ M λ d M1=>qe sp d M1 Q):ph sp te δ M Q:=h
end L3
namespace L4
open PySem PySem.Spec L2 L3 L5
section
variable {X:Cx}{e:Expr}{te:cw}{p p2 pos bw fp kp:Pos}{f:Str}{k:Nat}{ps:List Str}{sp:fb}
theorem tZ(d:bT X.prog X.w X.K X.mg X.base k f ps sp)(hr:dh (k+2) X.A)(hg:Gl X "sorted")(hm:X.mg "sorted"=none)(Pr:Gl X "dict")(Pf:X.mg "dict"=none)(Pq:Gl X f)(he:WE X e te)(CY:(f==("__debug__":Str))=false:=by decide) (hs:starEach [.Call (.Name "dict" p2) [e] [] bw] X.env=[(false,eval (.Call (.Name "dict" p2) [e] [] bw) X.env)]:=by rfl) (mw:backTo pos (starEach [.Call (.Name "dict" p2) [e] [] bw] X.env)=(false,eval (.Call (.Name "dict" p2) [e] [] bw) X.env)::backTo pos (starEach [] X.env):=by rfl) (gb:(backTo pos (starEach [.Call (.Name "dict" p2) [e] [] bw] X.env)).any (·.1)=false:=by rfl) (ht:starEach [e] X.env=[(false,eval e X.env)]:=by rfl) (O8:starEach [e] X.env=(false,eval e X.env)::starEach [] X.env:=by rfl) (O7:(backTo bw (starEach [] X.env)).any (·.1)=false:=by rfl):WE X (.Call (.Name "sorted" p) [.Call (.Name "dict" p2) [e] [] bw] [⟨some "key",.Name f fp,kp⟩] pos) (ph sp te):=⟨uA d hr hg hm Pr Pf Pq he.h CY hs mw gb ht O8 O7⟩
end
end L4
namespace L5
open PySem
open AutoSeq1 (wpAny_loadPart')
abbrev Rx(T:String)(h:Heap)(l:Addr):Heap:=h.push {cls:=.type T,data:=.fields #[.ref l,.int 0 0]}
abbrev T5(T:String)(h:Heap)(l:Addr):Heap:=(Rx T h l).push {cls:=.type "enumerate",data:=.fields #[.none,.bool false,.ref h.objs.size,rawInt 0,.none,.none]}
set_option tactic.hygienic true in
theorem vj{T:String}{S:Heap->Addr->Array Value->Prop}(k:NK T S)(l:Addr)(vs:Array Value):Meets (Builtin.«enumerate.__new__» ⟨[.type "enumerate",.ref l],[]⟩) (λ _ R s=>S s.heap l vs/\R (.ok (.ret (.ref (Rx T s.heap l).objs.size))) {s with heap:=T5 T s.heap l}):=
 .of_wp λ prog w A R s h=>by
  obtain⟨hp,g,d,tk,os⟩:=s;obtain⟨a1,h⟩:=h;have se:=sub_enumerate;have aT:S (Shared.heap ⟨hp,g,d,tk,os⟩) l vs:=a1
  wp_walk using k.start aT
  refine wpAny_stack_any λ st=>H9 ?_;split
  ·rename_i c _ _ _ _ _;cases(c==Value.type "enumerate")
   all_goals
    wp_walk using k.start aT
    exact⟨_,rfl,h⟩
  ·wp_walk using k.start aT
   exact⟨_,rfl,h⟩
theorem GX{prog:Program}{w:World}{A:Around}{E:Value->Shared->Prop}{s:Shared}{T:String}{S:Heap->Addr->Array Value->Prop}(kk:NK T S){l:Addr}{vs:Array Value}{Q:Value->Shared->Prop}(a1:S s.heap l vs) (k:∀h',IsEnum h' (s.heap.objs.size+1) s.heap.objs.size 0 .none->kr T h' s.heap.objs.size l 0->(∀f o,s.heap.get? f=some o->h'.get? f=some o)->Q (.ref (s.heap.objs.size+1)) {s with heap:=h'}):wpAny (model prog w) A (call (.type "enumerate") [.ref l]) Q E s:=by refine callType_new F.called_enumerate (by decide) (F.typeCall_enumerate_1 _) (F.newCall_enumerate_1 _) (λ ob=>F.args_object_init_2 ob _) F.entry_enumerate_new (vj kk l vs) ⟨a1,?_⟩;have e1:(Rx T s.heap l).objs.size=s.heap.objs.size+1:=C2 ..;have g2:(T5 T s.heap l).get? (Rx T s.heap l).objs.size=some _:=m9 _ rfl;have g1:(T5 T s.heap l).get? s.heap.objs.size=some _:=j5 _ (m9 s.heap rfl);rw[e1]at g2;show _/\_;rw[e1];exact⟨⟨_,g2,rfl⟩,k _ g2 ⟨_,g1,rfl,rfl⟩ λ f o x=>j5 _ (j5 _ x)⟩
theorem BU{T:String}{S:Heap->Addr->Array Value->Prop}(k:NK T S){prog:Program}{w:World}{A:Around}(hA:A.handled=none)(j l:Addr)(ne:l≠j)(vs:Array Value):Draws prog w A j [j,l] vs.size (λ i v=>vs[i]?=some v) (λ i h=>kr T h j l i/\S h l vs) where
 live:=λ _ _ st=>let⟨⟨o,ho,_⟩,_⟩:=st;⟨o,ho⟩
 frame:=λ _ _ _ st q=>let⟨⟨o,ho,r⟩,su⟩:=st;⟨⟨o,q j (by simp) o ho,r⟩,k.keep su λ o e=>q l (by simp) o e⟩
 item:=λ i s Q E hi st kk=>k.item st.1 st.2 (c9 hi) λ h' a b=>kk _ h' s.toks (c9 hi) ⟨a,k.keep st.2 λ o e=>b.extBut _ _ ne e⟩ b
 done:=λ s Q E st kk=>k.stop hA st.1 st.2 (j4 (G5 _)) kk
end L5
namespace L2
open PySem PySem.Spec PyProof.Rows L5
def RI(K:K2)(b:Bool)(l:Addr):It:=
 ⟨λ i H=>∃xs x,Sq b K H l xs/\xs[i]?=some x,
  λ i H v H'=>∃(p:Addr) (x:V),H p=none/\v=.ref p/\H'=upd H p (.tup [.int i,x])/\∀xs,Sq b K H l xs->xs[i]?=some x,
  λ i H=>∃xs,Sq b K H l xs/\xs.length<=i⟩
def VD(b:Bool)(e j l:Addr)(i:Nat)(h:Heap):Prop:=(∃old,IsEnum h e j i old)/\kr (Qx b) h j l i
theorem yk{P:Program}{w:World}{K:K2}{es:List Expr}{k0}{pos:Pos}{e j:Addr}(b:Bool)(B:e≠j)(l:Addr):Turn P w K (.Tuple es k0 pos) (RI K b l) [e,j] e (VD b e j l) where
 mem:=by simp
 obj:=λ i h st c hc=>by
  obtain⟨⟨old,he⟩,⟨oa,ha,_,da⟩⟩:=st;rcases D1.mp hc with rfl|hc
  ·exact⟨_,he,λ v z=>by cases z⟩
  rcases D1.mp hc with rfl|hc
  ·exact⟨_,ha,λ v z=>by rw[da]at z;cases z⟩
  ·cases hc
 keep:=λ i h h' st q=>by obtain⟨⟨old,he⟩,⟨oa,ha,r⟩⟩:=st;exact⟨⟨old,q e (by simp) _ he⟩,⟨oa,q j (by simp) _ ha,r⟩⟩
 item:=by
  intro X hP hw hK hc i pins s σ H E I hf st hg;subst hP hw hK;obtain⟨xs,x,hl,hx⟩:=hg;obtain⟨⟨old,he⟩,hj⟩:=st;obtain⟨Nt,r1,p1⟩:=gh I hl;obtain⟨u1,e1,q1⟩:=r1.get hx;have lj:l≠j:=Aj I (hf j (by simp)) hl;have le:l≠e:=Aj I (hf e (by simp)) hl;have hi:i < Nt.toArray.size:=by have:=(g9.mp e1).1;simpa using this
  refine wpAny_pyNext_enum_itemD (BU (gA b) (A:=X.A.in1) (I.ok.hd hc) j l lj Nt.toArray) he ⟨hj,p1⟩ hi B (by simp;exact⟨B,J6 le⟩) λ y g tk g1 g2 g3 g4 g5 g6=>?_;have ey:y=u1:=by rw[getElem?_toArray,e1]at g1;cases g1;rfl
  subst ey;have hn:H s.heap.objs.size=none:=I.cp.fresh (G5 _);have I1:Inv X pins σ H {s with heap:=g,toks:=tk+1}:=qO (t':=tk+1) I (ch:=[e,j]) (λ c o hc e=>g6 c o (λ z=>hc (by simp[z])) (λ z=>hc (by simp[z])) e) hf;refine⟨_,rfl,wpAny_letOwnedTupleGo_enum (s:={s with heap:=g,toks:=tk+1}) g2 λ g' e' sb=>?_⟩;have I2:Inv X pins σ H {s with heap:=g',toks:=tk+1}:=qO (s:={s with heap:=g,toks:=tk+1}) (t':=tk+1) (ch:=[e]) I1 (λ c o hc q=>sb.extBut _ _ (λ z=>hc (by simp[z])) q) (λ c hc=>hf c (by simp at hc ⊢;exact .inl hc));have fo:=I.iZ (H':=H) (G5 s.heap.objs.size) hn;have UG:e < s.heap.objs.size:=D6 he;have V3:j < s.heap.objs.size:=let⟨_,q,_⟩:=hj;D6 q
  have t5:=sb.extBut _ _ (E8 UG) g4;have I3:Inv X pins σ (upd H s.heap.objs.size (.tup [.int i,x])) {s with heap:=g',toks:=tk+1}:=Inv.lF I2 hn ⟨show 2<=sizeLine by decide,[.int i tk,y],.cons ⟨tk,rfl⟩ (.cons q1 .nil),⟨_,t5,rfl,_,rfl⟩⟩ fo.2.1 (D9 I.sz (G5 _)) fo.2.2.2.2.1 fo.2.2.2.2.2;refine⟨.ref s.heap.objs.size,_,I3,rfl,⟨s.heap.objs.size,x,hn,rfl,rfl,λ Jz h'=>by rw[JV I h' hl];exact hx⟩,⟨⟨_,by simpa using e'⟩,?_⟩,λ c hc=>?_⟩
  ·obtain⟨o,ho,r⟩:=g3.1;exact⟨o,sb.extBut _ _ (J6 B) ho,r⟩
  ·have eR:c < s.heap.objs.size:=by
    simp at hc;rcases hc with rfl|rfl
    ·exact UG
    ·exact V3
   rw[bg (D5 eR)];exact(hf c hc).1
 done:=by intro X hP hw hK hc i pins s σ H E I hf st hg;subst hP hw hK;obtain⟨xs,hl,hx⟩:=hg;obtain⟨⟨old,he⟩,hj⟩:=st;obtain⟨Nt,r1,p1⟩:=gh I hl;have l1:=r1.length;have lj:l≠j:=Aj I (hf j (by simp)) hl;have hT:s.TypeIs (.ref e) "enumerate":=⟨_,he,rfl⟩;unfold pyNext;refine H0 (C6 (i9 (name:=Str.ofString "__next__") hT F.slot_enumerate_next (y8 F.slot_enumerate_next hT F.entry_enumerate_next ?_ (F.args_enumerate_next_1 _))));refine H0 (m:=field (.ref e) 2) (G8 he rfl (x:=.ref j) rfl ?_);refine H0 ((gA b).stop (A:=X.A.in1) (I.ok.hd hc) hj p1 (j4 (by simp;omega)) λ g c g1 g2=>?_);obtain⟨o,ho,zi⟩:=g2;refine H0 (A4 (T:="StopIteration") (b:=true) ⟨o,ho,zi⟩ isSubtype_stop (H9 ⟨rfl,?_⟩));exact qO (t':=s.toks) (ch:=[j]) I (λ b o hb q=>g1 b o (λ z=>hb (by simp[z])) q) λ b hb=>hf b (by simp at hb ⊢;exact .inr hb)
 self:=λ _ _ _ _ _ st h=>wpAny_pyIter_enum st.1.choose_spec h
section
variable {X:Cx}{es:List Expr}{k0:_}{Ae:Pos}{a:Expr}{ta:TA}{p pos:Pos}
def O0(K:K2)(ta:TA):TI:=λ σ H R=>ta σ H λ vs H1=>∃(b:Bool) (l:Addr),vs=[.ref l]/\(∃xs,Sq b K H1 l xs)/\R (RI K b l) H1
theorem Gk(hg:Gl X "enumerate")(hm:X.mg "enumerate"=none)(ha:PA X [a] ta)(hs:starEach [a] X.env=[(false,eval a X.env)]:=by rfl)(gb:starEach [] X.env=[]:=by rfl):PI X (.Tuple es k0 Ae) (.Call (.Name "enumerate" p) [a] [] pos) (O0 X.K ta):=by
 intro pins s σ H R I h;refine Call_ (ef I hg hm boot_enumerate (c4 (dF (ha pos pins s σ H _ I h) λ us s1 ⟨vs,H1,I1,r1,q1⟩=>?_) (by rw[hs,gb]) (by rw[gb];rfl)));obtain⟨b,l,e,⟨xs,hl⟩,q⟩:=q1;subst e;obtain⟨u1,rfl,r⟩:=vals1 r1;cases(show u1=Value.ref l from r);obtain⟨Nt,r1,p1⟩:=gh I1 hl;refine GX (gA b) p1 λ g g1 g2 g7=>wpAny_pyIter_enum (s:={s1 with heap:=g}) g1 ?_;have I2:Inv X pins σ H1 {s1 with heap:=g}:=I1.kept (t':=s1.toks) g7;have fr:∀c,s1.heap.objs.size<=c->iC X pins H1 c:=λ c hc=>I1.iZ hc (I1.cp.fresh hc);have ne:s1.heap.objs.size+1≠s1.heap.objs.size:=by omega
 refine⟨_,[s1.heap.objs.size+1,s1.heap.objs.size],_,_,H1,rfl,I2,yk b ne l,⟨⟨_,g1⟩,g2⟩,λ c hc=>fr c ?_,q⟩;simp at hc;rcases hc with rfl|rfl <;> omega
end
end L2
namespace L3
open PySem PySem.Spec L2 L5
def dJ(ds:List D):List D:=(List.range ds.length).map λ(i:Nat)=>D.tup [.int (i:Int),ds.getD i D.bM]
theorem cL(ds:List D):(dJ ds).length=ds.length:=by simp[dJ]
def kindB:D->Bool
 | .tup _=>true
 |_=>false
theorem pb{K:K2}{H:Hp}{M:Mem}{d:D}{ds:List D}{x:V}(e:cz M d=some ds)(h:Dat K H d x)(hm:RelM K H M):∃p xs,x=.ref p/\Sq (kindB d) K H p xs/\aB K H ds xs:=by
 cases d with
 |tup es=>cases(show some es=some ds from e);obtain⟨p,xs,rfl,h1,h2⟩:=aU.mp h;exact⟨p,xs,rfl,h1,h2⟩
 |fl es=>cases(show some es=some ds from e);obtain⟨p,xs,rfl,h1,h2⟩:=il.mp h;exact⟨p,xs,rfl,h1.sq,h2⟩
 |ref a=>cases(aE.mp h);obtain⟨xs,h1,h2⟩:=dQ (show bc M a=some ds from e) hm;exact⟨a,xs,rfl,dn.of h1,h2⟩
 |_=>cases e
def hX(x:D)(M:Mem):Option (List D):=(cz M x).map dJ
theorem zb{K:K2}{H1:Hp}{a:Addr}{x:D}(hx:Dat K H1 x (.ref a)):tI K H1 (RI K (kindB x) a) (.fn (hX x)):=λ H M fs t hm e=>by
 have e:(cz M x).map dJ=some fs:=e;cases e1:cz M x with
 |none=>rw[e1]at e;cases e
 |some ds=>rw[e1]at e;cases e;obtain⟨p,xs,e3,q1,x1⟩:=pb e1 (Dat.mono t x hx) hm;cases e3;have l1:=x1.length;rw[cL];refine⟨λ i hi=>⟨xs,xs[i]'(by omega),q1,by simp⟩,λ i hi=>⟨xs,q1,by omega⟩,λ i v H' hi y=>?_⟩;obtain⟨p,v,hp,rfl,rfl,hx⟩:=y;obtain⟨d,d1,d2⟩:=x1.vf (hx xs q1);refine⟨aw.laid hp,hm.laid hp,.tup [.int i,d],?_,gN hp (ag.mpr ⟨.int i,[v],rfl,ax.mpr rfl,aB.one d2⟩)⟩;obtain⟨z1,w1⟩:=g9.mp d1;simp[dJ,z1,w1]
def Cp(ta:fB):kY:=λ δ M R=>ta δ M λ ds M1=>match ds with
 |[.tup xs]=>R (.fix (dJ xs)) M1
 |[x]=>(∃zs,cz M1 x=some zs)/\R (.fn (hX x)) M1
 |_=>False
section
variable {X:Cx}{es:List Expr}{k0:_}{Ae:Pos}{a:Expr}{ta:fB}{p pos:Pos}
theorem FR(hg:Gl X "enumerate")(hm:X.mg "enumerate"=none)(ha:QA X [a] ta)(hs:starEach [a] X.env=[(false,eval a X.env)]:=by rfl)(gb:starEach [] X.env=[]:=by rfl):QI X (.Tuple es k0 Ae) (.Call (.Name "enumerate" p) [a] [] pos) (Cp ta):=Bz (Gk hg hm ha hs gb) λ σ H R ⟨δ,M,R2,hs,hm,q,k⟩=>by
 refine⟨δ,M,_,hs,hm,q,λ xs H1 ds M1 hd cb t1 q1=>?_⟩;have go:∀x,ds=[x]->(∃zs,cz M1 x=some zs)->(∀J,tI X.K H1 J (.fn (hX x))->R J H1)->∃(b:Bool) (l:Addr),xs=[.ref l]/\(∃xs,Sq b X.K H1 l xs)/\R (RI X.K b l) H1:=by rintro x rfl ⟨zs,hz⟩ hR;obtain⟨vx,r,rfl,hx,hr⟩:=ag.mp hd;cases(aq.mp hr);obtain⟨p,vs,rfl,q1,_⟩:=pb hz hx cb;exact⟨_,p,rfl,⟨vs,q1⟩,hR _ (zb hx)⟩
 match ds,q1 with
 |[x],q1=>
  by_cases ht:∃xs,x=.tup xs
  ·obtain⟨xs,rfl⟩:=ht;exact go _ rfl ⟨_,rfl⟩ λ J hJ=>k J H1 (.fix (dJ xs)) M1 (λ H M ds t hm e=>hJ H M ds t hm e) cb t1 q1
  ·have q2:(∃zs,cz M1 x=some zs)/\R2 (.fn (hX x)) M1:=by cases x <;> first|exact q1|exact absurd ⟨_,rfl⟩ ht
   exact go x rfl q2.1 λ J hJ=>k J H1 _ M1 hJ cb t1 q2.2
 |[],q1=>exact q1.elim
 |x::y::r,q1=>cases x <;> exact q1.elim
end
end L3
namespace L4
open PySem PySem.Spec L2 L3 L5
section
variable {X:Cx}{es:List Expr}{k0:_}{Ae:Pos}{a:Expr}{ta:fB}{p pos:Pos}
theorem gL(hg:Gl X "enumerate")(hm:X.mg "enumerate"=none)(ha:WA X [a] ta)(hs:starEach [a] X.env=[(false,eval a X.env)]:=by rfl)(gb:starEach [] X.env=[]:=by rfl):WI X (.Tuple es k0 Ae) (.Call (.Name "enumerate" p) [a] [] pos) (Cp ta):=⟨FR hg hm ha.h hs gb⟩
end
end L4
namespace L2
open PySem PySem.Spec PyProof.Rows
section
variable {X:Cx}
theorem Gz:fF X (binaryOp .Add) (λ x y H Q=>∃a b ys,x=.ref a/\y=.ref b/\fE X.K H a []/\fE X.K H b ys/\Q (.ref b) H):=by intro pins s σ H x y v u Q I rx ry h;obtain⟨a,b,ys,rfl,rfl,ha,hb,q⟩:=h;cases rx;cases ry;obtain⟨i1,r1,p1,_⟩:=I.tuple ha;obtain⟨i2,r2,p2,_⟩:=I.tuple hb;cases r1;obtain⟨⟨c1,d1,a1,l1⟩,o1,k1,n1,e1⟩:=id p1;obtain⟨⟨c2,d2,a2,l2⟩,o2,k2,n2,e2⟩:=id p2;cases(show c1=.type "tuple" from k1);cases(show a1=_ from e1);cases(show c2=.type "tuple" from k2);cases(show a2=_ from e2);exact concat_meets ⟨_,o1,rfl⟩ ⟨_,o2,rfl⟩ noFill_tuple_add seq_tuple_add PySem.F.slot_tuple_add PySem.F.entry_tuple_add (PySem.F.args_tuple_add_2 _ _) (tuple_addW0 a b #[] i2.toArray n1 n2 d1 d2 l1 l2 rfl) ⟨o1,o2,⟨.ref b,H,I,rfl,q⟩⟩
end
end L2
namespace L3
open PySem PySem.Spec L2
section
variable {X:Cx}
def xE:gH:=λ x y M Q=>HU x y M Q\/∃ys,x=.tup []/\y=.tup ys/\Q (.tup ys) M
theorem bp:fX X (binaryOp .Add) xE:=by
 obtain⟨r,h1,h2⟩:=(OK:fX X (binaryOp .Add) HU);refine⟨_,h1.or Gz,λ x y d e H M Q2 Q hd he hm q k=>?_⟩;rcases q with q|⟨ys,rfl,rfl,q⟩
 ·exact .inl (h2 x y d e H M Q2 Q hd he hm q k)
 ·obtain⟨p,vs,rfl,hp,hx⟩:=aU.mp hd;obtain⟨p2,ws,rfl,ik,hy⟩:=aU.mp he;cases(aq.mp hx);exact .inr ⟨p,p2,ws,rfl,rfl,hp,ik,k _ H _ M (aU.mpr ⟨p2,ws,rfl,ik,hy⟩) hm (aw.refl H) q⟩
end
section
variable {M:Mem}{Q:bR}
theorem rq{i j:Int}(q:Q (.int (i+j)) M):xE (.int i) (.int j) M Q:=.inl q
theorem rp{i j:Str}(h:i.length+j.length<=sizeLine)(q:Q (.str (i++j)) M):xE (.str i) (.str j) M Q:=.inl ⟨h,q⟩
theorem iM{a b:Addr}{xs ys:List D}(ha:M a=some (.lst xs))(hb:M b=some (.lst ys))(h:xs.length+ys.length<=sizeLine)(q:∀p,M p=none->Q (.ref p) (ah M p (.lst (xs++ys)))):xE (.ref a) (.ref b) M Q:=.inl (FF ha hb h q)
end
end L3
namespace L3
open PySem L2
section
variable {g:fQ}{tt:eM}{te:cw}{δ δc:dk}{M1:Mem}{Qe:List D->Mem->Prop}
theorem R7{n:Nat}(h:n<=10000):n<=sizeLine:=D9 h (by decide)
theorem ir{α β:Type}{xs:List α}{enc:α->D}(vk:β->D)(I:List β->Mem->Prop)(hn:xs.length<=10000)(h0:I [] M1) (hs:∀(i:Nat) (x:α) (ys:List β) (M:Mem) (N:D->Mem->Prop),xs[i]?=some x->ys.length=i->I ys M->(∀b M',I (ys++[b]) M'->N (vk b) M')->g (enc x) δc M λ δ2 M2=>te δ2 M2 N) (hd:∀ys M,ys.length=xs.length->I ys M->Qe (ys.map vk) M):∃(B:Nat) (W:Nat->List D->Mem->Prop),W 0 [] M1/\∀i acc M,W i acc M->i<=B/\acc.length<=sizeLine/\match items (.fix (xs.map enc)) M with
   |none=>False
   |some ds=>match ds[i]? with
    |none=>i=ds.length/\Qe acc M
    |some d=>g d δc M λ δ2 M2=>q_ δ2 M2 λ b M3=>if b=true then te δ2 M3 λ y M4=>W (i+1) (acc++[y]) M4 else W (i+1) acc M3:=by
 refine fP (λ i acc M=>∃ys:List β,acc=ys.map vk/\ys.length=i/\I ys M) ⟨[],rfl,rfl,h0⟩ (λ i acc M hi h=>?_) (λ i d acc M hd h=>?_) (λ acc M h=>?_)
 ·obtain⟨ys,rfl,h1,_⟩:=h;rw[B5]at hi ⊢;exact R7 (by omega)
 ·obtain⟨ys,rfl,h1,h2⟩:=h;rw[u9]at hd;cases e:xs[i]? with
  |none=>rw[e]at hd;cases hd
  |some x=>rw[e]at hd;cases hd;refine hs i x ys M _ e h1 h2 λ b M' hb=>⟨ys++[b],by rw[B7];rfl,by simp[h1],hb⟩
 ·obtain⟨ys,rfl,h1,h2⟩:=h;rw[B5]at h1;exact hd ys M h1 h2
theorem sU{α β:Type}{a:Addr}{xs:List α}(enc:α->D)(vk:β->D)(I:List β->Mem->Prop)(hn:xs.length<=10000)(h0:I [] M1)(hl:∀ys M,I ys M->M a=some (.lst (xs.map enc))) (hs:∀(i:Nat) (x:α) (ys:List β) (M:Mem) (N:D->Mem->Prop),xs[i]?=some x->ys.length=i->I ys M->(∀b M',I (ys++[b]) M'->N (vk b) M')->g (enc x) δc M λ δ2 M2=>te δ2 M2 N) (hd:∀ys M,ys.length=xs.length->I ys M->Qe (ys.map vk) M):∃(B:Nat) (W:Nat->List D->Mem->Prop),W 0 [] M1/\∀i acc M,W i acc M->i<=B/\acc.length<=sizeLine/\match items (.at a) M with
   |none=>False
   |some ds=>match ds[i]? with
    |none=>i=ds.length/\Qe acc M
    |some d=>g d δc M λ δ2 M2=>q_ δ2 M2 λ b M3=>if b=true then te δ2 M3 λ y M4=>W (i+1) (acc++[y]) M4 else W (i+1) acc M3:=by
 refine xI (ds:=xs.map enc) (λ i acc M=>∃ys:List β,acc=ys.map vk/\ys.length=i/\I ys M) ⟨[],rfl,rfl,h0⟩ (λ i acc M hi h=>?_) (λ i acc M hi h=>?_) (λ i d acc M hd h=>?_) (λ acc M h=>?_)
 ·obtain⟨ys,rfl,h1,h2⟩:=h;exact hl ys M h2
 ·obtain⟨ys,rfl,h1,_⟩:=h;rw[B5]at hi ⊢;exact R7 (by omega)
 ·obtain⟨ys,rfl,h1,h2⟩:=h;rw[u9]at hd;cases e:xs[i]? with
  |none=>rw[e]at hd;cases hd
  |some x=>rw[e]at hd;cases hd;refine hs i x ys M _ e h1 h2 λ b M' hb=>⟨ys++[b],by rw[B7];rfl,by simp[h1],hb⟩
 ·obtain⟨ys,rfl,h1,h2⟩:=h;rw[B5]at h1;exact hd ys M h1 h2
theorem take_one{α:Type}{l:List α}{i:Nat}{a:α}(h:l[i]?=some a):l.take (i+1)=l.take i++[a]:=by rw[take_add_one,h];rfl
theorem cM{α:Type}{xs:List α}{enc:α->D}(out:α->D)(hn:xs.length<=10000) (hs:∀(i:Nat) (x:α) (N:D->Mem->Prop),xs[i]?=some x->N (out x) M1->g (enc x) δc M1 λ δ2 M2=>te δ2 M2 N) (hd:Qe (xs.map out) M1):∃(B:Nat) (W:Nat->List D->Mem->Prop),W 0 [] M1/\∀i acc M,W i acc M->i<=B/\acc.length<=sizeLine/\match items (.fix (xs.map enc)) M with
   |none=>False
   |some ds=>match ds[i]? with
    |none=>i=ds.length/\Qe acc M
    |some d=>g d δc M λ δ2 M2=>q_ δ2 M2 λ b M3=>if b=true then te δ2 M3 λ y M4=>W (i+1) (acc++[y]) M4 else W (i+1) acc M3:=by
 refine ir (β:=α) out (λ ys M=>M=M1/\ys=xs.take ys.length) hn ⟨rfl,rfl⟩ (λ i x ys M N hx hy h k=>?_) (λ ys M hy h=>?_)
 ·obtain⟨rfl,h⟩:=h;refine hs i x N hx (k x M ⟨rfl,?_⟩);rw[p6,k4,take_one (a:=x) (by rw[hy];exact hx),<- h]
 ·obtain⟨rfl,h⟩:=h;rw[hy,y7]at h;rw[h];exact hd
theorem dR{α:Type}{a:Addr}{xs:List α}(enc out:α->D)(hn:xs.length<=10000)(hl:M1 a=some (.lst (xs.map enc))) (hs:∀(i:Nat) (x:α) (N:D->Mem->Prop),xs[i]?=some x->N (out x) M1->g (enc x) δc M1 λ δ2 M2=>te δ2 M2 N) (hd:Qe (xs.map out) M1):∃(B:Nat) (W:Nat->List D->Mem->Prop),W 0 [] M1/\∀i acc M,W i acc M->i<=B/\acc.length<=sizeLine/\match items (.at a) M with
   |none=>False
   |some ds=>match ds[i]? with
    |none=>i=ds.length/\Qe acc M
    |some d=>g d δc M λ δ2 M2=>q_ δ2 M2 λ b M3=>if b=true then te δ2 M3 λ y M4=>W (i+1) (acc++[y]) M4 else W (i+1) acc M3:=by
 refine sU (β:=α) enc out (λ ys M=>M=M1/\ys=xs.take ys.length) hn ⟨rfl,rfl⟩ (λ ys M h=>by rw[h.1];exact hl) (λ i x ys M N hx hy h k=>?_) (λ ys M hy h=>?_)
 ·obtain⟨rfl,h⟩:=h;refine hs i x N hx (k x M ⟨rfl,?_⟩);rw[p6,k4,take_one (a:=x) (by rw[hy];exact hx),<- h]
 ·obtain⟨rfl,h⟩:=h;rw[hy,y7]at h;rw[h];exact hd
end
abbrev DX(i:Nat):D:=.int ((0:Int)+(i:Nat))
theorem Kh(i:Nat):DX i=.int (i:Int):=by show D.int (0+(i:Int))=_;rw[D4]
theorem eI(n:Nat):cO 0 n=(List.range n).map DX:=rfl
theorem Dl{α:Type}(xs:List α)(enc:α->D):dJ (xs.map enc)=xs.zipIdx.map λ p=>D.tup [.int (p.2:Int),enc p.1]:=by
 refine ext_getElem? λ i=>?_;unfold dJ;rw[u9,u9,getElem?_zipIdx,B5];by_cases h:i < xs.length
 ·rw[l9 h,i5 h];simp[h]
 ·rw[k8 (by simpa using h),k8 (by simpa using h)];rfl
def MS(R:Src->Mem->Prop)(d:D)(M1:Mem):Prop:=match d with
 | .str z=>R (.fix (jo z)) M1
 | .tup ds=>R (.fix ds) M1
 | .fl ds=>R (.fix ds) M1
 | .ref a=>(match M1 a with
  |some (.lst _)=>R (.at a) M1
  |_=>False)
 |_=>False
theorem FC{ta:cw}{δ:dk}{M:Mem}{R:Src->Mem->Prop}(h:ta δ M (MS R)):Mj ta δ M R:=h
theorem FD{ds:List D}{M:Mem}{R:Src->Mem->Prop}(h:R (.fix ds) M):MS R (.tup ds) M:=h
theorem pB{a:Addr}{ds:List D}{M:Mem}{R:Src->Mem->Prop}(hM:M a=some (.lst ds))(h:R (.at a) M):MS R (.ref a) M:=by show(match M a with|some (.lst _)=>R (.at a) M|_=>False);rw[hM];exact h
end L3
namespace KK
open PySem L3 L4 L5
open L2 hiding aL h_
def Jm(c:Addr)(p b sd ct:Int):List D:=[.ref c,.int p,.int b,.int sd,.int ct]
structure Flow(M:Mem)(f c:Addr):Prop where
 ex:∃(ns:List Int) (p b sd ct:Int),M f=some (.lst (Jm c p b sd ct))/\M c=some (.lst (ns.map D.int))/\c≠f/\0<=p/\0<=b/\0<=sd/\sd < 2147483647
def eN:fb:=λ ds M Q=>∃(f c:Addr) (n:Int),ds=[.ref f,.int n]/\Flow M f c/\0 < n/\n < 1073741824/\∀(d:Int) (o:MO),0<=d->d < n->Flow (ah M f o) f c->Q (.int d) (ah M f o)
structure Fl(f c:Addr)(M M':Mem):Prop where
 aI:Flow M' f c
 mv:∀b o,b≠f->M b=some o->M' b=some o
theorem Fl.trans {f c:Addr}{M M1 M2:Mem}(a:Fl f c M M1)(b:Fl f c M1 M2):Fl f c M M2:=⟨b.aI,λ c o h e=>b.mv c o h (a.mv c o h e)⟩
theorem Fl.pick {f c:Addr}{M:Mem}{o:MO}(h:Flow (ah M f o) f c):Fl f c M (ah M f o):=⟨h,λ b o' hb e=>by rw[aj hb];exact e⟩
theorem Flow.there {M:Mem}{f c:Addr}(h:Flow M f c):∃o,M f=some o:=by obtain⟨ns,p,b,sd,ct,h,_⟩:=h;exact⟨_,h⟩
theorem Flow.JO {M:Mem}{f c:Addr}(h:Flow M f c):∃o,M c=some o:=by obtain⟨ns,p,b,sd,ct,_,h,_⟩:=h;exact⟨_,h⟩
theorem Flow.put {M:Mem}{f c q:Addr}{o:MO}(h:Flow M f c)(n:M q=none):Flow (ah M q o) f c:=by obtain⟨ns,p,b,sd,ct,h1,h2,h3⟩:=h;exact⟨ns,p,b,sd,ct,by rw[aj (λ z=>by rw[z,n]at h1;cases h1)];exact h1,by rw[aj (λ z=>by rw[z,n]at h2;cases h2)];exact h2,h3⟩
theorem Fl.put {M:Mem}{f c q:Addr}{o:MO}(h:Flow M f c)(n:M q=none):Fl f c M (ah M q o):=⟨h.put n,λ b o' hb e=>by rw[aj (λ z=>by rw[z,n]at e;cases e)];exact e⟩
theorem Flow.ne {M:Mem}{f c q:Addr}(h:Flow M f c)(n:M q=none):q≠f/\q≠c:=by
 constructor
 ·intro z;subst z;obtain⟨o,e⟩:=h.there;rw[n]at e;cases e
 ·intro z;subst z;obtain⟨o,e⟩:=h.JO;rw[n]at e;cases e
theorem Fl.own {M M':Mem}{f c q:Addr}{o:MO}(h:Fl f c M M')(h0:Flow M f c)(n:M q=none):Fl f c M (ah M' q o):=by obtain⟨n1,n2⟩:=h0.ne n;obtain⟨ns,p,b,sd,ct,h1,h2,h3⟩:=h.aI;refine⟨⟨ns,p,b,sd,ct,by rw[aj (J6 n1)];exact h1,by rw[aj (J6 n2)];exact h2,h3⟩,λ b o' hb e=>?_⟩;rw[aj (λ z=>by rw[z,n]at e;cases e)];exact h.mv b o' hb e
def IE(B:Nat):fb:=λ ds M Q=>∃f c,ds=[.ref f]/\Flow M f c/\∀(z:Str) (M':Mem),z.length<=B->Fl f c M M'->Q (.str z) M'
theorem small{n:Nat}(h:n<=10000):n<=sizeLine:=D9 h (by decide)
theorem len_app(x y:Str):(x++y).length=x.length+y.length:=by show(x.cps++y.cps).size=x.cps.size+y.cps.size;simp
theorem tw{zs:List Str}{d:Int}(h0:0<=d)(h1:d < zs.length):∃z,z∈zs/\eW (zs.map D.str) d=some (.str z):=by
 have hl:d.toNat < zs.length:=by omega
 have e:((d.toNat:Nat):Int)=d:=by omega
 have q:eW (zs.map D.str) ((d.toNat:Nat):Int)=some (.str zs[d.toNat]):=aR (by simp[hl]);rw[e]at q;exact⟨_,A1 hl,q⟩
theorem bQ{lo:Int}{n i:Nat}{d:D}(h:(cO lo n)[i]?=some d):i < n/\d=.int (lo+(i:Nat)):=by
 have hi:i < n:=by have:=(g9.mp h).1;rwa [aM]at this
 rw[lU hi]at h;exact⟨hi,(B0 h).symm⟩
theorem Cn:∀zs:List Str,(Txt.join (Str.ofString "") zs).length=(zs.map (·.length)).sum:=by
 intro zs;show(Builtin.Str.glued (Str.ofString "") zs).length=_;rw[StrLaws.glued_eq_join,show Str.ofString ""=⟨#[]⟩ by decide+kernel]
 induction zs with
 |nil=>rfl
 |cons z zs ih=>rw[PyProof.Rows.join_nil_cons,len_app,ih,C9,sum_cons]
def tH(acc:List D)(i:Nat):Prop:=∃zs:List Str,acc=zs.map D.str/\(zs.map (·.length)).sum<=i/\zs.length=i
theorem tH.nil:tH [] 0:=⟨[],rfl,G5 _,rfl⟩
theorem tH.snoc {acc:List D}{i:Nat}(h:tH acc i){z:Str}(hz:z.length<=1):tH (acc++[.str z]) (i+1):=by obtain⟨zs,rfl,h1,h2⟩:=h;refine⟨zs++[z],by simp,?_,by simp[h2]⟩;rw[B7,sum_append];simp only[C9,E5,sum_cons,sum_nil];omega
theorem Hq{acc:List D}{n:Nat}(h:tH acc n)(hn:n<=1000){M:Mem}{Q:bR}(q:∀z:Str,z.length<=n->Q (.str z) M):mP (.str (Str.ofString "")) acc M Q:=by
 obtain⟨zs,rfl,h1,h2⟩:=h;show(match fg (zs.map D.str)with|some ys=>(ys.map (·.length)).sum+ys.length*(Str.ofString "").length<=16777216/\Q (.str (Txt.join (Str.ofString "") ys)) M|none=>False);rw[nZ];refine⟨?_,q _ ?_⟩
 ·have e:(Str.ofString "").length=0:=by decide+kernel
  rw[e];omega
 ·rw[Cn];exact h1
theorem take_snoc{α:Type}{l:List α}{i:Nat}{a:α}(h:l[i]?=some a):l.take (i+1)=l.take i++[a]:=by rw[take_add_one,h];rfl
def Q_(as:List Int):L2.Ky:=(as.sum,as.map λ a=>0 - a)
def Av:fb:=λ ds M Q=>∃as:List Int,ds=[row as]/\as.length<=1000/\Q (.tup [.int as.sum,row (as.map λ a=>0 - a)]) M
def oZ:fb:=λ ds M Q=>∃(x:D) (rs:List (List Int)),ds=[x]/\(x=.tup (rs.map row)\/∃l,x=.ref l/\M l=some (.lst (rs.map row)))/\rs.length < 64/\(∀r∈rs,r.length<=1000)/\∀out:List (List Int),(∀r∈out,r∈rs)->out.length<=rs.length->Q (.tup (out.map row)) M
theorem gG{ns:List Int}{i:Nat}(h:i < ns.length):eW (ns.map D.int) (i:Int)=some (.int (ns.getD i 0)):=by refine aR ?_;simp[c7,h]
theorem bP{p:Addr}{ds:List D}{M:Mem}{Q:bR}(h:M p=some (.lst ds))(q:Q (.tup ds) M):qd [.ref p] M Q:=by show(match bc M p with|some ds=>Q (.tup ds) M|none=>False);unfold bc;rw[h];exact q
theorem Lv{rs:List (List Int)}{lt:Nat->Nat->Bool}{outD:List D}(h:Out lt (rs.map row) D.bM outD):∃out:List (List Int),outD=out.map row/\(∀r∈out,r∈rs)/\out.length=rs.length:=by
 obtain⟨p,p1,p2,rfl⟩:=h;rw[B5]at p1 p2;have CQ:∀i∈p.toList,i < rs.length:=λ i hi=>by have:=(Array.Perm.mem_iff p1 (a:=i)).mp (by simpa using hi);simpa using this
 refine⟨p.toList.map λ i=>rs.getD i [],?_,λ r hr=>?_,?_⟩
 ·rw[D8];refine map_congr_left λ i hi=>?_;have:=CQ i hi;simp[c7,this]
 ·obtain⟨i,hi,rfl⟩:=D7.mp hr;have:=CQ i hi;rw[c7,i5 this];exact A1 this
 ·rw[B5,m8,p1.size]
theorem back{M M1:Mem}{v:D}{Q:bR}(h:∀b o,M b=some o->M1 b=some o)(q:Q v M):fin2 Q v M1:=⟨M,λ a o e=>h a o e,q⟩
theorem yT{M M':Mem}(h:∀b o,M b=some o->M' b=some o){q:Addr}(n:M' q=none)(x:MO):∀b o,M b=some o->ah M' q x b=some o:=λ b o e=>by rw[aj (λ z=>by rw[<- z,h b o e]at n;cases n)];exact h b o e
theorem DN{ns:List Int}{d:Int}(h0:0<=d)(h1:d < ns.length):∃x,x∈ns/\eW (ns.map D.int) d=some (.int x):=by
 have hl:d.toNat < ns.length:=by omega
 have e:((d.toNat:Nat):Int)=d:=by omega
 have q:eW (ns.map D.int) ((d.toNat:Nat):Int)=some (.int ns[d.toNat]):=aR (by simp[hl]);rw[e]at q;exact⟨_,A1 hl,q⟩
abbrev fH:=Str×List (List Int)
def mY:fH:=(Str.ofString "",[])
def mB(h:fH):D:=.tup [.str h.1,.tup (h.2.map row)]
def sr(g:List fH):D:=.tup (g.map mB)
structure g_(n i:Nat)(r:List Int):Prop where
 len:r.length=n
 pos:∀x∈r,0<=x
 sum:r.sum<=4
 low:∀j,i<=j->r.getD j 0=0
structure vM(n:Nat)(g:List fH):Prop where
 len:g.length=n
 cH:n<=12
 opts:∀i,i < n->(g.getD i mY).2.length<=63/\∀r∈(g.getD i mY).2,g_ n i r
def jE(ns:List Int)(n:Nat):List Int:=(List.range n).map λ(h:Nat)=>((ns.count (h:Int):Nat):Int)
theorem DC(ns:List Int)(n:Nat):(jE ns n).length=n:=by simp[jE]
theorem DA{ns:List Int}{n:Nat}:∀x∈jE ns n,0<=x:=λ x hx=>by obtain⟨h,_,rfl⟩:=D7.mp hx;omega
theorem sT(ns:List Int):∀n:Nat,(jE ns n).sum=(ns.countP λ x=>decide (0<=x/\x < (n:Int)):Nat)
 |0=>by
  have:ns.countP (λ x=>decide (0<=x/\x < ((0:Nat):Int)))=0:=countP_eq_zero.mpr λ x _=>by simp
  rw[this];rfl
 |n+1=>by
  have ih:=sT ns n;unfold jE at ih ⊢;rw[range_succ,B7,sum_append,ih];simp only[C9,E5,sum_cons,sum_nil];have:ns.countP (λ x=>decide (0<=x/\x < ((n+1:Nat):Int)))=ns.countP (λ x=>decide (0<=x/\x < (n:Int)))+ns.count (n:Int):=by
   clear ih
   induction ns with
   |nil=>rfl
   |cons y ys ih=>
    rw[countP_cons,countP_cons,count_cons,ih];generalize List.countP _ ys=A;generalize List.count _ ys=B;by_cases h1:0<=y/\y < (n:Int)
    ·have h2:0<=y/\y < ((n+1:Nat):Int):=by omega
     have h3:¬(y=(n:Int)):=by omega
     rw[J8 (C0 h2),J8 (C0 h1),J9 (by simpa using h3)];omega
    ·by_cases h3:y=(n:Int)
     ·rw[J8 (C0 (by omega)),J9 (by simpa using h1),J8 (by simpa using h3)];omega
     ·rw[J9 (by simp only[w5];omega),J9 (by simpa using h1),J9 (by simpa using h3)];omega
  rw[this];omega
theorem DD{ns:List Int}{n:Nat}:(jE ns n).sum<=ns.length:=by rw[sT];have:=countP_le_length (p:=λ x=>decide (0<=x/\x < (n:Int))) (l:=ns);omega
theorem DB{ns:List Int}{n i:Nat}(h:∀x∈ns,x < (i:Int))(j:Nat)(hj:i<=j):(jE ns n).getD j 0=0:=by
 unfold jE;rw[c7,u9];by_cases hn:j < n
 ·rw[l9 hn];have:ns.count (j:Int)=0:=count_eq_zero.mpr λ z=>by have:=h _ z;omega
  simp[this]
 ·rw[k8 (by simpa using hn)];rfl
def lI:fb:=λ ds M Q=>∃(a:Addr) (ns:List Int) (n:Nat),ds=[.ref a,.int n]/\M a=some (.lst (ns.map D.int))/\n<=1000/\Q (row (jE ns n)) M
def wd:fb:=λ ds M Q=>∃(f c:Addr) (n:Nat),ds=[.ref f,.int n]/\Flow M f c/\n<=1000/\∀(ms:List Int) (M':Mem),ms.length=n->(∀x∈ms,0<=x/\x<=10^30)->Fl f c M M'->Q (row ms) M'
theorem mF:∀zs:List Str,hV (zs.map D.str)=some (zs.map V.str)
 |[]=>rfl
 |z::zs=>by rw[C9];show(match mI (D.str z),hV (zs.map D.str)with|some v,some vs=>some (v::vs)|_,_=>none)=_;rw[mF zs];rfl
theorem sk(z:Str):∀zs:List Str,CA (.str z) (zs.map V.str)=zs.contains z
 |[]=>rfl
 |y::ys=>by have ih:=sk z ys;unfold CA at ih ⊢;rw[C9,any_cons,ih,contains_cons];congr 1;show(y==z)=(z==y);rw[A5,beq_iff_eq,beq_iff_eq];exact eq_comm
theorem CB(z:Str)(zs:List Str):inD (.str z) (zs.map D.str)=some (zs.contains z):=by unfold inD;rw[mF];show some (CA (.str z) (zs.map V.str))=_;rw[sk]
theorem uN(c:Nat):MulOk ⟨#[c]⟩ 1:=⟨by decide,λ _ h=>(by have z:true=false:=h;cases z),λ _ h=>(by have z:true=false:=h;cases z)⟩
def tu:List Nat:=(Str.ofString "zyxwvutsrqponmlkjihgfedcba").cps.toList
def qj(j:Nat):Str:=Txt.mul ⟨#[tu.getD j 0]⟩ 1
theorem vD:((List.range 26).map qj).Nodup:=by decide+kernel
theorem rP:∀{l zs:List Str},l.Nodup->(∀x∈l,x∈zs)->l.length<=zs.length
 |[],zs,_,_=>G7 _
 |a::l,zs,hn,hs=>by rw[nodup_cons]at hn;have ha:a∈zs:=hs a (o8 ..);have h1:=rP (l:=l) (zs:=zs.erase a) hn.2 λ x hx=>(mem_erase_of_ne (λ z=>hn.1 (by rw[<- z];exact hx))).mpr (hs x (k9 _ hx));rw[length_erase_of_mem ha]at h1;have:=length_pos_of_mem ha;rw[y4];omega
theorem DG{zs:List Str}{sp:Nat}(Xo:sp<=26)(h:∀j,j < sp->qj j∈zs):sp<=zs.length:=by
 have e:((List.range sp).map qj).Nodup:=by
  refine List.Sublist.nodup (List.Sublist.map qj ?_) vD;have:List.range sp=(List.range 26).take sp:=by rw[take_range,Nat.min_eq_left Xo]
  rw[this];exact take_sublist _ _
 have:=rP e (zs:=zs) λ x hx=>by obtain⟨j,hj,rfl⟩:=D7.mp hx;exact h j (by simpa using hj)
 simpa using this
def oY:fb:=λ ds M Q=>∃(f c:Addr) (n:Nat),ds=[.ref f,.int n]/\Flow M f c/\n<=12/\∀(p:Addr) (zs:List Str) (M':Mem),zs.length=n->M p=none->M' p=some (.lst (zs.map D.str))->Fl f c M M'->Q (.ref p) M'
theorem bG{T:String}{d:D}{M:Mem}{Q:bR}{n:String}{b:Bool}(e:m_ M d=some n)(hb:pT n T=b)(q:Q (.bl b) M):Jr T [d,.ty T] M Q:=⟨rfl,by rw[e];subst hb;exact q⟩
theorem iL{d:D}{M:Mem}{Q:bR}(h:m_ M d≠some "NoneType")(q:Q (.bl false) M):MJ false d .bM M Q:=by
 cases d with
 |bM=>exact absurd rfl h
 |_=>exact q
theorem kX{ds:List D}{i:Nat}(h:i < ds.length):eW ds (0+(i:Int))=some ds[i]:=by rw[D4];refine aR ?_;simp[h]
theorem qw:∀n:Nat,((List.replicate n true).all id)=true
 |0=>rfl
 |n+1=>by rw[m7,all_cons,qw n];rfl
theorem vM.at {n:Nat}{g:List fH}(G:vM n g){i:Nat}(hi:i < n):(g.getD i mY).2.length<=63/\∀r∈(g.getD i mY).2,r.length=n:=⟨(G.opts i hi).1,λ r hr=>((G.opts i hi).2 r hr).len⟩
theorem kT{ds:List D}{i:Nat}{d:D}(h:(dJ ds)[i]?=some d):i < ds.length/\d=.tup [.int (i:Int),ds.getD i D.bM]:=by
 have hi:i < ds.length:=by have:=(g9.mp h).1;rwa [cL]at this
 refine⟨hi,?_⟩;unfold dJ at h;rw[u9,l9 hi]at h;exact(B0 h).symm
def Ext(M M':Mem):Prop:=∀b o,M b=some o->M' b=some o
theorem Ext.own {M M':Mem}(h:Ext M M'){q:Addr}{x:MO}(n:M q=none):Ext M (ah M' q x):=λ b o e=>by rw[aj (λ z=>by rw[z,n]at e;cases e)];exact h b o e
end KK
namespace HT
open PySem PySem.Spec PyProof.Rows
section
variable {prog:Program}{w:World}{A:Around}{E:Value->Shared->Prop}{s:Shared}
theorem gZ{t sl:Addr}{items:Array Value}{vl vu:Value}{lo hi:Option Int}{Q:Value->Shared->Prop}(ht:IsTup s.heap t items)(hs:s.heap.IsSliceOf sl vl vu .none)(pl:IsPart vl lo)(pu:IsPart vu hi) (hw:cf items.size 0 lo=0/\cf items.size items.size hi=items.size) (h:Q (.ref t) s):wpAny (model prog w) A (getItem (.ref t) (.ref sl)) Q E s:=by
 obtain⟨os,xg,Rq,HG⟩:=id hs;have TL:s.TypeIs (.ref sl) "slice":=⟨os,xg,Rq⟩;unfold getItem
 try with_reducible refine C5 ?_
 first|refine H0 (H9 ?_)|skip
 refine H0 (wpAny_sequenceKey ht.typeIs (by decide) ?_);refine H0 (i9 (name:=Str.ofString "__getitem__") ht.typeIs a8
  (y8 a8 ht.typeIs entry_tuple_getitem ?_ (args_tuple_getitem _ _)))
 show wpAny _ _ (Builtin.Tuple.tupleItemsOf (.ref t) >>= _) _ _ s;refine H0 (tupleItemsOf_ ht ?_);refine H0 (E6 TL ?_);rw[J8 (by decide)];refine H0 (fh hs pl pu ?_);have SR:(((cf items.size 0 lo:Nat):Int)==0&&(1:Int)==1&&(cf items.size items.size hi - cf items.size 0 lo)==items.size)=true:=by rw[hw.1,hw.2];simp
 show wpAny _ _ (if(((cf items.size 0 lo:Nat):Int)==0&&(1:Int)==1&&(cf items.size items.size hi - cf items.size 0 lo)==items.size)=true then _ else _) _ _ s;rw[J8 SR];unfold Builtin.Tuple.tupleIsExact;refine H0 (H0 (E6 ht.typeIs (H9 ?_)));rw[J8 (by decide)];exact H0 (J0 (H9 ⟨_,rfl,H9 h⟩))
end
end HT
namespace L2
open PySem PySem.Spec PyProof.Rows
section
variable {X:Cx}
theorem EH:xQ X (λ x lo hi H Q=>∃a xs,x=.ref a/\fE X.K H a xs/\(HT.cf xs.length 0 lo=0/\HT.cf xs.length xs.length hi=xs.length)/\Q (.ref a) H):=by
 intro pins s σ H x v vl vu lo hi sl Q I rx hs pl pu h;obtain⟨a,xs,rfl,hx,hw,q⟩:=h;cases rx;obtain⟨av,r,ht,hz⟩:=I.tuple hx;have hlen:av.toArray.size=xs.length:=by rw[x8];exact r.length.symm
 exact⟨"tuple",_,a8.lookup,ht.typeIs,HT.gZ ht hs pl pu (by rw[hlen];exact hw) ⟨.ref a,H,I,rfl,q⟩⟩
end
end L2
namespace L3
open PySem PySem.Spec L2
section
variable {X:Cx}
def Dx:D->Option Int->Option Int->Mem->bR->Prop:=λ x lo hi M Q=>match x with
 | .str z=>z.length<=sizeLine/\Q (.str (nK z lo hi)) M
 | .tup ds=>Q (.tup (cutD ds lo hi)) M
 | .ref a=>match bc M a with
  |some ds=>∀p,M p=none->Q (.ref p) (ah M p (.lst (cutD ds lo hi)))
  |none=>False
 |_=>False
theorem qZ:Qn X Dx:=by
 obtain⟨r,h1,h2⟩:=(h_:Qn X Vn);refine⟨_,h1.or EH,λ x d lo hi H M Q2 Q hd hm q k=>?_⟩;cases d with
 |tup ds=>
  by_cases hw:HT.cf ds.length 0 lo=0/\HT.cf ds.length ds.length hi=ds.length
  ·have q:Q2 (.tup (cutD ds lo hi)) M:=q;have e:cutD ds lo hi=ds:=by unfold cutD;rw[hw.1,hw.2];simp
   rw[e]at q;obtain⟨p,xs,rfl,h,hx⟩:=aU.mp hd;exact .inr ⟨p,xs,rfl,h,by rw[hx.length];exact hw,k _ H _ M (aU.mpr ⟨p,xs,rfl,h,hx⟩) hm (aw.refl H) q⟩
  ·exact .inl (h2 x (.tup ds) lo hi H M Q2 Q hd hm ⟨hw,q⟩ k)
 |str z=>exact .inl (h2 x (.str z) lo hi H M Q2 Q hd hm q k)
 |ref a=>exact .inl (h2 x (.ref a) lo hi H M Q2 Q hd hm q k)
 |_=>exact q.elim
end
section
variable {M:Mem}{Q:bR}
theorem xF{ds:List D}{i:Int}(h0:0<=i):cutD ds none (some i)=ds.take i.toNat:=by
 unfold cutD;have e:HT.cf ds.length ds.length (some i)=min i.toNat ds.length:=by show(if i < 0 then(i+(ds.length:Int)).toNat else min i.toNat ds.length)=_;rw[J9 (by omega)]
 rw[e];show(ds.drop 0).take (min i.toNat ds.length - 0)=_;rw[drop_zero,Nat.sub_zero,take_eq_take_iff];omega
theorem rj{ds:List D}{i:Int}(h0:0<=i)(q:Q (.tup (ds.take i.toNat)) M):Dx (.tup ds) none (some i) M Q:=by show Q (.tup (cutD ds none (some i))) M;rw[xF h0];exact q
theorem EY{z:Str}{lo hi:Option Int}(h:z.length<=sizeLine)(q:Q (.str (nK z lo hi)) M):Dx (.str z) lo hi M Q:=⟨h,q⟩
theorem EZ{a:Addr}{ds:List D}{lo hi:Option Int}(h:M a=some (.lst ds))(q:∀p,M p=none->Q (.ref p) (ah M p (.lst (cutD ds lo hi)))):Dx (.ref a) lo hi M Q:=by show(match bc M a with|some ds=>∀p,M p=none->Q (.ref p) (ah M p (.lst (cutD ds lo hi)))|none=>False);unfold bc;rw[h];exact q
theorem oq{a:Addr}{ds:List D}{i:Int}(h:M a=some (.lst ds))(h0:0<=i)(q:∀p,M p=none->Q (.ref p) (ah M p (.lst (ds.take i.toNat)))):Dx (.ref a) none (some i) M Q:=by refine EZ h ?_;rw[xF h0];exact q
end
end L3
namespace L3
open PySem PySem.Spec L2 L5
section
variable {g:fQ}{tt:eM}{te:cw}{tb:jg}{δ δc:dk}{M1:Mem}{Qe:List D->Mem->Prop}{E:jb}
theorem DF{src:Src}{ds:List D}(Pv:Nat->List D->Mem->Prop)(h0:Pv 0 [] M1)(hl:∀i acc M,i<=ds.length->Pv i acc M->items src M=some ds)(hz:∀i acc M,i<=ds.length->Pv i acc M->acc.length<=sizeLine) (hs:∀i d acc M,ds[i]?=some d->Pv i acc M->g d δc M λ δ2 M2=>tt δ2 M2 λ b M3=>if b=true then te δ2 M3 λ y M4=>Pv (i+1) (acc++[y]) M4 else Pv (i+1) acc M3) (hd:∀acc M,Pv ds.length acc M->Qe acc M):∃(B:Nat) (W:Nat->List D->Mem->Prop),W 0 [] M1/\∀i acc M,W i acc M->i<=B/\acc.length<=sizeLine/\match items src M with
   |none=>False
   |some ds=>match ds[i]? with
    |none=>i=ds.length/\Qe acc M
    |some d=>g d δc M λ δ2 M2=>tt δ2 M2 λ b M3=>if b=true then te δ2 M3 λ y M4=>W (i+1) (acc++[y]) M4 else W (i+1) acc M3:=by
 refine⟨ds.length,λ i acc M=>if i<=ds.length then Pv i acc M else False,by dsimp only;rw[J8 (G7 _)];exact h0,?_⟩;intro i acc M w;by_cases hi:i<=ds.length
 ·rw[J8 hi]at w;refine⟨hi,hz i acc M hi w,?_⟩;rw[hl i acc M hi w];show(match ds[i]? with
    |none=>i=ds.length/\Qe acc M
    |some d=>g d δc M λ δ2 M2=>tt δ2 M2 λ b M3=>if b=true then te δ2 M3 λ y M4=>(if i+1<=ds.length then Pv (i+1) (acc++[y]) M4 else False)else(if i+1<=ds.length then Pv (i+1) acc M3 else False))
  cases e:ds[i]? with
  |none=>have:i=ds.length:=B8 hi (i0.mp e);subst this;exact⟨rfl,hd acc M w⟩
  |some d=>have eR:i+1<=ds.length:=(g9.mp e).1;simp only[J8 eR];exact hs i d acc M e w
 ·rw[J9 hi]at w;exact w.elim
end
end L3
namespace L3
open PySem PySem.Spec L2 L5 PyProof.Rows
def Pl:Nat->D->Prop
 |0,d=>d=.bM\/(∃i,d=.int i)\/∃x,d=.str x/\PyData.strOk x=true
 |k+1,d=>d=.bM\/(∃i,d=.int i)\/(∃x,d=.str x/\PyData.strOk x=true)\/∃ds,d=.tup ds/\∀e∈ds,Pl k e
theorem gw(k:Nat)(i:Int):Pl k (.int i):=by
 cases k with
 |zero=>exact .inr (.inl ⟨i,rfl⟩)
 |succ k=>exact .inr (.inl ⟨i,rfl⟩)
theorem uF{k:Nat}{ds:List D}(h:∀e∈ds,Pl k e):Pl (k+1) (.tup ds):=.inr (.inr (.inr ⟨ds,rfl,h⟩))
theorem lV{α:Type}{k:Nat}{xs:List α}{enc:α->D}(h:∀x∈xs,Pl k (enc x)):∀e∈xs.map enc,Pl k e:=λ e he=>by obtain⟨x,hx,rfl⟩:=D7.mp he;exact h x hx
structure Vs(k:Nat)(d:D):Prop where
 nr:nr d=true
 lay:(toP d).canLay0=true
 dep:(toP d).depth<=k
structure Uh(k:Nat)(ds:List D):Prop where
 nr:pK ds=true
 lay:PyData.canLayAll0 (toPs ds)=true
 dep:PyData.depthAll (toPs ds)<=k
theorem iP{k:Nat}:∀{ds:List D},(∀e∈ds,Vs k e)->Uh k ds
 |[],_=>⟨by unfold pK;rfl,by unfold toPs;simp[PyData.canLayAll0],by unfold toPs;simp[PyData.depthAll]⟩
 |d::ds,h=>by
  have h1:=h d (o8 ..);have h2:=iP (ds:=ds) λ e he=>h e (k9 _ he);refine⟨?_,?_,?_⟩
  ·unfold pK;rw[h1.nr,h2.nr];rfl
  ·unfold toPs;simp only[PyData.canLayAll0];rw[h1.lay,h2.lay];rfl
  ·unfold toPs;simp only[PyData.depthAll];exact Nat.max_le.mpr ⟨h1.dep,h2.dep⟩
theorem Pl.f:∀{k:Nat} {d:D},Pl k d->Vs k d
 |0,d,h=>by
  rcases h with rfl|⟨i,rfl⟩|⟨x,rfl,hx⟩
  ·exact⟨by unfold L3.nr;rfl,by unfold toP;simp[PyData.canLay0],by unfold toP;simp[PyData.depth]⟩
  ·exact⟨by unfold L3.nr;rfl,by unfold toP;simp[PyData.canLay0],by unfold toP;simp[PyData.depth]⟩
  ·exact⟨by unfold L3.nr;rfl,by unfold toP;simp[PyData.canLay0,hx],by unfold toP;simp[PyData.depth]⟩
 |k+1,d,h=>by
  rcases h with rfl|⟨i,rfl⟩|⟨x,rfl,hx⟩|⟨ds,rfl,h⟩
  ·exact⟨by unfold L3.nr;rfl,by unfold toP;simp[PyData.canLay0],by unfold toP;simp[PyData.depth]⟩
  ·exact⟨by unfold L3.nr;rfl,by unfold toP;simp[PyData.canLay0],by unfold toP;simp[PyData.depth]⟩
  ·exact⟨by unfold L3.nr;rfl,by unfold toP;simp[PyData.canLay0,hx],by unfold toP;simp[PyData.depth]⟩
  ·have q:=iP λ e he=>Pl.f (h e he);refine⟨?_,?_,?_⟩
   ·unfold L3.nr;exact q.nr
   ·unfold toP;simp only[PyData.canLay0];exact q.lay
   ·unfold toP;simp only[PyData.depth];have:=q.dep;omega
theorem mJ{k:Nat}(ih:∀x y:D,Pl k x->Pl k y->(PyData.eqv (toP x) (toP y)=true↔x=y)):∀{ds es:List D},(∀e∈ds,Pl k e)->(∀e∈es,Pl k e)->(PyData.eqvAll (toPs ds) (toPs es)=true↔ds=es)
 |[],[],_,_=>by unfold toPs;simp[PyData.eqvAll]
 |[],e::es,_,_=>by unfold toPs;simp[PyData.eqvAll]
 |d::ds,[],_,_=>by unfold toPs;simp[PyData.eqvAll]
 |d::ds,e::es,h1,h2=>by have a:=ih d e (h1 d (o8 ..)) (h2 e (o8 ..));have b:=mJ ih (ds:=ds) (es:=es) (λ x hx=>h1 x (k9 _ hx)) (λ x hx=>h2 x (k9 _ hx));unfold toPs;simp only[PyData.eqvAll,z9,a,b,List.cons.injEq]
theorem gX:∀{k:Nat} (x y:D),Pl k x->Pl k y->(PyData.eqv (toP x) (toP y)=true↔x=y)
 |0,x,y,hx,hy=>by rcases hx with rfl|⟨i,rfl⟩|⟨z,rfl,_⟩ <;> rcases hy with rfl|⟨j,rfl⟩|⟨w,rfl,_⟩ <;> simp[toP,PyData.eqv]
 |k+1,x,y,hx,hy=>by
  rcases hx with rfl|⟨i,rfl⟩|⟨z,rfl,_⟩|⟨ds,rfl,hd⟩ <;> rcases hy with rfl|⟨j,rfl⟩|⟨w,rfl,_⟩|⟨es,rfl,he⟩ <;> first
   |(simp[toP,PyData.eqv];done)
   |(have:=mJ (λ x y=>gX (k:=k) x y) hd he
     unfold toP;simp only[PyData.eqv,D.tup.injEq];exact this)
theorem Di{k:Nat}{x y:D}(hx:Pl k x)(hy:Pl k y){b:Bool}(hb:b=true↔x=y):PyData.eqv (toP x) (toP y)=b:=by rw[A5];exact(gX x y hx hy).trans hb.symm
theorem lL{k:Nat}{ds:List D}(h:∀e∈ds,Pl k e)(hk:k<=60):SeqAt.shaped (.list (toPs ds))=true:=by
 have f:=iP λ e he=>(h e he).f;have h1:(PyData.list (toPs ds)).canLay0=true:=by simp only[PyData.canLay0];exact f.lay
 have h2:(PyData.list (toPs ds)).depth<=64:=by simp only[PyData.depth];have:=f.dep;omega
 unfold SeqAt.shaped;rw[h1,C0 h2];rfl
section
variable {M:Mem}{Q:bR}
theorem wB{k:Nat}{p:Addr}{ds:List D}(hM:M p=some (.lst ds))(h:∀e∈ds,Pl k e):rC M (.ref p)=some (.list (toPs ds)):=by have f:=iP λ e he=>(h e he).f;unfold rC;simp only[hM];rw[J8 f.nr]
theorem zp{k:Nat}{ds es:List D}(h1:∀e∈ds,Pl k e)(h2:∀e∈es,Pl k e){b:Bool}(hb:b=true↔ds=es):PyData.eqv (.list (toPs ds)) (.list (toPs es))=b:=by rw[A5];have:=mJ (λ x y=>gX (k:=k) x y) h1 h2;simp only[PyData.eqv];exact this.trans hb.symm
theorem Fe{k:Nat}{p p2:Addr}{ds es:List D}{b:Bool}(hM:M p=some (.lst ds))(TR:M p2=some (.lst es))(h1:∀e∈ds,Pl k e)(h2:∀e∈es,Pl k e)(hk:k<=60)(hb:b=true↔ds=es)(q:Q (.bl (!b)) M):vv true (.ref p) (.ref p2) M Q:=by refine .inr ⟨_,_,wB hM h1,wB TR h2,lL h1 hk,lL h2 hk,?_⟩;rw[zp h1 h2 hb];exact q
end
section
variable {X:Cx}
theorem jy{A:Around}{s:Shared}{v:Value}{y:PyData}{bs:List Addr}(ry:Reads s.heap v y bs)(cy:y.canLay0=true)(hu:A.units+y.depth < cLine):∀{ds:List D} {us:List Value} {as:List Addr},ReadsAll s.heap us (toPs ds) as->PyData.canLayAll0 (toPs ds)=true->
  ∃e:Value->Bool,(∀u∈us,SeqAt.EqAt A s u v (e u))/\us.map e=ds.map λ d=>PyData.eqv (toP d) y:=by
 intro ds us as ra cl;refine⟨λ u=>PyData.eqv (SeqAt.readOf s.heap u) y,λ u Nu=>?_,?_⟩
 ·obtain⟨d,Yb,rd,cd,_⟩:=SeqAt.readsAll_mem _ _ _ cl ra u Nu;have e:=SeqAt.readOf_eq cd rd;dsimp only;rw[e];exact SeqAt.eqAt_reads d y A s u v _ _ rd ry cd cy (by omega)
 ·have e:=SeqAt.readsAll_map _ _ _ cl ra;have f:∀(us:List Value) (ds:List D),us.map (SeqAt.readOf s.heap)=toPs ds->us.map (λ u=>PyData.eqv (SeqAt.readOf s.heap u) y)=ds.map λ d=>PyData.eqv (toP d) y:=by
   intro us
   induction us with
   |nil=>
    intro ds q;cases ds with
    |nil=>rfl
    |cons d r=>unfold toPs at q;cases q
   |cons u us ih=>
    intro ds q;cases ds with
    |nil=>unfold toPs at q;cases q
    |cons d r=>
     unfold toPs at q;rw[C9]at q;injection q with q1 q2
     rw[C9,C9,ih r q2,q1]
  exact f us ds e
structure Qr(K:K2)(H:Hp)(b:Bool)(p:Addr)(xs:List V)(ds:List D)(x:V)(d:D):Prop where
 sq:Sq b K H p xs
 HQ:aB K H ds xs
 dat:Dat K H d x
 ns:pK ds=true
 n:nr d=true
 yY:PyData.canLayAll0 (toPs ds)=true
 lay:(toP d).canLay0=true
 dep:(toP d).depth < 62
theorem any_map{α:Type}(us:List α)(e:α->Bool)(bs:List Bool)(h:us.map e=bs):us.any e=bs.any id:=by rw[<- h,List.any_map];rfl
theorem LG(neg:Bool)(hu:X.A.units+64 < cLine):fF X (compareOp (if neg then .NotIn else .In)) (λ x y H Q=>∃(b:Bool) (p:Addr) (xs:List V) (ds:List D) (d:D),y=.ref p/\Qr X.K H b p xs ds x d/\Q (.bl (if neg then !ds.any (λ e=>PyData.eqv (toP e) (toP d))else ds.any λ e=>PyData.eqv (toP e) (toP d))) H):=by
 intro pins s σ H x y v u Q I rx ry h;obtain⟨b,p,xs,ds,d,rfl,ok,q⟩:=h;cases ry;obtain⟨bs,rb⟩:=N_ I d ok.n ok.dat rx;have hd:=ok.dep;cases b with
 |false=>
  obtain⟨av,r,pl,hz⟩:=I.list ok.sq;obtain⟨as,ra⟩:=rA I ds ok.ns ok.HQ r;obtain⟨e,e1,e2⟩:=jy (A:=X.A.in1) rb ok.lay (by show X.A.units+1+_ < _;omega) ra ok.yY;have e3:av.toArray.any e=ds.any λ e=>PyData.eqv (toP e) (toP d):=by rw[show av.toArray.any e=av.any e by simp,any_map _ _ _ e2,List.any_map];rfl
  cases neg with
  |false=>exact SeqAt.in_listAt e pl.isList (λ w hw=>e1 w (by simpa using hw)) ⟨.bl _,H,I,rfl,by rw[e3];exact q⟩
  |true=>exact SeqAt.notIn_listAt e pl.isList (λ w hw=>e1 w (by simpa using hw)) ⟨.bl _,H,I,rfl,by rw[e3];exact q⟩
 |true=>
  obtain⟨av,r,pl,hz⟩:=I.tuple ok.sq;obtain⟨as,ra⟩:=rA I ds ok.ns ok.HQ r;obtain⟨e,e1,e2⟩:=jy (A:=X.A.in1) rb ok.lay (by show X.A.units+1+_ < _;omega) ra ok.yY;have e3:av.toArray.any e=ds.any λ e=>PyData.eqv (toP e) (toP d):=by rw[show av.toArray.any e=av.any e by simp,any_map _ _ _ e2,List.any_map];rfl
  cases neg with
  |false=>exact SeqAt.in_tupleAt e pl (λ w hw=>e1 w (by simpa using hw)) ⟨.bl _,H,I,rfl,by rw[e3];exact q⟩
  |true=>exact SeqAt.notIn_tupleAt e pl (λ w hw=>e1 w (by simpa using hw)) ⟨.bl _,H,I,rfl,by rw[e3];exact q⟩
end
end L3
namespace L3
open PySem PySem.Spec L2 L5 PyProof.Rows
section
variable {X:Cx}
def Jo:List D->Mem->bR->Prop:=λ ds M Q=>∃ns:List Int,ds=ns.map D.int/\Q (.int ns.sum) M
theorem vX:jR MH Jo:=λ ds M p Q hp hz q=>by obtain⟨ns,rfl,q⟩:=q;exact⟨.ref p,_,ns,rfl,jz,rfl,M,(ko.refl M).put hp,q⟩
def Jp:List D->Mem->bR->Prop:=λ xs M Q=>∃i j,xs=[.int i,.int j]/\Q (.int (max i j)) M
theorem Qi(hc:X.calm=true):dM X (.builtin "max") Jp:=⟨_,zA hc,λ xs ds H M Q2 Q hd hm q k=>by
 obtain⟨i,j,rfl,q⟩:=q;obtain⟨v,r,rfl,hv,hr⟩:=ag.mp hd;obtain⟨v2,r2,rfl,O5,HA⟩:=ag.mp hr;cases(aq.mp HA);cases(ax.mp hv);cases(ax.mp O5);refine⟨i,j,rfl,k _ H _ M (ax.mpr rfl) hm (aw.refl H) ?_⟩;have e:(if j > i then j else i)=max i j:=by split <;> omega
 rw[e];exact q⟩
def Js:List D->Mem->bR->Prop:=λ xs M Q=>(∃b,xs=[.bl b]/\Q (.int (if b then 1 else 0)) M)\/∃i,xs=[.int i]/\Q (.int i) M
theorem mQ:dM X (.type "int") Js:=⟨_,zC,λ xs ds H M Q2 Q hd hm q k=>by
 rcases q with⟨b,rfl,q⟩|⟨b,rfl,q⟩
 ·obtain⟨v,r,rfl,hv,hr⟩:=ag.mp hd;cases(aq.mp hr);cases(bq.mp hv);exact .inr ⟨b,rfl,k _ H _ M (ax.mpr rfl) hm (aw.refl H) q⟩
 ·obtain⟨v,r,rfl,hv,hr⟩:=ag.mp hd;cases(aq.mp hr);cases(ax.mp hv);exact .inl ⟨b,rfl,k _ H _ M (ax.mpr rfl) hm (aw.refl H) q⟩⟩
def PZ:gH:=λ x y M Q=>∃l k ds,x=.ref l/\y=.int k/\M l=some (.lst ds)/\-(2^63)<=k/\k < 2^63/\ds.length*k.toNat<=sizeLine/\∀p,M p=none->Q (.ref p) (ah M p (.lst (List.replicate k.toNat ds).flatten))
def sM:gH:=λ x y M Q=>sN x y M Q\/PZ x y M Q
theorem eZ:fX X (binaryOp .Mult) sM:=LU.or ⟨_,Ly,λ x y d e H M Q2 Q hd he hm q k=>by
 obtain⟨l,n,ds,rfl,rfl,hM,h1,h2,hz,q⟩:=q;cases(aE.mp hd);cases(ax.mp he);obtain⟨xs,hx,Rp⟩:=hm l _ hM;exact⟨l,n,xs,rfl,rfl,hx,h1,h2,by rw[Rp.length];exact hz,λ p hp=>k _ _ (.ref p) _ (aE.mpr rfl) (cX hp (mL Rp n.toNat) hm) (aw.laid hp) (q p (hm.free hp))⟩⟩
structure Uq(M:Mem)(x y:D)(ds:List D):Prop where
 sq:cz M y=some ds
 ns:pK ds=true
 n:nr x=true
 yY:PyData.canLayAll0 (toPs ds)=true
 lay:(toP x).canLay0=true
 dep:(toP x).depth < 62
def MK(neg:Bool):gH:=λ x y M Q=>∃ds,Uq M x y ds/\Q (.bl (if neg then !ds.any (λ e=>PyData.eqv (toP e) (toP x))else ds.any λ e=>PyData.eqv (toP e) (toP x))) M
theorem IV(neg:Bool)(hu:X.A.units+64 < cLine):fX X (compareOp (if neg then .NotIn else .In)) (MK neg):=⟨_,LG neg hu,λ x y d e H M Q2 Q hd he hm q k=>by
 obtain⟨ds,ok,q⟩:=q;obtain⟨p,xs,rfl,q1,x1⟩:=pb ok.sq he hm;exact⟨_,p,xs,ds,d,rfl,⟨q1,x1,hd,ok.ns,ok.n,ok.yY,ok.lay,ok.dep⟩,k _ H _ M (bq.mpr rfl) hm (aw.refl H) q⟩⟩
def HS:gH:=λ x y M Q=>Rz x y M Q\/MK false x y M Q
theorem wK(hu:X.A.units+64 < cLine):fX X (compareOp .In) HS:=Sv.or (IV false hu)
def xC:gH:=λ x y M Q=>∃i j,x=.str i/\y=.str j/\Q (.bl (!(!(Builtin.Str.occurrences j i 0 j.length 1).isEmpty))) M
theorem BQ:fX X (compareOp .NotIn) xC:=⟨_,pG,λ x y d e H M Q2 Q hd he hm q k=>by
 obtain⟨i,j,rfl,rfl,q⟩:=q;cases(aY.mp hd);cases(aY.mp he);exact⟨i,j,rfl,rfl,k _ H _ M (bq.mpr rfl) hm (aw.refl H) q⟩⟩
def qg:gH:=λ x y M Q=>xC x y M Q\/MK true x y M Q
theorem gy(hu:X.A.units+64 < cLine):fX X (compareOp .NotIn) qg:=BQ.or (IV true hu)
structure Qq(ds:List D)(y:D)(j:Nat):Prop where
 lt:j < ds.length
 hit:∀e,ds[j]?=some e->PyData.eqv (toP e) (toP y)=true
 no:∀m e,m < j->ds[m]?=some e->PyData.eqv (toP e) (toP y)=false
def vq:D->List D->Mem->bR->Prop:=λ x vs M Q=>∃p ds y j,x=.ref p/\vs=[y]/\M p=some (.lst ds)/\Uq M y x ds/\Qq ds y j/\Q (.int (j:Nat)) M
theorem eD(hu:X.A.units+64 < cLine):Ip X "list.index" vq:=⟨λ x vs H Q=>∃p ds xs d y j,x=.ref p/\vs=[y]/\Qr X.K H false p xs ds y d/\Qq ds d j/\Q (.int (j:Nat)) H,by
  intro pins s σ H x xs v us Q I rx rv h;obtain⟨p,ds,zs,d,y,j,rfl,rfl,ok,ix,q⟩:=h;cases(show v=Value.ref p from rx);obtain⟨u,rfl,ru⟩:=rv.one;have hd:=ok.dep;obtain⟨bs,rb⟩:=N_ I d ok.n ok.dat ru;obtain⟨av,r,pl,hz⟩:=I.list ok.sq;obtain⟨as,ra⟩:=rA I ds ok.ns ok.HQ r;obtain⟨e,e1,e2⟩:=jy (A:=X.A.in1) rb ok.lay (by show X.A.units+1+_ < _;omega) ra ok.yY;obtain⟨⟨c,dd,da,sl⟩,ho,hc,n,pX⟩:=pl.isList;cases(show c=.type "list" from hc);cases(show da=.seq av.toArray n from pX);have l1:=r.length;have l2:=ok.HQ.length;have eR:=ix.lt;have at_:∀m (hm:m < av.length) (sm:m < ds.length),e av[m]=PyData.eqv (toP ds[m]) (toP d):=λ m hm sm=>by have:=J5 (·[m]?) e2;simp only[u9,i5 hm,i5 sm,Option.map_some,Option.some.injEq]at this;exact this
  have hs:ds.length<=16777216:=by
   have h2:zs.length<=sizeLine:=hz;have h3:sizeLine=16777216:=by decide
   omega
  refine J1 PySem.F.slot_list_index ⟨_,ho,rfl⟩ PySem.F.entry_list_index (PySem.F.args_list_index_2 _ _) (SeqAt.list_indexAt p av.toArray n dd sl u e j (by simp;omega) (by omega) ?_ ?_) ⟨ho,λ y hy=>e1 y (by simpa using hy),?_⟩
  ·have:=at_ j (by omega) eR;simp only[getElem_toArray];rw[this];exact ix.hit _ (i5 eR)
  ·intro m hm WC;have fu:m < av.length:=by simpa using hm
   have:=at_ m fu (by omega);simp only[getElem_toArray];rw[this];exact ix.no m _ WC (i5 (by omega))
  ·exact⟨.int _,H,I.tok _,⟨_,rfl⟩,q⟩,λ x xs d ds H M Q2 Q hx hd hm q k=>by
  obtain⟨p,es,y,j,rfl,rfl,hM,ok,ix,q⟩:=q;cases(aE.mp hx);obtain⟨v,r,rfl,hv,hr⟩:=ag.mp hd;cases(aq.mp hr);obtain⟨zs,hz,iW⟩:=hm p _ hM;exact⟨p,es,zs,y,v,j,rfl,rfl,⟨dn.of hz,iW,hv,ok.ns,ok.n,ok.yY,ok.lay,ok.dep⟩,ix,k _ H _ M (ax.mpr rfl) hm (aw.refl H) q⟩⟩
def P0:D->List D->Mem->bR->Prop:=λ x vs M Q=>(∃p ds y,x=.ref p/\vs=[]/\M p=some (.lst ds)/\ds[ds.length - 1]?=some y/\Q y (ah M p (.lst ds.dropLast)))\/
 ∃p ds i k y,x=.ref p/\vs=[.int i]/\M p=some (.lst ds)/\-(2^63)<=i/\i < 2^63/\seqIndex? i ds.length=some k/\ds[k]?=some y/\Q y (ah M p (.lst (ds.eraseIdx k)))
theorem aB.eraseIdx {K:K2}{H:Hp}:∀{ds:List D} {xs:List V} (n:Nat),aB K H ds xs->aB K H (ds.eraseIdx n) (xs.eraseIdx n)
 |[],xs,n,h=>by rw[aq]at h;subst h;simp[aq]
 |d::ds,xs,0,h=>by obtain⟨x,r,rfl,a,b⟩:=ag.mp h;exact b
 |d::ds,xs,n+1,h=>by obtain⟨x,r,rfl,a,b⟩:=ag.mp h;rw[eraseIdx_cons_succ,eraseIdx_cons_succ,ag];exact⟨x,_,rfl,a,b.eraseIdx n⟩
theorem aB.dropLast {K:K2}{H:Hp}{ds:List D}{xs:List V}(h:aB K H ds xs):aB K H ds.dropLast xs.dropLast:=by rw[dropLast_eq_take,dropLast_eq_take,h.length];exact h.take _
theorem Jw.or {id:String}{r r':V->List V->Hp->VK->Prop}(h:Jw X id r)(h':Jw X id r'):Jw X id (λ x vs H Q=>r x vs H Q\/r' x vs H Q):=by
 intro pins s σ H x xs v us Q I a b q;rcases q with q|q
 ·exact h pins s σ H x xs v us Q I a b q
 ·exact h' pins s σ H x xs v us Q I a b q
theorem OQ:Ip X "list.pop" P0:=⟨_,Jw.or L1 BV,λ x xs d ds H M Q2 Q hx hd hm q k=>by
 rcases q with⟨p,es,y,rfl,rfl,hM,hy,q⟩|⟨p,es,i,j,y,rfl,rfl,hM,h1,h2,hs,hy,q⟩
 ·cases(aE.mp hx);cases(aq.mp hd);obtain⟨zs,h1,h2⟩:=hm p _ hM;obtain⟨v,hv,S0⟩:=h2.get hy;have t:=aw.lst (o:=.lst zs.dropLast) h1;exact .inl ⟨p,zs,v,rfl,rfl,h1,by rw[h2.length];exact hv,k _ _ y _ (Dat.mono t y S0) (hm.put (u:=.lst es.dropLast) t ⟨_,bW,aB.mono t _ h2.dropLast⟩) t q⟩
 ·cases(aE.mp hx);obtain⟨v0,r,rfl,Wf,hr⟩:=ag.mp hd;cases(aq.mp hr);cases(ax.mp Wf);obtain⟨zs,g1,g2⟩:=hm p _ hM;obtain⟨v,hv,S0⟩:=g2.get hy;have t:=aw.lst (o:=.lst (zs.eraseIdx j)) g1;exact .inr ⟨p,zs,i,j,v,rfl,rfl,g1,h1,h2,by rw[g2.length];exact hs,hv,k _ _ y _ (Dat.mono t y S0) (hm.put (u:=.lst (es.eraseIdx j)) t ⟨_,bW,aB.mono t _ (g2.eraseIdx j)⟩) t q⟩⟩
end
theorem yl{K:K2}{i j l:Nat}:∀v σ H Q,Iu K (ny 3 (cN (hName i) (cN (hName j) (cN (hName l) nA)))) v σ H Q->sv K 3 (dH (cB i) (dH (cB j) (dH (cB l) pY))) v σ H Q:=λ v σ H Q ⟨d,δ,M,Q2,hd,hs,hm,q,k⟩=>by
 cases d with
 |tup ds=>
  obtain⟨p,xs,rfl,hq,hx⟩:=aU.mp hd;obtain⟨hl,q⟩:=q
  match ds,hl,hx,q with
  |[a,b,c],hl,hx,q=>obtain⟨x,r,rfl,ha,hx⟩:=ag.mp hx;obtain⟨y,r,rfl,hb,hx⟩:=ag.mp hx;obtain⟨z,r,rfl,hc,hx⟩:=ag.mp hx;cases(aq.mp hx);exact⟨p,[x,y,z],rfl,hq,rfl,x,[y,z],rfl,y,[z],rfl,z,[],rfl,rfl,k _ H _ M (((hs.set ha).set hb).set hc) hm (aw.refl H) q⟩
 |_=>exact q.elim
section
variable {X:Cx}{scope:Scope}{tgs:List Str}{fr:List Nat}
theorem Eu{i j l k:Nat}{x y z:Str}{px py pz pt:Pos}(h:∀cl C fp s H,PG (bH X scope cl tgs fr C fp s H) (.Tuple [.Name x px,.Name y py,.Name z pz] k pt) (sv X.K 3 (dH (cB i) (dH (cB j) (dH (cB l) pY)))))(hi:i < tgs.length)(hj:j < tgs.length)(hl:l < tgs.length):Qk X scope tgs fr (.Tuple [.Name x px,.Name y py,.Name z pz] k pt) (ny 3 (cN (hName i) (cN (hName j) (cN (hName l) nA)))):=
 ⟨_,h,De (iX (gW hi) (iX (gW hj) (iX (gW hl) Df eE mD) eE (kQ eE mD)) eE (kQ eE (kQ eE mD))),yl⟩
end
end L3
namespace L4
open PySem PySem.Spec L2 L3 L5
section
variable {X:Cx}{scope:Scope}{tgs:List Str}{fr:List Nat}
theorem z_{i j l k:Nat}{x y z:Str}{px py pz pt:Pos}(h:∀cl C fp s H,PG (bH X scope cl tgs fr C fp s H) (.Tuple [.Name x px,.Name y py,.Name z pz] k pt) (sv X.K 3 (dH (cB i) (dH (cB j) (dH (cB l) pY)))))(hi:i < tgs.length)(hj:j < tgs.length)(hl:l < tgs.length):Ii X scope tgs fr (.Tuple [.Name x px,.Name y py,.Name z pz] k pt) (ny 3 (cN (hName i) (cN (hName j) (cN (hName l) nA)))):=⟨Eu h hi hj hl⟩
end
end L4
namespace L3
open PySem PySem.Spec L2 L5 PyProof.Rows
section
variable {M:Mem}{Q:bR}
theorem ES{i j l:Nat}{a b c:D}{δ:dk}{N:dk->Mem->Prop}(h:N (((δ.set i (some a)).set j (some b)).set l (some c)) M):ny 3 (cN (hName i) (cN (hName j) (cN (hName l) nA))) (.tup [a,b,c]) δ M N:=⟨rfl,h⟩
theorem wq{ns:List Int}(q:Q (.int ns.sum) M):Jo (ns.map D.int) M Q:=⟨ns,rfl,q⟩
theorem Fj{i j:Int}(q:Q (.int (max i j)) M):Jp [.int i,.int j] M Q:=⟨i,j,rfl,q⟩
theorem Be{b:Bool}(q:Q (.int (if b then 1 else 0)) M):Js [.bl b] M Q:=.inl ⟨b,rfl,q⟩
theorem gu{i j:Int}(h:qA i j)(q:Q (.int (i*j)) M):sM (.int i) (.int j) M Q:=.inl (A_ h q)
theorem AW{i:Str}{j:Int}(h:MulOk i j)(q:Q (.str (Txt.mul i j)) M):sM (.str i) (.int j) M Q:=.inl (AZ h q)
theorem rm{d:D}{k:Int}(h0:0<=k)(h1:k<=10000)(q:Q (.tup (List.replicate k.toNat d)) M):sM (.tup [d]) (.int k) M Q:=.inl (AY h0 h1 q)
theorem AX{p:Addr}{d:D}{k:Int}(hM:M p=some (.lst [d]))(h0:0<=k)(h1:k<=10000)(q:∀p,M p=none->Q (.ref p) (ah M p (.lst (List.replicate k.toNat d)))):sM (.ref p) (.int k) M Q:=by
 refine .inr ⟨p,k,[d],rfl,rfl,hM,Int.le_trans (by decide) h0,u7 h1 (by decide),?_,?_⟩
 ·have:[d].length*k.toNat<=10000:=by simp;omega
  exact R7 this
 ·have e:(List.replicate k.toNat [d]).flatten=List.replicate k.toNat d:=by
   generalize k.toNat=n
   induction n with
   |zero=>rfl
   |succ n ih=>rw[m7,x3,ih,m7];rfl
  rw[e];exact q
theorem Fu{x:D}{ds:List D}{b:Bool}(e:inD x ds=some b)(q:Q (.bl b) M):HS x (.tup ds) M Q:=.inl (Ku e q)
theorem wu{x:D}{a:Addr}{ds:List D}{b:Bool}(h:M a=some (.lst ds))(e:inD x ds=some b)(q:Q (.bl b) M):HS x (.ref a) M Q:=.inl (Kv h e q)
theorem du{a:Addr}{ds:List D}(h:M a=some (.lst ds)):cz M (.ref a)=some ds:=by show bc M a=some ds;unfold bc;rw[h]
theorem jB{k:Nat}{x y:D}{ds:List D}(hs:cz M y=some ds)(hx:Pl k x)(hd:∀e∈ds,Pl k e)(hk:k<=60):Uq M x y ds:=by have f:=iP λ e he=>(hd e he).f;exact⟨hs,f.nr,hx.f.nr,f.lay,hx.f.lay,by have:=hx.f.dep;omega⟩
theorem DO{k:Nat}{x:D}{ds:List D}(hx:Pl k x)(hd:∀e∈ds,Pl k e){b:Bool}(hb:b=true↔x∈ds):(ds.any λ e=>PyData.eqv (toP e) (toP x))=b:=by
 rw[A5,hb,List.any_eq_true];constructor
 ·rintro⟨e,he,h⟩;rw[<- (gX e x (hd e he) hx).mp h];exact he
 ·intro h;exact⟨x,h,(gX x x hx hx).mpr rfl⟩
theorem Fv{k:Nat}{x y:D}{ds:List D}{b:Bool}(hs:cz M y=some ds)(hx:Pl k x)(hd:∀e∈ds,Pl k e)(hk:k<=60)(hb:b=true↔x∈ds)(q:Q (.bl b) M):HS x y M Q:=by refine .inr ⟨ds,jB hs hx hd hk,?_⟩;rw[DO hx hd hb];exact q
theorem lR{k:Nat}{x y:D}{ds:List D}{b:Bool}(hs:cz M y=some ds)(hx:Pl k x)(hd:∀e∈ds,Pl k e)(hk:k<=60)(hb:b=true↔x∈ds)(q:Q (.bl (!b)) M):qg x y M Q:=by refine .inr ⟨ds,jB hs hx hd hk,?_⟩;rw[DO hx hd hb];exact q
theorem pN{α:Type}{xs:List α}{enc:α->D}(inj:∀a b,enc a=enc b->a=b)(a:α):enc a∈xs.map enc↔a∈xs:=by
 rw[D7];constructor
 ·rintro⟨b,hb,e⟩;rw[<- inj _ _ e];exact hb
 ·intro h;exact⟨a,h,rfl⟩
theorem fj{α:Type}[DecidableEq α]{k:Nat}{p:Addr}{xs:List α}{a:α}(enc:α->D)(inj:∀a b,enc a=enc b->a=b)(hM:M p=some (.lst (xs.map enc)))(ha:a∈xs)(hp:∀a,Pl k (enc a))(hk:k<=60)(q:Q (.int (xs.idxOf a:Nat)) M):vq (.ref p) [enc a] M Q:=by
 have eR:xs.idxOf a < xs.length:=idxOf_lt_length_of_mem ha;refine⟨p,xs.map enc,enc a,xs.idxOf a,rfl,rfl,hM,jB (du hM) (hp a) (lV λ x _=>hp x) hk,⟨by rw[B5];exact eR,λ e he=>?_,λ m e hm he=>?_⟩,q⟩
 ·rw[u9,i5 eR,getElem_idxOf]at he;cases he;exact(gX _ _ (hp a) (hp a)).mpr rfl
 ·rw[u9,i5 (by omega)]at he;cases he;refine Di (hp _) (hp a) ⟨(λ z=>by cases z),λ z=>?_⟩;have:=inj _ _ z;have dj:=not_of_lt_findIdx (p:=(·==a)) (xs:=xs) (i:=m) hm;exact absurd (show(xs[m]==a)=true by rw[this];simp) (by simpa using dj)
theorem AV{p:Addr}{ds:List D}{j:Nat}{y:D}(hM:M p=some (.lst ds))(hj:ds[j]?=some y)(hz:ds.length<=10000)(q:Q y (ah M p (.lst (ds.eraseIdx j)))):P0 (.ref p) [.int (j:Int)] M Q:=by have hl:j < ds.length:=(g9.mp hj).1;exact .inr ⟨p,ds,j,j,y,rfl,rfl,hM,Int.le_trans (by decide) (Int.natCast_nonneg j),u7 (show(j:Int)<=10000 by omega) (by decide),by rw[seqIndex_of (by omega) (by omega)];simp,hj,q⟩
end
end L3
namespace L5
open PySem PyProof.Rows
abbrev MG(d:Value):List (Str×Value):=[(Str.ofString "default",d)]
theorem zG(a d:Value):argsOk "max" ⟨[a],MG d⟩:=by unfold argsOk;kernel_rfl
section
variable {prog:Program}{w:World}{A:Around}{R:Result->Shared->Prop}{I:Addr}{fp wr:List Addr}{n:Nat}{P:Nat->Value->Prop}{St:Nat->Heap->Prop}{d:Value}
theorem pL:(toString "max"++toString ".loop":String)="max.loop":=by decide
abbrev qt(xs:Array Value)(c:Nat):Obj:={cls:=.type "list",dict:=none,data:=.seq xs c,slots:=#[]}
theorem BX(W:Walks prog w A.in1 I fp wr n P St){S:Addr}(Ny:S∉wr){s:Shared}{vb:Value}{c:Nat}(hst:St n s.heap)(hS:s.heap.get? S=some (qt #[vb,vb] c)) (hR:∀h' tk,(∀b o,b∉wr->b≠S->s.heap.get? b=some o->h'.get? b=some o)->R (.ok (.ret vb)) {s with heap:=h',toks:=tk}):codeAny (model prog w) A (.builtin "max.loop" ⟨[.ref I,.none,.ref S],MG d⟩) R s:=by refine B3 F.entry_max_loop ?_;rw[l6 y9 _];show wpAny _ A.in1 (seqItems? (.ref S) >>= _) _ _ s;refine H0 (C1 hS rfl ?_);show wpAny _ A.in1 (tryCatch (pyNext (.ref I)) _ >>= _) _ _ s;refine H0 (C3 (W.done s _ _ hst λ h' tk hk=>?_));have C_:=hk S _ Ny hS;show wpAny _ A.in1 (updateSeq S (λ _=>#[]) >>= _) _ _ _;refine H0 (B9 C_ rfl (H0 (G9 (H9 ?_))));exact hR _ tk λ b o zN HH e=>(j6 _ _ (J6 HH)).trans (hk b o zN e)
theorem yV(W:Walks prog w A.in1 I fp wr n P St)(bt:Nat->Nat->Bool)(Mu:CmpOf prog w A.in1 .Gt P bt)(S:Addr)(Nz:S∉fp):∀(k j:Nat) (s:Shared) (vb:Value) (c:Nat),n - (j+1)=k->j+1<=n->St (j+1) s.heap->P (argBest bt j) vb->s.heap.get? S=some (qt #[vb,vb] c)->
  (∀v h' tk,P (argBest bt (n - 1)) v->(∀b o,b∉wr->b≠S->s.heap.get? b=some o->h'.get? b=some o)->R (.ok (.ret v)) {s with heap:=h',toks:=tk})->
  codeAny (model prog w) A (.builtin "max.loop" ⟨[.ref I,.none,.ref S],MG d⟩) R s:=by
 have Ny:S∉wr:=λ h=>Nz (W.sub _ h);intro k
 induction k with
 |zero=>
  intro j s vb c hk hj hst Rt hS hR;have e:j+1=n:=by omega
  exact BX W Ny (e▸hst) hS λ h' tk q=>hR vb h' tk (by rw[<- e];exact Rt) q
 |succ k ih=>
  intro j s vb c hk hj hst Rt hS hR;have eR:j+1 < n:=by omega
  refine B3 F.entry_max_loop ?_;rw[l6 y9 _];show wpAny _ A.in1 (seqItems? (.ref S) >>= _) _ _ s;refine H0 (C1 hS rfl ?_);show wpAny _ A.in1 (tryCatch (pyNext (.ref I)) _ >>= _) _ _ s;refine H0 (C3 (W.item (j+1) s _ _ eR hst λ v h' tk hP Hy xi=>?_));have C_:=xi S _ Ny hS;show wpAny _ A.in1 (tryCatch (holding [v,v] (richCompare .Gt v vb >>= _)) _ >>= _) _ _ _;refine H0 (C3 (C5 (H0 (Mu (j+1) (argBest bt j) v vb _ _ _ hP Rt (H0 (C5 (x4 (H0 (G9 (H9 ?_))))))))));cases hb:bt (j+1) (argBest bt j)with
  |true=>simp only[J7];refine H0 (B9 C_ rfl (H0 (G9 ?_)));rw[pL];refine H9 ⟨D3 y9 _,ih (j+1) _ v _ (by omega) eR (W.frame _ _ _ Hy λ b TJ o e=>(j6 _ _ (λ h:S=b=>Nz (by rw[h];exact TJ))).trans e) (by simp only[argBest,hb,J7];exact hP) (j8 _ C_ rfl) λ v' h2 t2 Jl Pn=>?_⟩;exact hR v' h2 t2 Jl λ b o zN HH e=>Pn b o zN HH ((j6 _ _ (J6 HH)).trans (xi b o zN e))
  |false=>simp only[p7,J4];refine H0 (G9 ?_);rw[pL];exact H9 ⟨D3 y9 _,ih (j+1) _ vb c (by omega) eR Hy (by simp only[argBest,hb,p7,J4];exact Rt) C_ λ v' h2 t2 Jl Pn=>hR v' h2 t2 Jl λ b o zN HH e=>Pn b o zN HH (xi b o zN e)⟩
theorem uQ(W:Walks prog w A.in1 I fp wr n P St)(bt:Nat->Nat->Bool)(Mu:CmpOf prog w A.in1 .Gt P bt)(S:Addr)(Nz:S∉fp){s:Shared}{c:Nat}(hst:St 0 s.heap)(hS:s.heap.get? S=some (qt #[] c)) (h0:n=0->∀h' tk,(∀b o,b∉wr->b≠S->s.heap.get? b=some o->h'.get? b=some o)->R (.ok (.ret d)) {s with heap:=h',toks:=tk}) (hR:0 < n->∀v h' tk,P (argBest bt (n - 1)) v->(∀b o,b∉wr->b≠S->s.heap.get? b=some o->h'.get? b=some o)->R (.ok (.ret v)) {s with heap:=h',toks:=tk}):codeAny (model prog w) A (.builtin "max.loop" ⟨[.ref I,.none,.ref S],MG d⟩) R s:=by
 have Ny:S∉wr:=λ h=>Nz (W.sub _ h);refine B3 F.entry_max_loop ?_;rw[l6 y9 _];show wpAny _ A.in1 (seqItems? (.ref S) >>= _) _ _ s;refine H0 (C1 hS rfl ?_);show wpAny _ A.in1 (tryCatch (pyNext (.ref I)) _ >>= _) _ _ s;by_cases hn:0 < n
 ·refine H0 (C3 (W.item 0 s _ _ hn hst λ v h' tk hP Hy xi=>?_));have C_:=xi S _ Ny hS;show wpAny _ A.in1 (updateSeq S (λ _=>#[v,v]) >>= _) _ _ _;refine H0 (B9 C_ rfl ?_);rw[pL];refine H9 ⟨D3 y9 _,yV W bt Mu S Nz _ 0 _ v _ rfl hn (W.frame _ _ _ Hy λ b TJ o e=>(j6 _ _ (λ h:S=b=>Nz (by rw[h];exact TJ))).trans e) hP (j8 _ C_ rfl) λ v' h2 t2 Jl Pn=>?_⟩;exact hR hn v' h2 t2 Jl λ b o zN HH e=>Pn b o zN HH ((j6 _ _ (J6 HH)).trans (xi b o zN e))
 ·have e:n=0:=by omega
  refine H0 (C3 (W.done s _ _ (e▸hst) λ h' tk hk=>?_));exact H0 (J0 (H9 (h0 e h' tk λ b o zN _ q=>hk b o zN q)))
end
end L5
namespace L5
open PySem PyProof.Rows
theorem zE(d:Value):Builtin.Builtins.bindParams "max" ["key","default"] 0 ⟨[],MG d⟩=pure [none,some d]:=by kernel_rfl
section
variable {prog:Program}{w:World}{A:Around}{E:Value->Shared->Prop}{s:Shared}
theorem qk{id:String}{b:Builtin}{args:List Value}{kw:List (Str×Value)}{Q:Value->Shared->Prop}(hk:builtinKind id=none)(hp:plainId id=true)(hb:entryFor table id=some b)(ha:argsOk id ⟨args,kw⟩) (hc:wpAny (model prog w) A.in1 (b ⟨args,kw⟩) (λ fin s'=>match fin with
   | .done f=>(match(Except.ok f:Result)with| .ok (.ret v)=>Q v s'| .ok _=>False| .error e=>E e s')
   | .again c'=>c'.quiet=true/\codeAny (model prog w) A c' (λ r s'=>match r with| .ok (.ret v)=>Q v s'| .ok _=>False| .error e=>E e s') s') E s):wpAny (model prog w) A (call (.builtin id) args kw) Q E s:=by
 refine wpAny_call (codeAny_call_builtin hp hb ?_);simp only[checkBuiltinCall,hk];cases S9:Manifest.signature? id with
 |none=>exact H9 hc
 |some sig=>have W_:Bind.checkArgs id sig ⟨args,kw⟩=pure ():=by{simpa only[argsOk,S9]using ha};simp only[W_];exact H9 hc
theorem zy(hA:A.in1.handled=none){l:Addr}{av:List Value}{ns:List Int}{d:Value}{Q:Value->Shared->Prop}(hl:s.heap.IsList l av.toArray)(hi:IntsAre av ns) (h0:ns=[]->∀h' tk,(∀b o,s.heap.get? b=some o->h'.get? b=some o)->Q d {s with heap:=h',toks:=tk}) (hR:∀m t h' tk,m∈ns->(∀x∈ns,x<=m)->(∀b o,s.heap.get? b=some o->h'.get? b=some o)->Q (.int m t) {s with heap:=h',toks:=tk}):wpAny (model prog w) A (call (.builtin "max") [.ref l] (MG d)) Q E s:=by
 have eR:l < s.heap.objs.size:=by obtain⟨o,e,_⟩:=hl;exact D6 e
 have dj:l≠s.heap.objs.size:=D5 eR;have hlen:av.length=ns.length:=hi.length;refine qk F.kind_max F.plain_max F.entry_max (zG _ _) ?_;show wpAny _ A.in1 (Builtin.Builtins.bindParams "max" ["key","default"] 0 ⟨[],MG d⟩ >>= _) _ _ s;refine H0 (wpAny_of_eq (zE d) (H0 (H9 ?_)));refine H0 (x5 hl (H0 (w9 ?_)));rw[pL];have O4:∀i v,av.toArray[i]?=some v->∃t,v=Value.int (ns.getD i 0) t:=λ i v e=>by
  have e:av[i]?=some v:=by simpa using e
  have h1:i < ns.length:=by rw[<- hlen];exact(g9.mp e).1
  obtain⟨t,e2⟩:=L2.kN hi h1;rw[e]at e2;cases e2;exact⟨t,by simp[c7,h1]⟩
 have sz:(s.heap.push {cls:=.type "list_iterator",data:=.fields #[.ref l,.int 0 0]}).objs.size=s.heap.objs.size+1:=C2 ..;have W:=Walks.list (prog:=prog) (w:=w) hA s.heap.objs.size l dj av.toArray;refine H9 ⟨D3 y9 _,uQ (d:=d) W (λ i j=>decide (ns.getD i 0 > ns.getD j 0)) (CmpOf.ints_gt _ O4) _ ?_ ?_ (m9 _ rfl) ?_ ?_⟩
 ·show(s.heap.push {cls:=.type "list_iterator",data:=.fields #[.ref l,.int 0 0]}).objs.size∉_;rw[sz];simp only[D1,not_mem_nil,or_false,not_or];exact⟨Nat.succ_ne_self _,E8 (x9 eR)⟩
 ·refine W.frame _ _ _ ⟨⟨_,m9 _ rfl,rfl,rfl⟩,hl.at λ o e=>j5 _ e⟩ λ b _ o e=>j5 _ e
 ·intro hn h' tk hk;have e:ns=[]:=j0.mp (by rw[<- hlen];simpa using hn);refine h0 e h' tk λ b o q=>hk b o ?_ ?_ (j5 _ (j5 _ q))
  ·simpa using D5 (D6 q)
  ·have:=D6 q;show b≠(s.heap.push _).objs.size;rw[sz];exact D5 (x9 (D6 q))
 ·intro hn v h' tk hP hk;have hn:0 < av.length:=by simpa using hn
  obtain⟨b1,b2⟩:=argBest_gt (λ i=>ns.getD i 0) (av.length - 1);obtain⟨t,rfl⟩:=O4 _ _ hP;have hm:argBest (λ i j=>decide (ns.getD i 0 > ns.getD j 0)) (av.toArray.size - 1) < ns.length:=by simp only[x8];omega
  refine hR _ t h' tk ?_ ?_ λ b o q=>hk b o ?_ ?_ (j5 _ (j5 _ q))
  ·rw[c7,i5 hm];exact A1 _
  ·intro x hx;obtain⟨j,hj,rfl⟩:=mem_iff_getElem.mp hx;have:=b2 j (by omega);simp only[x8];simpa[c7,hj]using this
  ·simpa using D5 (D6 q)
  ·have:=D6 q;show b≠(s.heap.push _).objs.size;rw[sz];exact D5 (x9 (D6 q))
end
end L5
namespace L2
open PySem PySem.Spec PyProof.Rows L5
def gY(d:Int):List Int->Int
 |[]=>d
 |n::ns=>ns.foldl max n
theorem foldl_max:∀(ns:List Int) (n:Int),n<=ns.foldl max n/\(∀x∈ns,x<=ns.foldl max n)/\(ns.foldl max n=n\/ns.foldl max n∈ns)
 |[],n=>⟨Int.le_refl _,(λ x h=>by cases h),.inl rfl⟩
 |m::ns,n=>by
  obtain⟨h1,h2,h3⟩:=foldl_max ns (max n m);rw[foldl_cons];refine⟨by omega,λ x hx=>?_,?_⟩
  ·rcases D1.mp hx with rfl|hx
   ·omega
   ·exact h2 x hx
  ·rcases h3 with h3|h3
   ·by_cases e:n<=m
    ·exact .inr (by rw[h3];simp[Int.max_eq_right e])
    ·exact .inl (by rw[h3];omega)
   ·exact .inr (k9 _ h3)
theorem Ha{d:Int}{ns:List Int}{m:Int}(h1:m∈ns)(h2:∀x∈ns,x<=m):gY d ns=m:=by
 cases ns with
 |nil=>cases h1
 |cons n ns=>
  obtain⟨g1,g2,g3⟩:=foldl_max ns n;show ns.foldl max n=m;refine Int.le_antisymm ?_ ?_
  ·rcases g3 with g3|g3
   ·rw[g3];exact h2 n (o8 ..)
   ·exact h2 _ (k9 _ g3)
  ·rcases D1.mp h1 with rfl|h1
   ·exact g1
   ·exact g2 m h1
section
variable {X:Cx}{e c:Expr}{te tc:TE}{p pos kp:Pos}
theorem wD(hc:X.calm=true)(hg:Gl X "max")(hm:X.mg "max"=none)(he:PE X e te)(hd:PE X c tc) (hs:starEach [e] X.env=[(false,eval e X.env)]:=by rfl) (mw:backTo pos (starEach [e] X.env)=(false,eval e X.env)::backTo pos (starEach [] X.env):=by rfl) (gb:(backTo pos (starEach [e] X.env)).any (·.1)=false:=by rfl):PE X (.Call (.Name "max" p) [e] [⟨some "default",c,kp⟩] pos) (λ σ H Q=>te σ H λ x H1=>tc σ H1 λ y H2=>∃(l:Addr) (ns:List Int) (d:Int),x=.ref l/\y=.int d/\dn X.K H2 l (ns.map V.int)/\Q (.int (gY d ns)) H2):=by
 intro pins s σ H Q I h;refine r9 (ef I hg hm PyProof.Rows.boot_max ?_ (by decide) (by decide));refine PyProof.Rows.callWith_kw (dF ((fL he ie (by rw[hs];rfl)) pos pins s σ H (λ vs H1=>match vs with|[x]=>tc σ H1 (λ y H2=>∃(l:Addr) (ns:List Int) (d:Int),x=.ref l/\y=.int d/\dn X.K H2 l (ns.map V.int)/\Q (.int (gY d ns)) H2)|_=>False) I h) λ us s1 ⟨vs,H1,I1,r1,q1⟩=>?_) mw gb;cases vs with
 |nil=>exact q1.elim
 |cons x vs=>
  cases vs with
  |cons _ _=>exact q1.elim
  |nil=>
  refine dF ((Gh hd Lj) pos pins s1 σ H1 (λ vs H2=>match vs with|[y]=>∃(l:Addr) (ns:List Int) (d:Int),x=.ref l/\y=.int d/\dn X.K H2 l (ns.map V.int)/\Q (.int (gY d ns)) H2|_=>False) I1 q1) λ ws s2 ⟨zs,H2,I2,rz,e2⟩=>?_;cases zs with
  |nil=>exact e2.elim
  |cons y zs=>
   cases zs with
   |cons _ _=>exact e2.elim
   |nil=>
   obtain⟨l,ns,d,rfl,rfl,hl,q⟩:=e2;obtain⟨u,rfl,ru⟩:=vals1 r1;obtain⟨v,rfl,t,rfl⟩:=vals1 rz;cases(show u=Value.ref l from ru);obtain⟨av,rv,pl,hz⟩:=I2.list hl;refine zy (I2.ok.hd hc) pl.isList (intsAre_of rv) (λ e h' tk hk=>?_) (λ m t h' tk m1 m2 hk=>?_)
   ·subst e;exact⟨.int d,H2,I2.kept (t':=tk) hk,⟨_,rfl⟩,q⟩
   ·rw[Ha m1 m2]at q;exact⟨.int m,H2,I2.kept (t':=tk) hk,⟨_,rfl⟩,q⟩
end
end L2
namespace L3
open PySem PySem.Spec L2 L5 PyProof.Rows
def AJ(k:Int)(wi:kY)(g:fQ)(tt:eM)(te:cw)(n:Nat)(fr:List Nat):cw:=λ δ M Q=>fK wi g tt te n fr δ M λ ds M'=>∃ns:List Int,ds=ns.map D.int/\Q (.int (gY k ns)) M'
def Dy(k:Int)(d:D)(M:Mem)(Q:bR):Prop:=∃(l:Addr) (ns:List Int),d=.ref l/\M l=some (.lst (ns.map D.int))/\Q (.int (gY k ns)) M
def AI(k:Int)(te:cw):cw:=λ δ M Q=>te δ M λ d M1=>Dy k d M1 Q
section
variable {X:Cx}{scope:Scope}{tgs:List Str}{fr:List Nat}{tg elt iter e:Expr}{ifs:List Expr}{p pos kp bS Cz:Pos}{wi:kY}{g:fQ}{tt:eM}{te:cw}{k:Int}{j:_}
theorem K7(hc:X.calm=true)(hg:Gl X "max")(hm:X.mg "max"=none)(C:iD X scope tgs fr tg iter ifs elt wi g tt te) (hs:∀x,foldedSetIterable iter X.env x=pure x:=by intro _;rfl) (CG:starEach [.ListComp elt [⟨tg,iter,ifs,0⟩] scope bS] X.env=[(false,eval (.ListComp elt [⟨tg,iter,ifs,0⟩] scope bS) X.env)]:=by rfl) (mw:backTo pos (starEach [.ListComp elt [⟨tg,iter,ifs,0⟩] scope bS] X.env)=(false,eval (.ListComp elt [⟨tg,iter,ifs,0⟩] scope bS) X.env)::backTo pos (starEach [] X.env):=by rfl) (gb:(backTo pos (starEach [.ListComp elt [⟨tg,iter,ifs,0⟩] scope bS] X.env)).any (·.1)=false:=by rfl):QE X (.Call (.Name "max" p) [.ListComp elt [⟨tg,iter,ifs,0⟩] scope bS] [⟨some "default",.Constant (.int k) j Cz,kp⟩] pos) (AJ k wi g tt te tgs.length fr):=by obtain⟨B,zi,hE,hi,⟨gv,Mt,gk,gl⟩,ht,he⟩:=C;refine b_ (wD hc hg hm (iR (tt:=vT X.K tt) (te:=up X.K te) B zi hE hi Mt gk ht he hs) uG CG mw gb) ?_;rintro σ H Q ⟨δ,M,Q2,hs,hm,q,kk⟩;show lH (Nf X.K wi) gv (vT X.K tt) (up X.K te) tgs.length fr σ H _;refine fz gl hs hm q λ acc xs H' M' p pX fu t' hz hp q'=>?_;obtain⟨ns,rfl,q'⟩:=q';rw[bY pX];exact⟨p,ns,k,rfl,rfl,dn.of bW,kk _ _ (.int _) M' (ax.mpr rfl) (fu.laid hp) (t'.trans (aw.laid hp)) q'⟩
theorem K6(hc:X.calm=true)(hg:Gl X "max")(hm:X.mg "max"=none)(he:QE X e te) (hs:starEach [e] X.env=[(false,eval e X.env)]:=by rfl) (mw:backTo pos (starEach [e] X.env)=(false,eval e X.env)::backTo pos (starEach [] X.env):=by rfl) (gb:(backTo pos (starEach [e] X.env)).any (·.1)=false:=by rfl):QE X (.Call (.Name "max" p) [e] [⟨some "default",.Constant (.int k) j Cz,kp⟩] pos) (AI k te):=by refine b_ (wD hc hg hm he uG hs mw gb) ?_;rintro σ H Q ⟨δ,M,Q2,hs,hm,q,kk⟩;refine⟨δ,M,_,hs,hm,q,λ x H1 d M1 hd cb t1 q1=>?_⟩;obtain⟨l,ns,rfl,hM,q1⟩:=q1;cases(aE.mp hd);obtain⟨ys,hy,hd2⟩:=cb l _ hM;rw[bY hd2]at hy;exact⟨l,ns,k,rfl,rfl,dn.of hy,kk _ _ (.int _) M1 (ax.mpr rfl) cb t1 q1⟩
end
section
variable {δ:dk}{M:Mem}{Q:bR}{wi:kY}{g:fQ}{tt:eM}{te:cw}{n:Nat}{fr:List Nat}{k:Int}
theorem Fi(h:fK wi g tt te n fr δ M λ ds M'=>∃ns:List Int,ds=ns.map D.int/\Q (.int (gY k ns)) M'):AJ k wi g tt te n fr δ M Q:=h
theorem Fh(h:te δ M λ d M1=>Dy k d M1 Q):AI k te δ M Q:=h
theorem Ba{l:Addr}{ns:List Int}(hM:M l=some (.lst (ns.map D.int)))(q:Q (.int (gY k ns)) M):Dy k (.ref l) M Q:=⟨l,ns,rfl,hM,q⟩
end
end L3
namespace L4
open PySem PySem.Spec L2 L3 L5
section
variable {X:Cx}{scope:Scope}{tgs:List Str}{fr:List Nat}{tg elt iter e:Expr}{ifs:List Expr}{p pos kp bS Cz:Pos}{wi:kY}{g:fQ}{tt:eM}{te:cw}{k:Int}{j:_}
theorem JE(hc:X.calm=true)(hg:Gl X "max")(hm:X.mg "max"=none)(C:eX X scope tgs fr tg iter ifs elt wi g tt te) (hs:∀x,foldedSetIterable iter X.env x=pure x:=by intro _;rfl) (CG:starEach [.ListComp elt [⟨tg,iter,ifs,0⟩] scope bS] X.env=[(false,eval (.ListComp elt [⟨tg,iter,ifs,0⟩] scope bS) X.env)]:=by rfl) (mw:backTo pos (starEach [.ListComp elt [⟨tg,iter,ifs,0⟩] scope bS] X.env)=(false,eval (.ListComp elt [⟨tg,iter,ifs,0⟩] scope bS) X.env)::backTo pos (starEach [] X.env):=by rfl) (gb:(backTo pos (starEach [.ListComp elt [⟨tg,iter,ifs,0⟩] scope bS] X.env)).any (·.1)=false:=by rfl):WE X (.Call (.Name "max" p) [.ListComp elt [⟨tg,iter,ifs,0⟩] scope bS] [⟨some "default",.Constant (.int k) j Cz,kp⟩] pos) (AJ k wi g tt te tgs.length fr):=⟨K7 hc hg hm C.h hs CG mw gb⟩
theorem JD(hc:X.calm=true)(hg:Gl X "max")(hm:X.mg "max"=none)(he:WE X e te) (hs:starEach [e] X.env=[(false,eval e X.env)]:=by rfl) (mw:backTo pos (starEach [e] X.env)=(false,eval e X.env)::backTo pos (starEach [] X.env):=by rfl) (gb:(backTo pos (starEach [e] X.env)).any (·.1)=false:=by rfl):WE X (.Call (.Name "max" p) [e] [⟨some "default",.Constant (.int k) j Cz,kp⟩] pos) (AI k te):=⟨K6 hc hg hm he.h hs mw gb⟩
end
end L4
namespace L3
open PySem PySem.Spec L2 L5 PyProof.Rows
def Dm(R:Src->Mem->Prop)(ds:List D)(M1:Mem):Prop:=match ds with
 |[.tup xs]=>R (.fix (dJ xs)) M1
 |[x]=>(∃zs,cz M1 x=some zs)/\R (.fn (hX x)) M1
 |_=>False
theorem Bg{ta:fB}{δ:dk}{M:Mem}{R:Src->Mem->Prop}(h:ta δ M (Dm R)):Cp ta δ M R:=h
theorem Bh{xs:List D}{M:Mem}{R:Src->Mem->Prop}(h:R (.fix (dJ xs)) M):Dm R [.tup xs] M:=h
theorem Bj{a:Addr}{xs:List D}{M:Mem}{R:Src->Mem->Prop}(hM:M a=some (.lst xs))(h:R (.fn (hX (.ref a))) M):Dm R [.ref a] M:=⟨⟨xs,du hM⟩,h⟩
section
variable {g:fQ}{tt:eM}{te:cw}{δ δc:dk}{M1:Mem}{Qe:List D->Mem->Prop}
abbrev Vk{α:Type}(enc:α->D)(p:α×Nat):D:=.tup [.int (p.2:Int),enc p.1]
theorem HX{α:Type}{xs:List α}{enc:α->D}(out:α×Nat->D)(hn:xs.length<=10000) (hs:∀(i:Nat) (x:α) (N:D->Mem->Prop),xs[i]?=some x->N (out (x,i)) M1->g (Vk enc (x,i)) δc M1 λ δ2 M2=>te δ2 M2 N) (hd:Qe (xs.zipIdx.map out) M1):∃(B:Nat) (W:Nat->List D->Mem->Prop),W 0 [] M1/\∀i acc M,W i acc M->i<=B/\acc.length<=sizeLine/\match items (.fix (dJ (xs.map enc))) M with
   |none=>False
   |some ds=>match ds[i]? with
    |none=>i=ds.length/\Qe acc M
    |some d=>g d δc M λ δ2 M2=>q_ δ2 M2 λ b M3=>if b=true then te δ2 M3 λ y M4=>W (i+1) (acc++[y]) M4 else W (i+1) acc M3:=by
 rw[Dl];refine cM (xs:=xs.zipIdx) (enc:=Vk enc) out (by rw[length_zipIdx];exact hn) (λ i x N hx hN=>?_) hd;rw[getElem?_zipIdx]at hx;cases e:xs[i]? with
 |none=>rw[e]at hx;cases hx
 |some y=>rw[e]at hx;have:(y,0+i)=x:=B0 hx;rw[E3]at this;subst this;exact hs i y N e hN
end
end L3
namespace L3
open PySem PySem.Spec L2 L5 PyProof.Rows
inductive NG(K:K2)(H:Hp):List V->List PyData->Prop
 |nil:NG K H [] []
 |cons {x:V} {a:PyData} {xs:List V} {as:List PyData}:MZ K H x a->NG K H xs as->NG K H (x::xs) (a::as)
theorem lay_ints:∀hs:List Int,PyData.canLayAll0 (hs.map PyData.int)=true
 |[]=>by simp[PyData.canLayAll0]
 |h::hs=>by rw[C9,PyData.canLayAll0,lay_ints hs];simp[PyData.canLay0]
theorem sI:∀hs:List Int,PyData.depthAll (hs.map PyData.int)=0
 |[]=>by simp[PyData.depthAll]
 |h::hs=>by rw[C9,PyData.depthAll,sI hs];simp[PyData.depth]
section
variable {X:Cx}
theorem yI{pins:List (Addr×Obj)}{σ:L2.St}{H:Hp}{s:Shared}(I:Inv X pins σ H s){xs:List V}{as:List PyData}(h:NG X.K H xs as):∀{us:List Value},Vals xs us->∃rs,ReadsAll s.heap us as rs:=by
 induction h with
 |nil=>intro us r;cases r;exact⟨_,ReadsAll.nil⟩
 |cons h1 h2 ih=>
  intro us r;cases r with
  |cons r1 r2=>obtain⟨a,ra⟩:=eJ I h1 r1;obtain⟨b,rb⟩:=ih r2;exact⟨_,ReadsAll.cons ra rb⟩
theorem LB(hu:X.A.units+64 < cLine):fF X (compareOp .NotEq) (λ x y H Q=>∃p b xs as,x=.ref p/\y=.ref b/\dn X.K H p xs/\dn X.K H b []/\NG X.K H xs as/\SeqAt.shaped (.list as)=true/\Q (.bl (!as.isEmpty)) H):=by
 intro pins s σ H x y v u Q I rx ry h;obtain⟨p,b,xs,as,rfl,rfl,hp,hb,hy,sh,q⟩:=h;cases(show v=Value.ref p from rx);obtain⟨av,rv,pl,_⟩:=I.list hp;obtain⟨o,ho,hc,m,pX⟩:=pl.isList;obtain⟨rs,ra⟩:=yI I hy rv;obtain⟨Y2,rb⟩:=eJ I (x:=.ref b) (a:=.list []) (.inr ⟨b,[],[],rfl,hb,aq.mpr rfl,rfl,rfl⟩) ry;have e:PyData.eqv (.list as) (.list [])=as.isEmpty:=by cases as <;> simp[PyData.eqv,PyData.eqvAll]
 rw[<- e]at q;exact ne_dataH (reads_list_at ho hc pX ra) rb sh (by decide) hu ⟨.bl (!PyData.eqv (.list as) (.list [])),H,I,rfl,q⟩
def P_:gH:=λ x y M Q=>∃(a b:Addr) (qs:List Addr),x=.ref a/\y=.ref b/\M a=some (.lst (qs.map D.ref))/\M b=some (.lst [])/\(∀q∈qs,∃hs:List Int,M q=some (.lst (hs.map D.int)))/\Q (.bl (!qs.isEmpty)) M
theorem Bs{K:K2}{H:Hp}{M:Mem}(hm:RelM K H M):∀{qs:List Addr} {xs:List V},aB K H (qs.map D.ref) xs->(∀q∈qs,∃hs:List Int,M q=some (.lst (hs.map D.int)))->∃as,NG K H xs as/\as.isEmpty=qs.isEmpty/\PyData.canLayAll0 as=true/\PyData.depthAll as<=2
 |[],xs,h,_=>by cases(aq.mp h);exact⟨[],.nil,rfl,by simp[PyData.canLayAll0],by simp[PyData.depthAll]⟩
 |q::qs,xs,h,k=>by
  obtain⟨x,r,rfl,hx,hr⟩:=ag.mp h;obtain⟨as,h1,_,h3,h4⟩:=Bs hm hr λ q hq=>k q (k9 _ hq);obtain⟨hs,hq⟩:=k q (o8 ..);have e:rC M (.ref q)=some (.list (hs.map PyData.int)):=by unfold rC;simp only[hq];rw[J8 (ma hs),toPs_ints]
  refine⟨_::as,.cons (iN e hx hm) h1,rfl,?_,?_⟩
  ·rw[PyData.canLayAll0,h3];simp[PyData.canLay0,lay_ints]
  ·rw[PyData.depthAll];simp only[PyData.depth,sI];omega
theorem OI(hu:X.A.units+64 < cLine):fX X (compareOp .NotEq) P_:=⟨_,LB hu,λ x y d e H M Q2 Q hd he hm q k=>by
 obtain⟨a,b,qs,rfl,rfl,hM,hb,hq,q⟩:=q;cases(aE.mp hd);cases(aE.mp he);obtain⟨xs,hx,Rp⟩:=hm a _ hM;obtain⟨ys,hy,W2⟩:=hm b _ hb;cases(aq.mp W2);obtain⟨as,h1,h2,h3,h4⟩:=Bs hm Rp hq;refine⟨a,b,xs,as,rfl,rfl,.inl (.inl hx),.inl (.inl hy),h1,?_,?_⟩
 ·unfold SeqAt.shaped;rw[z9,w5];exact⟨by simp only[PyData.canLay0];exact h3,by simp only[PyData.depth];omega⟩
 ·rw[h2];exact k _ H _ M (bq.mpr rfl) hm (aw.refl H) q⟩
end
theorem Kq{M:Mem}{Q:bR}{a b:Addr}{qs:List Addr}(ha:M a=some (.lst (qs.map D.ref)))(hb:M b=some (.lst []))(hq:∀q∈qs,∃hs:List Int,M q=some (.lst (hs.map D.int)))(q:Q (.bl (!qs.isEmpty)) M):P_ (.ref a) (.ref b) M Q:=⟨a,b,qs,rfl,rfl,ha,hb,hq,q⟩
end L3
namespace KK
open PySem L3 L4 L5
open L2 hiding aL h_
abbrev Row:=List Int
end KK
namespace KK
open PySem L3 L4 L5
open L2 hiding aL h_
theorem Ext.free {M M':Mem}(h:Ext M M'){p:Addr}(hp:M' p=none):M p=none:=by
 cases e:M p with
 |none=>rfl
 |some o=>rw[h p o e]at hp;cases hp
theorem Ext.trans {M M1 M2:Mem}(h:Ext M M1)(g:Ext M1 M2):Ext M M2:=λ b o e=>g b o (h b o e)
theorem Ext.new {M M':Mem}(h:Ext M M'){p:Addr}(hp:M' p=none)(x:MO):Ext M (ah M' p x):=yT h hp x
theorem a_{M:Mem}{p q:Addr}{x:MO}(h:M p=some x)(g:M q=none):p≠q:=λ z=>by subst z;rw[h]at g;cases g
end KK
namespace KK
open PySem L3 L4 L5
open L2 hiding aL h_
def cQ(a:Addr)(i:Nat)(M:Mem)(qs:List Addr):Prop:=∀q∈qs,q≠a/\∃hs:List Int,M q=some (.lst (hs.map D.int))/\hs.length<=4/\∀x∈hs,0<=x/\x < (i:Int)
section
variable {a c p q:Addr}{i:Nat}{M M':Mem}{qs:List Addr}{o:MO}
theorem cQ.nil:cQ a i M []:=λ q h=>by cases h
theorem cQ.keep (h:cQ a i M qs)(k:∀b o,b≠a->M b=some o->M' b=some o):cQ a i M' qs:=λ q hq=>by obtain⟨h1,hs,h2,h3⟩:=h q hq;exact⟨h1,hs,k q _ h1 h2,h3⟩
theorem cQ.new (h:cQ a i M qs)(hp:M p=none):cQ a i (ah M p o) qs:=h.keep λ b u _ e=>by rw[aj (a_ e hp)];exact e
theorem cQ.ne (h:cQ a i M qs)(hp:M p=some (.lst (qs.map D.ref))):∀q∈qs,q≠p:=λ q hq z=>by
 subst z;obtain⟨_,hs,h2,_⟩:=h q hq;rw[hp]at h2;have e:qs.map D.ref=hs.map D.int:=by injection h2 with e;injection e
 have:D.ref q∈qs.map D.ref:=D7.mpr ⟨q,hq,rfl⟩;rw[e]at this;obtain⟨x,_,e2⟩:=D7.mp this;cases e2
theorem cQ.put (h:cQ a i M qs)(hp:M p=some (.lst (qs.map D.ref))):cQ a i (ah M p o) qs:=λ q hq=>by obtain⟨h1,hs,h2,h3⟩:=h q hq;exact⟨h1,hs,by rw[aj (h.ne hp q hq)];exact h2,h3⟩
theorem cQ.add (h:cQ a i M qs)(my:q≠a){hs:List Int}(hq:M q=some (.lst (hs.map D.int)))(hl:hs.length<=4)(hx:∀x∈hs,0<=x/\x < (i:Int)):cQ a i M (qs++[q]):=λ b hb=>by
 rcases B6.mp hb with z|z
 ·exact h b z
 ·rw[r6.mp z];exact⟨my,hs,hq,hl,hx⟩
theorem cQ.take (h:cQ a i M qs)(n:Nat):cQ a i M (qs.take n):=λ b hb=>h b (mem_of_mem_take hb)
end
theorem rM{hs:List Int}{n i:Nat}(hl:hs.length<=4)(hx:∀x∈hs,0<=x/\x < (i:Int)):g_ n i (jE hs n):=by refine⟨DC _ _,DA,?_,DB λ x h=>(hx x h).2⟩;have:=DD (ns:=hs) (n:=n);omega
theorem g_.mono {n i j:Nat}{r:Row}(h:g_ n i r)(vd:i<=j):g_ n j r:=⟨h.len,h.pos,h.sum,λ k hk=>h.low k (by omega)⟩
end KK
namespace KK
open PySem L3 L4 L5
open L2 hiding aL h_
theorem N5{α:Type}{ds:List α}{X:Prop}(h:ds.length<=16)(q:X):ds.length<=sizeLine/\X:=⟨D9 h (by decide),q⟩
theorem rn{M:Mem}{Q:bR}(q:Q (.bl true) M):MJ false .bM .bM M Q:=q
theorem HK{P:Program}{w:World}{K:K2}{mg:Str->Option Value}{base:Heap}{k:Nat}{f:Addr}{fd:FuncData}{ps:List Str}{sp:fb}(h:∀ds M Q,¬sp ds M Q):bZ P w K mg base fc k f fd ps (cx K sp):=
 ⟨λ _ _ _ _ ⟨ds,M,Q,_,_,q,_⟩=>absurd q (h ds M Q),λ _ _ _ _ _ _ _ _ _ _ _ _ _ ⟨ds,M,Q,_,_,q,_⟩=>absurd q (h ds M Q)⟩
def Uk:D->Prop
 | .bM=>True| .bl _=>True| .int _=>True| .str _=>True|_=>False
def Im(M:Mem):Nat->D->D->Prop
 |0,_,_=>False
 |k+1,x,y=>(x=y/\Uk x)\/(∃ds es,x=.tup ds/\y=.tup es/\ds.length=es.length/\ds.length<=10000/\∀(i:Nat) (d e:D),ds[i]?=some d->es[i]?=some e->Im M k d e)\/
  ∃p q ds es,x=.ref p/\y=.ref q/\M p=some (.lst ds)/\M q=some (.lst es)/\ds.length=es.length/\ds.length<=10000/\∀(i:Nat) (d e:D),ds[i]?=some d->es[i]?=some e->Im M k d e
theorem same_int(M:Mem)(k:Nat)(i:Int):Im M (k+1) (.int i) (.int i):=.inl ⟨rfl,True.intro⟩
def Az(k:Nat):fb:=λ ds M Q=>∃x y,ds=[x,y]/\Im M k x y/\Q (.bl true) M
theorem EF:∀ds M Q,¬Az 0 ds M Q:=λ ds M Q ⟨_,_,_,h,_⟩=>h
end KK
namespace KK
open PySem L3 L4 L5
open L2 hiding aL h_
def Qp(vs:List Int)(m:Nat):Prop:=(m:Int)∉vs/\∀j:Nat,j < m->(j:Int)∈vs
theorem Qp.uniq {vs:List Int}{m k:Nat}(h:Qp vs m)(g:Qp vs k):m=k:=by
 rcases Nat.lt_trichotomy m k with e|e|e
 ·exact absurd (g.2 m e) h.1
 ·exact e
 ·exact absurd (h.2 k e) g.1
theorem uO{vs:List Int}{m:Nat}(h:∀j:Nat,j < m->(j:Int)∈vs):m<=vs.length:=by
 have nd:((List.range m).map λ j:Nat=>(j:Int)).Nodup:=pairwise_map.mpr (List.Pairwise.imp (λ{a b} Mx e=>Mx (by omega)) nodup_range);have:=List.Nodup.length_le_of_subset nd (l₂:=vs) λ x hx=>by obtain⟨j,hj,rfl⟩:=D7.mp hx;exact h j (mem_range.mp hj)
 simpa using this
def GZ(vs:List Int):Nat->Nat->Nat
 |0,j=>j
 |f+1,j=>if(j:Int)∈vs then GZ vs f (j+1)else j
set_option tactic.hygienic true in
theorem wM{vs:List Int}:∀f j:Nat,vs.length < f+j->(∀i:Nat,i < j->(i:Int)∈vs)->Qp vs (GZ vs f j)
 |0,j,h,q=>absurd (uO q) (by omega)
 |f+1,j,h,q=>by
  unfold GZ;split
  ·rename_i hj;refine wM f (j+1) (by omega) λ i hi=>?_;by_cases e:i < j
   ·exact q i e
   ·have:i=j:=by omega
    subst this;exact hj
  ·rename_i hj;exact⟨hj,q⟩
def Nq(vs:List Int):Nat:=GZ vs (vs.length+1) 0
theorem BW(vs:List Int):Qp vs (Nq vs):=wM _ 0 (by omega) λ i h=>absurd h (by omega)
def xd:List Int->List Nat->Nat
 |c::cs,v::vs=>(if c % 2=1 then v else 0)^^^xd cs vs
 |_,_=>0
def xV(a:Nat)(p:Int×Nat):Nat:=if p.1 % 2=1 then a^^^p.2 else a
theorem vR:∀(cs:List Int) (vs:List Nat) (a:Nat),(cs.zip vs).foldl xV a=a^^^xd cs vs
 |[],vs,a=>by simp[xd]
 |c::cs,[],a=>by simp[xd]
 |c::cs,v::vs,a=>by
  rw[zip_cons_cons,foldl_cons,vR cs vs,xd];unfold xV;by_cases h:c % 2=1
  ·rw[J8 h,J8 h,C7]
  ·rw[J9 h,J9 h,Nat.zero_xor]
theorem NJ(cs:List Int)(vs:List Nat):(cs.zip vs).foldl xV 0=xd cs vs:=by rw[vR,Nat.zero_xor]
theorem vQ:∀(cs:List Int) (vs:List Nat),xd (cs.take vs.length) vs=xd cs vs
 |[],vs=>by simp[xd]
 |c::cs,[]=>by simp[xd]
 |c::cs,v::vs=>by rw[y4,take_succ_cons,xd,xd,vQ cs vs]
theorem Eo(a:Nat):∀b:Nat,(a^^^b)+2*(a&&& b)=a+b:=by
 induction a using Nat.strongRecOn with
 |ind a ih=>
  intro b;by_cases h:a=0
  ·subst h;simp
  ·have h1:=ih (a / 2) (by omega) (b / 2);rw[<- Nat.xor_div_two,<- Nat.and_div_two]at h1;have x1:(a^^^b) % 2=1↔¬(a % 2=1↔b % 2=1):=Nat.xor_mod_two_eq_one;have x2:(a&&& b) % 2=1↔a % 2=1/\b % 2=1:=Nat.and_mod_two_eq_one;omega
theorem iy(a b:Nat):Builtin.bitXor (a:Int) (b:Int)=((a^^^b:Nat):Int):=by rw[PyProof.Rows.bitXor_and,PyProof.Rows.bitAnd_pp (by omega) (by omega)];have:=Eo a b;simp only[w6];omega
def jY(g:List fH):Nat->List Nat
 |0=>[]
 |i+1=>jY g i++[Nq ((g.getD i mY).2.map λ o=>(xd o (jY g i):Int))]
theorem fM(g:List fH):∀i,(jY g i).length=i
 |0=>rfl
 |i+1=>by show(jY g i++[_]).length=_;rw[p6,fM g i];rfl
theorem wL(g:List fH)(i:Nat):∀k,∃cs,jY g (i+k)=jY g i++cs
 |0=>⟨[],by simp⟩
 |k+1=>by obtain⟨cs,e⟩:=wL g i k;refine⟨cs++[Nq ((g.getD (i+k) mY).2.map λ o=>(xd o (jY g (i+k)):Int))],?_⟩;show jY g (i+k)++[_]=_;rw[<- append_assoc,<- e];rfl
theorem ON{g:List fH}{n i:Nat}(h:i < n):(jY g n).getD i 0=Nq ((g.getD i mY).2.map λ o=>(xd o (jY g i):Int)):=by obtain⟨cs,e⟩:=wL g (i+1) (n - (i+1));rw[show i+1+(n - (i+1))=n by omega]at e;rw[e];show(jY g i++[_]++cs).getD i 0=_;rw[append_assoc,c7,c6 (by rw[fM];exact G5 _),fM];simp
end KK
namespace KK
open PySem L3 L4 L5
open L2 hiding aL h_
structure Tb(m h:Nat)(rows:List Row):Prop where
 len:rows.length=m
 pos:0 < m
 cH:m<=300
 zo:h<=12
 row:∀r∈rows,r.length=h/\∀x∈r,0<=x/\x < (m:Int)
def cS(rows:List Row)(ls:Row):D:=.tup [.tup (rows.map row),row ls]
def cG(rows:List Row)(h x:Nat):Nat:=((rows.getD x []).getD h 0).toNat
theorem Tb.at {m h:Nat}{rows:List Row}(T:Tb m h rows){x i:Nat}(hx:x < m)(hi:i < h):(rows.getD x []).length=h/\(rows.getD x []).getD i 0=(cG rows i x:Int)/\cG rows i x < m:=by
 have oD:x < rows.length:=by rw[T.len];exact hx
 have e:rows.getD x []=rows[x]:=by rw[c7,i5 oD];rfl
 have hr:=T.row _ (A1 oD);unfold cG;rw[e];have Ec:i < (rows[x]).length:=by rw[hr.1];exact hi
 have e2:(rows[x]).getD i 0=(rows[x])[i]:=by rw[c7,i5 Ec];rfl
 have hb:=hr.2 _ (A1 Ec);rw[e2];exact⟨hr.1,by omega,by omega⟩
def fT(f:Nat->Nat):Nat->Nat->Nat
 |0,x=>x
 |n+1,x=>fT f n (f x)
theorem gT(f:Nat->Nat):∀a b x,fT f (a+b) x=fT f b (fT f a x)
 |0,b,x=>by rw[E3];rfl
 |a+1,b,x=>by rw[Nat.succ_add];exact gT f a b (f x)
theorem Cu(f:Nat->Nat)(n x:Nat):fT f (n+1) x=f (fT f n x):=gT f n 1 x
theorem w_(f:Nat->Nat)(a:Nat):∀b x,fT f (a*b) x=fT (fT f a) b x
 |0,x=>by rw[Nat.mul_zero];rfl
 |b+1,x=>by rw[Nat.mul_succ,Nat.add_comm,gT,w_ f a b];rfl
theorem uV{f:Nat->Nat}{m:Nat}(hf:∀x,x < m->f x < m):∀n x,x < m->fT f n x < m
 |0,x,h=>h
 |n+1,x,h=>uV hf n (f x) (hf x h)
theorem zc{f:Nat->Nat}{x a L:Nat}(ha:a < L)(e:fT f L x=fT f a x){n:Nat}(hn:L<=n):fT f (a+(n - a) % (L - a)) x=fT f n x:=by
 have hp:0 < L - a:=by omega
 have one:∀k y,fT f (a+y+k*(L - a)) x=fT f (a+y) x:=by
  intro k
  induction k with
  |zero=>intro y;rw[Nat.zero_mul];rfl
  |succ k ih=>intro y;rw[Nat.succ_mul,show a+y+(k*(L - a)+(L - a))=L+(y+k*(L - a)) by omega,gT,e,<- gT,show a+(y+k*(L - a))=a+y+k*(L - a) by omega];exact ih y
 have h:=one ((n - a) / (L - a)) ((n - a) % (L - a));rw[<- h];congr 1;have:=Nat.div_add_mod (n - a) (L - a);rw[Nat.mul_comm]at this;omega
def tL(rows:List Row):Nat->Nat->Row->Nat
 |_,x,[]=>x
 |i,x,c::cs=>tL rows (i+1) (fT (cG rows i) c.toNat x) cs
theorem Tb.uf {m h:Nat}{rows:List Row}(T:Tb m h rows){i:Nat}(hi:i < h):∀x,x < m->cG rows i x < m:=λ x hx=>(T.at hx hi).2.2
theorem ud{m h:Nat}{rows:List Row}(T:Tb m h rows):∀(cs:Row) (i x:Nat),i+cs.length<=h->x < m->tL rows i x cs < m
 |[],i,x,_,hx=>hx
 |c::cs,i,x,hi,hx=>by rw[y4]at hi;exact ud T cs (i+1) _ (by omega) (uV (T.uf (by omega)) _ _ hx)
theorem lG(rows:List Row):∀(cs:Row) (i x:Nat) (c:Int),tL rows i x (cs++[c])=fT (cG rows (i+cs.length)) c.toNat (tL rows i x cs)
 |[],i,x,c=>rfl
 |d::cs,i,x,c=>by show tL rows (i+1) _ (cs++[c])=_;rw[lG rows cs (i+1),y4,show i+1+cs.length=i+(cs.length+1) by omega];rfl
end KK
namespace L2
open PySem PySem.Spec PyProof.Rows
theorem yi{x:V}{xs:List V}{us:List Value}(r:Vals (x::xs) us):∃u ws,us=u::ws/\RelV x u/\Vals xs ws:=by
 cases r with
 |cons a b=>exact⟨_,_,rfl,a,b⟩
end L2
namespace L2
open PySem PySem.Spec PySem.W PySem.Calls PyProof.Rows L5
theorem uY:∀(vs:List Value) (ns:List Int),vs.length=ns.length->(∀(j:Nat) (v:Value) (n:Int),vs[j]?=some v->ns[j]?=some n->∃t:Tok,v=Value.int n t)->IntsAre vs ns
 |[],[],_,_=>.nil
 |[],_::_,h,_=>by cases h
 |_::_,[],h,_=>by cases h
 |v::vs,n::ns,h,k=>by obtain⟨t,rfl⟩:=k 0 v n rfl rfl;exact .cons n t (uY vs ns (by simpa using h) λ j v n a b=>k (j+1) v n (by simpa using a) (by simpa using b))
theorem mq{vs:List Value}{ns:List Int}(h:IntsAre vs ns):Vals (ns.map V.int) vs:=by
 induction h with
 |nil=>exact .nil
 |cons n t _ ih=>exact .cons ⟨t,rfl⟩ ih
theorem mr:∀{ns:List Int} {vs:List Value},Vals (ns.map V.int) vs->IntsAre vs ns
 |[],_,h=>by cases h;exact .nil
 |n::ns,_,h=>by obtain⟨u,us,rfl,ru,r⟩:=yi h;obtain⟨t,rfl⟩:=ru;exact .cons n t (mr r)
section
variable {X:Cx}
theorem sX(hc:X.calm=true):cW X (.builtin "sorted") (λ xs H Q=>∃(a:Addr) (kvs:List (Key×V)) (ns:List Int),xs=[.ref a]/\H a=some (.dK kvs)/\kvs.map (·.1)=ns.map Sum.inl/\ns.length < 64/\∀(dG:List Int) (p:Addr),dG.Perm ns->dG.Pairwise (·<=·)->H p=none->Q (.ref p) (upd H p (.lst (dG.map V.int)))):=by
 intro pins s σ H xs us Q I r ⟨a,kvs,ns,e,hd,hk,nB,q⟩;subst e;obtain⟨u,rfl,rx⟩:=vals1 r;cases(show u=Value.ref a from rx);obtain⟨z,nm,vs,rel,dd⟩:=PU I.cp hd;obtain⟨ep,Vb⟩:=dd.dictAt;have len:vs.length=ns.length:=by rw[<- Paired.length rel];have:=J5 List.length hk;simpa using this
 refine call_function_entry kind_sorted plain_sorted entry_sorted (args_sorted1 _) ?_;unfold Builtin.«sorted»;refine H0 (m:=checkCount "sorted" 1 1 _) (H9 (H0 (kdu_collect (A:=X.A.in1) (kdl_dict (knd:=eT X.prog X.w) (kvs:=vs) (ep:=ep) nm) (show X.A.in1.handled=none from I.ok.hd hc) Vb (by rw[G6];omega) λ h' tk acc Ts j_=>?_)));have hl:acc.toList.length=ns.length:=by rw[m8,j_.1,len]
 have keys:vs.map (·.1)=ns.map Sum.inl:=by
  rw[<- hk];clear hk hd Vb dd j_ len q z
  induction rel with
  |nil=>rfl
  |cons p _ ih=>rw[C9,C9,ih,p.1]
 have hI:IntsAre acc.toList ns:=uY _ _ hl λ j v n a b=>by
  obtain⟨k,x,e1,e2⟩:=j_.2 j v (by rw[<- k5];exact a);have e3:k=Sum.inl n:=by have:=J5 (λ l=>l[j]?) keys;simp only[u9,e1,b,Option.map_some,Option.some.injEq]at this;exact this
  subst e3;rcases bO (show sg (Sum.inl n) v=true from e2)with⟨i,t,h1,rfl⟩|⟨x,t,h1,rfl⟩
  ·cases h1;exact⟨t,rfl⟩
  ·cases h1
 refine H0 (wpAny_newList ?_ (by rw[hl,G6];omega));have HE:(h'.push (seqObj "list" acc.toList.toArray 0)).get? h'.objs.size=some (seqObj "list" acc.toList.toArray 0):=m9 _ rfl;refine H0 (C5 (y8 slot_list_sort ⟨_,HE,rfl⟩ entry_list_sort (list_sort_tree HE hI (by omega) λ out dG a1 a2 a3=>⟨_,rfl,?_⟩) (args_list_sort _)));refine H9 ⟨_,rfl,?_⟩;obtain⟨c,Ji⟩:=sortedHeap_at (out:=out) HE;have I0:Inv X pins σ H {s with heap:=h',toks:=tk}:=I.kept (t':=tk) Ts;have kp:∀b o,h'.get? b=some o->(sortedHeap (h'.push (seqObj "list" acc.toList.toArray 0)) h'.objs.size acc.toList out).get? b=some o:=λ b o e=>by rw[sortedHeap_old (D5 (D6 e)) (by rw[size_push'];exact x9 (D6 e))];exact j5 _ e
 exact⟨.ref h'.objs.size,_,I0.laid (t':=tk) kp (G5 _) (show cg X.prog X.w _ _ _ (.lst (dG.map V.int))from⟨by rw[B5,a2.length_eq,G6];omega,out.toList,c,mq a1,by rw[Array.toArray_toList];exact Ji⟩),rfl,q dG _ a2 a3 (I0.cp.fresh (G5 _))⟩
theorem sW:cW X (.builtin "sorted") (λ xs H Q=>∃(a:Addr) (ns:List Int),xs=[.ref a]/\dn X.K H a (ns.map V.int)/\ns.length < 64/\∀(dG:List Int) (p:Addr),dG.Perm ns->dG.Pairwise (·<=·)->H p=none->Q (.ref p) (upd H p (.lst (dG.map V.int)))):=by intro pins s σ H xs us Q I r ⟨a,ns,e,hq,nB,q⟩;subst e;obtain⟨u,rfl,rx⟩:=vals1 r;cases(show u=Value.ref a from rx);obtain⟨av,r',pl,hz⟩:=I.list hq;have hI:=mr r';have hl:=r'.length;rw[B5]at hl;refine sorted_ints pl.isList hI (by omega) λ out dG a1 a2 a3=>?_;obtain⟨c,Ji⟩:=sortedAll_at s.heap av out;exact⟨.ref (s.heap.objs.size+1),_,I.laid (t':=s.toks) (λ _ _=>sortedAll_old) (Nat.le_succ _) (show cg X.prog X.w _ _ _ (.lst (dG.map V.int))from⟨by rw[B5,a2.length_eq,G6];omega,out.toList,c,mq a1,by rw[Array.toArray_toList];exact Ji⟩),rfl,q dG _ a2 a3 (I.cp.fresh (Nat.le_succ _))⟩
end
end L2
namespace L3
open PySem PySem.Spec L2 L5 PyProof.Rows
def Dw:List D->Mem->bR->Prop:=λ xs M Q=>∃(a:Addr) (ns:List Int),xs=[.ref a]/\((∃kvs,M a=some (.zP false kvs)/\kvs.map (·.1)=ns.map D.int)\/M a=some (.lst (ns.map D.int)))/\ns.length < 64/\∀(dG:List Int) (p:Addr),dG.Perm ns->dG.Pairwise (·<=·)->M p=none->Q (.ref p) (ah M p (.lst (dG.map D.int)))
theorem oy:∀{xs:List Key} {ns:List Int},xs.map Hn=ns.map D.int->xs=ns.map Sum.inl
 |[],[],_=>rfl
 |[],_::_,h=>by cases h
 |_::_,[],h=>by cases h
 |x::xs,n::ns,h=>by
  rw[C9,C9,List.cons.injEq]at h;rw[C9,oy h.2];cases x with
  |inl i=>have:=h.1;simp only[Hn,D.int.injEq]at this;rw[this]
  |inr i=>have:=h.1;simp[Hn]at this
theorem HZ{X:Cx}(hc:X.calm=true):dM X (.builtin "sorted") Dw:=⟨_,(sX hc).or sW,λ xs ds H M Q2 Q hd hm q k=>by
 obtain⟨a,ns,rfl,hs,nB,q⟩:=q;obtain⟨x,r,rfl,hx,hr⟩:=ag.mp hd;cases(aq.mp hr);cases(aE.mp hx);have fin:∀(dG:List Int) (p:Addr),dG.Perm ns->dG.Pairwise (·<=·)->H p=none->Q (.ref p) (upd H p (.lst (dG.map V.int))):=λ dG p a1 a2 hp=>k _ _ (.ref p) _ (aE.mpr rfl) (cX hp (fv dG) hm) (aw.laid hp) (q dG p a1 a2 (hm.free hp));rcases hs with⟨kvs,hM,hk⟩|hM
 ·obtain⟨ys,hy,rel⟩:=hm a _ hM;refine .inl ⟨a,ys,ns,rfl,hy,?_,nB,fin⟩;refine oy ?_;rw[<- hk];clear hk hy hM q fin
  induction rel with
  |nil=>rfl
  |cons p _ ih=>rw[C9,C9,C9,ih,p.1]
 ·obtain⟨ys,hy,zM⟩:=hm a _ hM;rw[bY zM]at hy;exact .inr ⟨a,ns,rfl,dn.of hy,nB,fin⟩⟩
theorem yD{M:Mem}{a:Addr}{Q:bR}(ns:List Int)(h:M a=some (.lst (ns.map D.int)))(nB:ns.length < 64)(q:∀(dG:List Int) (p:Addr),dG.Perm ns->dG.Pairwise (·<=·)->M p=none->Q (.ref p) (ah M p (.lst (dG.map D.int)))):Dw [.ref a] M Q:=⟨a,ns,rfl,.inr h,nB,q⟩
end L3
namespace L2
open PySem PySem.Spec PyProof.Rows
section
variable {X:Cx}
def ur(lo:Int)(n:Nat):List V:=(List.range n).map λ(i:Nat)=>V.int (lo+(i:Int))
theorem yA{lo:Int}{n:Nat}{acc:Array Value}(h:ItemsOf (λ i v=>∃t,v=Value.int (lo+(i:Int)*1) t) acc n):Vals (ur lo n) acc.toList:=by
 obtain⟨hl,hv⟩:=h;have go:∀(m:Nat) (vs:List Value) (k:Nat),vs.length=m->(∀j v,vs[j]?=some v->∃t,v=Value.int (lo+((k+j:Nat):Int)) t)->Vals ((List.range' k m).map λ(i:Nat)=>V.int (lo+(i:Int))) vs:=by
  intro m
  induction m with
  |zero=>intro vs k hl _;rw[eq_nil_of_length_eq_zero hl];exact .nil
  |succ m ih=>
   intro vs k hl hv;cases vs with
   |nil=>cases hl
   |cons v vs=>rw[range'_succ,C9];obtain⟨t,rfl⟩:=hv 0 v rfl;refine .cons ⟨t,by simp⟩ (ih vs (k+1) (by simpa using hl) λ j u hj=>?_);obtain⟨t,e⟩:=hv (j+1) u (by simpa using hj);refine⟨t,?_⟩;rw[e];congr 1;omega
 have:=go n acc.toList 0 (by simpa using hl) (λ j v hj=>by
  obtain⟨t,e⟩:=hv j v (by simpa using hj);refine⟨t,?_⟩;rw[e,E3,Int.mul_one])
 rw[<- range_eq_range']at this;exact this
theorem zw:cW X (.type "range") (λ xs H Q=>∃i j:Int,xs=[.int i,.int j]/\∀r,H r=none->Q (.ref r) (upd H r (.Kg i j))):=by intro pins s σ H xs us Q I rr ⟨i,j,e,q⟩;subst e;obtain⟨u,u2,rfl,⟨t,rfl⟩,⟨t2,rfl⟩⟩:=vals2 rr;refine call_range_2 ⟨.ref s.heap.objs.size,_,I.laid (t':=s.toks+1) (o:=.Kg i j) (λ b o e=>j5 _ e) (G5 _) ⟨_,_,_,m9 _ rfl⟩,rfl,q _ (I.cp.fresh (G5 _))⟩
end
end L2
namespace L3
open PySem PySem.Spec PyProof.Rows L2
section
variable {X:Cx}{a:Expr}{ta:fB}{p p2 pos bw:Pos}
theorem Du{K:K2}{H:Hp}(lo:Int)(n:Nat):aB K H (cO lo n) (ur lo n):=by
 unfold cO ur;generalize List.range n=l
 induction l with
 |nil=>exact aq.mpr rfl
 |cons x l ih=>exact ag.mpr ⟨_,_,rfl,ax.mpr rfl,ih⟩
end
end L3
namespace L2
open PySem PySem.Spec PyProof.Rows L5
open PySem.AutoSeq1 (wpAny_loadPart')
section
variable {prog:Program}{w:World}{A:Around}{E:Value->Shared->Prop}{s:Shared}{T1 T2:String}{S1 S2:Heap->Addr->Array Value->Prop}
theorem eS{M:Model}{a:Addr}{Q:Option Obj->Shared->Prop}(h:Q (s.heap.get? a) s):wpAny M A (loadIfAlive a) Q E s:=λ Γ p hΓ=>by unfold loadIfAlive;simp only[Sem.wp_loadIfAlive];exact H9 h Γ p hΓ
abbrev gI(h:Heap)(z u v r:Addr)(f1:Bool):Prop:=h.get? z=some {cls:=.type "zip",dict:=none,data:=.fields #[rawInt r,.bool f1,.bool false,.ref u,.ref v],slots:=#[]}
end
end L2
namespace L2
open PySem PySem.Spec PyProof.Rows L5
open PySem.AutoSeq1 (wpAny_loadPart')
theorem tR:typeLookup (.type "zip") "__len__"=pure none:=by rw[typeLookup_type,builtinLookup_eq_fast];kernel_rfl
theorem qJ:typeLookup (.type "zip") "__length_hint__"=pure none:=by rw[typeLookup_type,builtinLookup_eq_fast];kernel_rfl
end L2
namespace L2
open PySem PySem.Spec PyProof.Rows L5
section
variable {X:Cx}{e1 e2:Expr}{ta:TA}{p p2 pos bw:Pos}
theorem qM:∀ps:List Addr,Vals (ps.map V.ref) (ps.map Value.ref)
 |[]=>.nil
 |p::ps=>.cons rfl (qM ps)
end
end L2
namespace L3
open PySem PySem.Spec PyProof.Rows L2 L5
theorem uj{K:K2}{H:Hp}{M:Mem}{d:D}{xs:List D}{v:V}(hm:RelM K H M)(e:cz M d=some xs)(hd:Dat K H d v):∃(b:Bool) (l:Addr) (xv:List V),v=.ref l/\Sq b K H l xv/\aB K H xs xv:=by
 obtain⟨p,xv,rfl,h1,h2⟩:=fi e hd hm;cases h1 with
 |inl h1=>exact⟨false,p,xv,rfl,h1,h2⟩
 |inr h1=>exact⟨true,p,xv,rfl,h1,h2⟩
end L3
namespace L5
open PySem L2
structure Sr where
 a:Addr
 l:Addr
 k:Bool
 xs:Array Value
def Sr.on (q:Sr)(h:Heap)(i:Nat):Prop:=match q.k with
 |true=>kr "tuple_iterator" h q.a q.l i/\Heap.IsTuple h q.l q.xs
 |false=>kr "list_iterator" h q.a q.l i/\Heap.IsList h q.l q.xs
theorem Sr.keep {q:Sr}{h h':Heap}{i:Nat}(x:q.on h i)(k1:∀o,h.get? q.a=some o->h'.get? q.a=some o)(k2:∀o,h.get? q.l=some o->h'.get? q.l=some o):q.on h' i:=by
 unfold Sr.on at x ⊢;split at x
 ·exact⟨x.1.keep k1,fq.keep x.2 k2⟩
 ·exact⟨x.1.keep k1,iT.keep x.2 k2⟩
structure Ap(qs:List Sr):Prop where
 nd:(qs.map (·.a)).Nodup
 la:∀q∈qs,∀r∈qs,q.l≠r.a
theorem Ap.tail {q:Sr}{qs:List Sr}(D:Ap (q::qs)):Ap qs:=⟨(nodup_cons.mp D.nd).2,λ a ha b hb=>D.la a (.tail _ ha) b (.tail _ hb)⟩
theorem Ap.ne {q r:Sr}{qs:List Sr}(D:Ap (q::qs))(h:r∈qs):r.a≠q.a:=λ e=>(nodup_cons.mp D.nd).1 (by show q.a∈_;rw[<- e];exact List.mem_map_of_mem (f:=λ x:Sr=>x.a) h)
abbrev rowAt(qs:List Sr)(i:Nat):List Value:=qs.map λ q=>q.xs.getD i .none
section
variable {prog:Program}{w:World}{A:Around}{E:Value->Shared->Prop}{s:Shared}{i:Nat}
set_option tactic.hygienic true in
theorem Sr.item {q:Sr}{Q:Value->Shared->Prop}(x:q.on s.heap i)(lt:i < q.xs.size)(n:q.l≠q.a) (k:∀h',q.on h' (i+1)->Heap.SameBut q.a s.heap h'->Q (q.xs.getD i .none) {s with heap:=h'}):wpAny (model prog w) A (Builtin.SmallTypes.nextOf (.ref q.a)) Q E s:=by
 have e:q.xs[i]?=some (q.xs.getD i .none):=by rw[c9 lt,Array.getD_eq_getD_getElem?,c9 lt];rfl
 unfold Sr.on at x;split at x
 ·rename_i hk;exact fq.item x.1 x.2 e λ h' a s'=>k h' (by unfold Sr.on;rw[hk];exact⟨a,fq.keep x.2 λ o e=>s'.extBut _ _ n e⟩) s'
 ·rename_i hk;exact iT.item x.1 x.2 e λ h' a s'=>k h' (by unfold Sr.on;rw[hk];exact⟨a,iT.keep x.2 λ o e=>s'.extBut _ _ n e⟩) s'
theorem Sr.stop {q:Sr}{Q:Value->Shared->Prop}(hA:A.handled=none)(x:q.on s.heap i)(ge:q.xs.size<=i) (k:∀h' e,Heap.ExtBut q.a s.heap h'->(∃o,h'.get? e=some o/\o.cls=.type "StopIteration")->E (.ref e) {s with heap:=h'}):wpAny (model prog w) A (Builtin.SmallTypes.nextOf (.ref q.a)) Q E s:=by
 have e:q.xs[i]?=none:=j4 ge;unfold Sr.on at x;split at x
 ·exact fq.stop hA x.1 x.2 e k
 ·exact iT.stop hA x.1 x.2 e k
theorem sG{σ:Type}{b:Value->σ->Sem (ForInStep σ)}{mk:Array Value->σ}(hb:∀(a:Addr) (acc:Array Value) (s:Shared) (Q:ForInStep σ->Shared->Prop),wpAny (model prog w) A (Builtin.SmallTypes.nextOf (.ref a)) (λ x s'=>Q (.yield (mk (acc.push x))) s') E s->wpAny (model prog w) A (b (.ref a) (mk acc)) Q E s):∀(qs:List Sr) (acc:Array Value) (s:Shared) (Q:σ->Shared->Prop),Ap qs->(∀q∈qs,q.on s.heap i)->(∀q∈qs,i < q.xs.size)->
   (∀h',(∀q∈qs,q.on h' (i+1))->h'.objs.size=s.heap.objs.size->(∀f o,(∀q∈qs,f≠q.a)->s.heap.get? f=some o->h'.get? f=some o)->Q (mk (acc++(rowAt qs i).toArray)) {s with heap:=h'})->
   wpAny (model prog w) A (forIn (qs.map λ q=>Value.ref q.a) (mk acc) b) Q E s
 |[],acc,s,Q,D,hq,lt,k=>by have:=k s.heap (λ q h=>nomatch h) rfl λ f o _ e=>e;simp only[rowAt,E5,Array.append_empty]at this;exact H9 this
 |q::qs,acc,s,Q,D,hq,lt,k=>by
  have nl:=D.la q (.head _) q (.head _);rw[C9,forIn_cons];refine H0 (hb _ _ _ _ (Sr.item (hq q (.head _)) (lt q (.head _)) nl λ h1 o1 s1=>?_));refine sG hb qs _ _ _ D.tail (λ r hr=>Sr.keep (hq r (.tail _ hr)) (λ o e=>s1.extBut _ _ (D.ne hr) e) λ o e=>s1.extBut _ _ (D.la r (.tail _ hr) q (.head _)) e) (λ r hr=>lt r (.tail _ hr)) λ h2 o2 z2 k2=>?_;have:=k h2 (λ r hr=>?_) (z2.trans s1.1) λ f o nf e=>k2 f o (λ r hr=>nf r (.tail _ hr)) (s1.extBut _ _ (nf q (.head _)) e)
  ·rw[show acc.push (q.xs.getD i Value.none)++(rowAt qs i).toArray=acc++(rowAt (q::qs) i).toArray by simp[rowAt]];exact this
  ·rcases D1.mp hr with e|hr
   ·subst e;exact Sr.keep o1 (λ o e=>k2 _ o (λ t ht=>(D.ne ht).symm) e) λ o e=>k2 _ o (λ t ht=>D.la r (.head _) t (.tail _ ht)) e
   ·exact o2 r hr
theorem mK{σ:Type}{b:Value->σ->Sem (ForInStep σ)}{mk:Array Value->σ}(hb:∀(a:Addr) (acc:Array Value) (s:Shared) (Q:ForInStep σ->Shared->Prop),wpAny (model prog w) A (Builtin.SmallTypes.nextOf (.ref a)) (λ x s'=>Q (.yield (mk (acc.push x))) s') E s->wpAny (model prog w) A (b (.ref a) (mk acc)) Q E s)(hA:A.handled=none):∀(qs:List Sr) (acc:Array Value) (s:Shared) (Q:σ->Shared->Prop),Ap qs->(∀q∈qs,q.on s.heap i)->(∃q∈qs,q.xs.size<=i)->
   (∀h' e,(∀f o,(∀q∈qs,f≠q.a)->s.heap.get? f=some o->h'.get? f=some o)->(∃o,h'.get? e=some o/\o.cls=.type "StopIteration")->E (.ref e) {s with heap:=h'})->
   wpAny (model prog w) A (forIn (qs.map λ q=>Value.ref q.a) (mk acc) b) Q E s
 |[],acc,s,Q,D,hq,ge,k=>by obtain⟨q,h,_⟩:=ge;cases h
 |q::qs,acc,s,Q,D,hq,ge,k=>by
  have nl:=D.la q (.head _) q (.head _);rw[C9,forIn_cons];by_cases lt:i < q.xs.size
  ·refine H0 (hb _ _ _ _ (Sr.item (hq q (.head _)) lt nl λ h1 o1 s1=>?_));refine mK hb hA qs _ _ _ D.tail (λ r hr=>Sr.keep (hq r (.tail _ hr)) (λ o e=>s1.extBut _ _ (D.ne hr) e) λ o e=>s1.extBut _ _ (D.la r (.tail _ hr) q (.head _)) e) ?_ λ h2 e k2 oe=>?_
   ·obtain⟨r,hr,z⟩:=ge;rcases D1.mp hr with e|hr
    ·subst e;exact absurd lt (Nat.not_lt.mpr z)
    ·exact⟨r,hr,z⟩
   ·exact k h2 e (λ f o nf e=>k2 f o (λ r hr=>nf r (.tail _ hr)) (s1.extBut _ _ (nf q (.head _)) e)) oe
  ·refine H0 (hb _ _ _ _ (Sr.stop hA (hq q (.head _)) (y3 lt) λ h1 e s1 oe=>k h1 e (λ f o nf z=>s1 _ _ (nf q (.head _)) z) oe))
end
end L5
namespace L5
open PySem L2
abbrev fG(h:Heap)(T:Addr)(vs:List Value):Prop:=h.get? T=some {cls:=.type "tuple",data:=.seq vs.toArray}
structure Zn(z u v:Addr)(qs:List Sr):Prop where
 ap:Ap qs
 uz:u≠z
 vz:v≠z
 uv:u≠v
 s:∀q∈qs,q.a≠z/\q.a≠u/\q.a≠v/\q.l≠z/\q.l≠v
section
variable {prog:Program}{w:World}{A:Around}{E:Value->Shared->Prop}{s:Shared}{i:Nat}{z u v:Addr}{qs:List Sr}
theorem Zn.kz (D:Zn z u v qs){h h':Heap}(s1:Heap.SameBut z h h')(hq:∀q∈qs,q.on h i):∀q∈qs,q.on h' i:=λ q h=>Sr.keep (hq q h) (λ o e=>s1.extBut _ _ (D.s q h).1 e) λ o e=>s1.extBut _ _ (D.s q h).2.2.2.1 e
theorem vO{σ:Type}{b:Value->σ->Sem (ForInStep σ)}{mk:Array Value->σ}{c:σ->Sem PySem.Fin}{r:Addr}{Q:Value->Shared->Prop}{s0:Shared}(D:Zn z u v qs)(cH:qs.length<=100) (hb:∀(a:Addr) (acc:Array Value) (s:Shared) (Q:ForInStep σ->Shared->Prop),wpAny (model prog w) A (Builtin.SmallTypes.nextOf (.ref a)) (λ x s'=>Q (.yield (mk (acc.push x))) s') E s->wpAny (model prog w) A (b (.ref a) (mk acc)) Q E s) (hc:∀acc,c (mk acc)=newTuple acc.toList >>= ret) (hz:gI s.heap z u v r true) (e0:Heap.SameBut z s0.heap s.heap) (e1:s={s0 with heap:=s.heap}) (hq:∀q∈qs,q.on s0.heap i) (lt:∀q∈qs,i < q.xs.size) (k:∀h',gI h' z u v r true->(∀q∈qs,q.on h' (i+1))->fG h' s0.heap.objs.size (rowAt qs i)->h'.objs.size=s0.heap.objs.size+1->
   (∀f o,f≠z->(∀q∈qs,f≠q.a)->s0.heap.get? f=some o->h'.get? f=some o)->Q (.ref s0.heap.objs.size) {s0 with heap:=h'}):
  wpAny (model prog w) A (forIn (qs.map λ q=>Value.ref q.a) (mk #[]) b >>= c) (λ fin s'=>∃v,fin=.done (.ret v)/\Q v s') E s:=by
 refine H0 (sG hb qs #[] s _ D.ap (D.kz e0 hq) lt λ h' o' z' k'=>?_);rw[hc];have z2:gI h' z u v r true:=k' _ _ (λ q h=>(D.s q h).1.symm) hz;have e:(#[]++(rowAt qs i).toArray).toList=rowAt qs i:=by simp
 rw[e];refine H0 (wpAny_newTuple ?_ (by show(rowAt qs i).length<=sizeLine;rw[B5];exact D9 cH (by decide)));refine H9 ⟨_,rfl,?_⟩;have ez:h'.objs.size=s0.heap.objs.size:=z'.trans e0.1;have up:∀f o,h'.get? f=some o->(h'.push {cls:=.type "tuple",data:=.seq (rowAt qs i).toArray}).get? f=some o:=λ f o e=>j5 _ e;have t4:fG (h'.push {cls:=.type "tuple",data:=.seq (rowAt qs i).toArray}) h'.objs.size (rowAt qs i):=m9 _ rfl;rw[ez]at t4;have:=k _ (up _ _ z2) (λ q h=>Sr.keep (o' q h) (λ o e=>up _ o e) λ o e=>up _ o e) t4 (by rw[C2,ez]) λ f o n1 n2 e=>up f o (k' f o n2 (e0.extBut _ _ n1 e));show Q (.ref h'.objs.size) {s with heap:=_};rw[ez,e1];exact this
theorem El{r:Addr}{f1:Bool}{o:Obj}{Q:Value->Shared->Prop}(D:Zn z u v qs)(dj:qs≠[])(cH:qs.length<=100)(hz:gI s.heap z u v r f1)(hr:s.heap.get? r=some o)(hu:fG s.heap u (qs.map λ q=>.ref q.a))(hq:∀q∈qs,q.on s.heap i)(lt:∀q∈qs,i < q.xs.size) (k:∀h',gI h' z u v r true->(∀q∈qs,q.on h' (i+1))->fG h' s.heap.objs.size (rowAt qs i)->h'.objs.size=s.heap.objs.size+1->
   (∀f o,f≠z->(∀q∈qs,f≠q.a)->s.heap.get? f=some o->h'.get? f=some o)->Q (.ref s.heap.objs.size) {s with heap:=h'}):
  wpAny (model prog w) A (Builtin.«zip.__next__» ⟨[.ref z],[]⟩) (λ fin s'=>∃v,fin=.done (.ret v)/\Q v s') E s:=by
 refine H0 (m:=field (.ref z) 2) (G8 hz rfl (x:=.bool false) rfl ?_);refine H0 (m:=field (.ref z) 3) (G8 hz rfl (x:=.ref u) rfl ?_);refine H0 (C1 hu rfl ?_);have em:(qs.map λ q=>Value.ref q.a).toArray.isEmpty=false:=by cases qs with|nil=>exact absurd rfl dj|cons q qs=>rfl
 simp only[em];refine H0 (m:=Builtin.SmallTypes.ownedTupleIsFree (.ref z)) ?_;unfold Builtin.SmallTypes.ownedTupleIsFree;refine H0 (m:=field (.ref z) 0) (G8 hz rfl (x:=rawInt r) rfl ?_);show wpAny _ _ (loadIfAlive (r:Int).toNat >>= _) _ _ _;rw[w6];refine H0 (eS ?_);rw[hr];show wpAny _ _ (field (.ref z) 1 >>= _) _ _ _;refine H0 (m:=field (.ref z) 1) (G8 hz rfl (x:=.bool f1) rfl ?_);cases f1 with
 |false=>
  refine H0 (p9 hz (by simp) λ g1 z1 s1=>?_);refine H9 ?_;rw[J9 (by decide)];rw[List.forIn_toArray];refine vO (mk:=λ acc=>((none,acc):Option PySem.Fin×Array Value)) (s0:=s) (s:={s with heap:=g1}) (r:=r) D cH ?_ ?_ z1 s1 rfl hq lt k
  rotate_left
  ·intro acc;rfl
  intro a acc s Q h;exact H0 (C5 (H0 (J3 h (λ x s' h'=>H9 (H9 h')) λ _ _ e=>e)))
 |true=>
  refine H9 ?_;rw[J9 (by decide)];rw[List.forIn_toArray];refine vO (mk:=λ acc=>((none,acc):Option PySem.Fin×Array Value)) (s0:=s) (s:=s) (r:=r) D cH ?_ ?_ hz ⟨rfl,λ _ _=>rfl⟩ rfl hq lt k
  rotate_left
  ·intro acc;rfl
  intro a acc s Q h;exact H0 (C5 (H0 (J3 h (λ x s' h'=>H9 (H9 h')) λ _ _ e=>e)))
theorem qH{r:Addr}{f1:Bool}{o:Obj}{Q:PySem.Fin->Shared->Prop}(hA:A.handled=none)(D:Zn z u v qs)(hz:gI s.heap z u v r f1)(hr:s.heap.get? r=some o)(hu:fG s.heap u (qs.map λ q=>.ref q.a))(hq:∀q∈qs,q.on s.heap i)(ge:∃q∈qs,q.xs.size<=i)
  (k:∀h' e,(∀f o,f≠z->(∀q∈qs,f≠q.a)->s.heap.get? f=some o->h'.get? f=some o)->(∃o,h'.get? e=some o/\o.cls=.type "StopIteration")->E (.ref e) {s with heap:=h'}):
  wpAny (model prog w) A (Builtin.«zip.__next__» ⟨[.ref z],[]⟩) Q E s:=by
 refine H0 (m:=field (.ref z) 2) (G8 hz rfl (x:=.bool false) rfl ?_);refine H0 (m:=field (.ref z) 3) (G8 hz rfl (x:=.ref u) rfl ?_);refine H0 (C1 hu rfl ?_);have em:(qs.map λ q=>Value.ref q.a).toArray.isEmpty=false:=by
  cases qs with
  |nil=>obtain⟨q,h,_⟩:=ge;cases h
  |cons q qs=>rfl
 simp only[em];refine H0 (m:=Builtin.SmallTypes.ownedTupleIsFree (.ref z)) ?_;unfold Builtin.SmallTypes.ownedTupleIsFree;refine H0 (m:=field (.ref z) 0) (G8 hz rfl (x:=rawInt r) rfl ?_);show wpAny _ _ (loadIfAlive (r:Int).toNat >>= _) _ _ _;rw[w6];refine H0 (eS ?_);rw[hr];show wpAny _ _ (field (.ref z) 1 >>= _) _ _ _;refine H0 (m:=field (.ref z) 1) (G8 hz rfl (x:=.bool f1) rfl ?_);cases f1 with
 |false=>refine H0 (p9 hz (by simp) λ g1 z1 s1=>?_);refine H9 ?_;rw[J9 (by decide)];rw[List.forIn_toArray];refine H0 (mK (mk:=λ acc=>((none,acc):Option PySem.Fin×Array Value)) ?_ hA qs #[] {s with heap:=g1} _ D.ap (D.kz s1 hq) ge λ h' e kp oe=>k h' e (λ f o n1 n2 e=>kp f o n2 (s1.extBut _ _ n1 e)) oe);intro a acc s Q h;exact H0 (C5 (H0 (J3 h (λ x s' h'=>H9 (H9 h')) λ _ _ e=>e)))
 |true=>refine H9 ?_;rw[J9 (by decide)];rw[List.forIn_toArray];refine H0 (mK (mk:=λ acc=>((none,acc):Option PySem.Fin×Array Value)) ?_ hA qs #[] s _ D.ap hq ge λ h' e kp oe=>k h' e (λ f o n1 n2 e=>kp f o n2 e) oe);intro a acc s Q h;exact H0 (C5 (H0 (J3 h (λ x s' h'=>H9 (H9 h')) λ _ _ e=>e)))
theorem wF{σ:Type}{b:Value×Nat->σ->Sem (ForInStep σ)}{st:σ}(hb:∀(a:Addr) (j:Nat) (cs:List Value) (s:Shared) (Q:ForInStep σ->Shared->Prop),(∃o,s.heap.get? z=some o)->wpAny (model prog w) A (Builtin.SmallTypes.nextOf (.ref a)) (λ x s'=>∃cs:List Value,cs.length<=100/\fG s'.heap v cs/\∀h',fG h' v (cs.set j x)->Heap.SameBut v s'.heap h'->Q (.yield st) {s' with heap:=h'}) (λ _ _=>False) s->wpAny (model prog w) A (b (.ref a,j) st) Q E s):∀(rs:List Sr) (j:Nat) (cs:List Value) (s:Shared) (Q:σ->Shared->Prop),Ap rs->(∀q∈rs,q.a≠v/\q.l≠v/\q.a≠z)->fG s.heap v cs->cs.length<=100->j+rs.length<=cs.length->(∃o,s.heap.get? z=some o)->(∀q∈rs,q.on s.heap i)->(∀q∈rs,i < q.xs.size)->v≠z->
   (∀h',(∀q∈rs,q.on h' (i+1))->h'.objs.size=s.heap.objs.size->fG h' v (cs.take j++rowAt rs i++cs.drop (j+rs.length))->(∀f o,f≠v->(∀q∈rs,f≠q.a)->s.heap.get? f=some o->h'.get? f=some o)->Q st {s with heap:=h'})->
   wpAny (model prog w) A (forIn ((rs.map λ q=>Value.ref q.a).zipIdx j) st b) Q E s
 |[],j,cs,s,Q,D,ne,hv,cH,hj,hz,hq,lt,vz,k=>by have:=k s.heap (λ q h=>nomatch h) rfl (by simpa[rowAt]using hv) λ f o _ _ e=>e;exact H9 this
 |q::rs,j,cs,s,Q,D,ne,hv,cH,hj,hz,hq,lt,vz,k=>by
  have nl:=D.la q (.head _) q (.head _);obtain⟨n1,n2,n3⟩:=ne q (.head _);rw[C9,zipIdx_cons,forIn_cons];refine H0 (hb _ _ cs _ _ hz (Sr.item (hq q (.head _)) (lt q (.head _)) nl λ h1 o1 s1=>⟨cs,cH,s1.extBut _ _ n1.symm hv,λ h2 v2 s2=>?_⟩));have kp:∀f o,f≠v->f≠q.a->s.heap.get? f=some o->h2.get? f=some o:=λ f o m1 m2 e=>s2.extBut _ _ m1 (s1.extBut _ _ m2 e);obtain⟨oz,ez⟩:=hz;rw[y4]at hj;refine wF hb rs (j+1) (cs.set j (q.xs.getD i .none)) _ _ D.tail (λ r hr=>ne r (.tail _ hr)) v2 (by rw[length_set];exact cH) (by rw[length_set];omega) ⟨oz,kp _ _ vz.symm n3.symm ez⟩ (λ r hr=>Sr.keep (hq r (.tail _ hr)) (λ o e=>kp _ o (ne r (.tail _ hr)).1 (D.ne hr) e) λ o e=>kp _ o (ne r (.tail _ hr)).2.1 (D.la r (.tail _ hr) q (.head _)) e) (λ r hr=>lt r (.tail _ hr)) vz λ h3 o3 z3 v3 k3=>?_;refine k h3 (λ r hr=>?_) (z3.trans (s2.1.trans s1.1)) ?_ λ f o m1 m2 e=>k3 f o m1 (λ r hr=>m2 r (.tail _ hr)) (kp f o m1 (m2 q (.head _)) e)
  ·rcases D1.mp hr with e|hr
   ·subst e;exact Sr.keep o1 (λ o e=>k3 _ o n1 (λ t ht=>(D.ne ht).symm) (s2.extBut _ _ n1 e)) λ o e=>k3 _ o n2 (λ t ht=>D.la r (.head _) t (.tail _ ht)) (s2.extBut _ _ n2 e)
   ·exact o3 r hr
  ·have e:(cs.set j (q.xs.getD i .none)).take (j+1)++rowAt rs i++(cs.set j (q.xs.getD i .none)).drop (j+1+rs.length)=cs.take j++rowAt (q::rs) i++cs.drop (j+(rs.length+1)):=by
    have e1:(cs.set j (q.xs.getD i .none)).take (j+1)=cs.take j++[q.xs.getD i .none]:=by rw[take_add_one,take_set_of_le (G5 _),j7 (by omega)];rfl
    have e2:(cs.set j (q.xs.getD i .none)).drop (j+1+rs.length)=cs.drop (j+(rs.length+1)):=by rw[drop_set_of_lt (by omega),show j+1+rs.length=j+(rs.length+1) by omega]
    rw[e1,e2];simp[rowAt]
   rw[y4,<- e];exact v3
end
end L5
namespace L5
open PySem L2 PyProof.Rows
section
variable {prog:Program}{w:World}{A:Around}{E:Value->Shared->Prop}{s:Shared}{i:Nat}{z u v:Addr}{qs:List Sr}
theorem zR{cs:List Value}{Q:Value->Shared->Prop}(D:Zn z u v qs)(dj:qs≠[])(cH:qs.length<=100)(hz:IsZip s.heap z u v .none)(hu:fG s.heap u (qs.map λ q=>.ref q.a))(hv:fG s.heap v cs)(hl:cs.length=qs.length)(hq:∀q∈qs,q.on s.heap i)(lt:∀q∈qs,i < q.xs.size) (k:∀h',gI h' z u v s.heap.objs.size false->(∀q∈qs,q.on h' (i+1))->fG h' s.heap.objs.size (rowAt qs i)->h'.objs.size=s.heap.objs.size+1->
   (∀f o,f≠z->f≠v->(∀q∈qs,f≠q.a)->s.heap.get? f=some o->h'.get? f=some o)->Q (.ref s.heap.objs.size) {s with heap:=h'}):
  wpAny (model prog w) A (Builtin.«zip.__next__» ⟨[.ref z],[]⟩) (λ fin s'=>∃v,fin=.done (.ret v)/\Q v s') E s:=by
 refine H0 (m:=field (.ref z) 2) (G8 hz rfl (x:=.bool false) rfl ?_);refine H0 (m:=field (.ref z) 3) (G8 hz rfl (x:=.ref u) rfl ?_);refine H0 (C1 hu rfl ?_);have em:(qs.map λ q=>Value.ref q.a).toArray.isEmpty=false:=by cases qs with|nil=>exact absurd rfl dj|cons q qs=>rfl
 simp only[em];refine H0 (m:=Builtin.SmallTypes.ownedTupleIsFree (.ref z)) ?_;unfold Builtin.SmallTypes.ownedTupleIsFree;refine H0 (m:=field (.ref z) 0) (G8 hz rfl (x:=.none) rfl (H9 ?_));simp only[J7];refine H0 (J0 (H0 (G8 hz rfl (x:=.ref v) rfl (H0 (p9 hz (by simp) λ g1 z1 s1=>?_)))));have z1:IsZip g1 z u v .ellipsis:=z1;refine H0 (wF (v:=v) (z:=z) (i:=i) ?_ qs 0 cs {s with heap:=g1} _ D.ap (λ q h=>⟨(D.s q h).2.2.1,(D.s q h).2.2.2.2,(D.s q h).1⟩) (s1.extBut _ _ D.vz hv) (by rw[hl];exact cH) (by rw[hl];omega) ⟨_,z1⟩ (D.kz s1 hq) lt D.vz λ g2 o2 e2 v2 k2=>?_)
 ·intro a j cs s2 Q2 UK h;refine H0 (wpAny_onRaise (H0 (m:=Builtin.SmallTypes.nextOf (.ref a)) (J3 h (λ x s' h'=>H9 ?_) λ _ _ e=>e.elim)));obtain⟨Y1,h0,h1,h2⟩:=h';refine H0 (C1 h1 rfl (H0 (B9 h1 rfl (H0 (G9 (H9 (h2 _ ?_ (l8 ..))))) (by rw[x8];exact D9 h0 (by decide)) (by rw[Array.size_setIfInBounds,x8];exact D9 h0 (by decide)))));unfold fG;rw[j8 _ h1 rfl];simp[Obj.mapSeq]
 ·rw[take_zero,nil_append,drop_eq_nil_of_le (by rw[hl];omega),A6]at v2;refine H0 (C1 v2 rfl (H0 (wpAny_newTuple ?_ (by show(rowAt qs i).length<=sizeLine;rw[B5];exact D9 cH (by decide)))));have ez:g2.objs.size=s.heap.objs.size:=e2.trans s1.1;have z2:IsZip g2 z u v .ellipsis:=k2 _ _ D.vz.symm (λ q h=>(D.s q h).1.symm) z1;have UE:z < g2.objs.size:=D6 z2;refine H0 (m:=Builtin.SmallTypes.ownedTupleHandOut (.ref z) (.ref g2.objs.size)) ?_;unfold Builtin.SmallTypes.ownedTupleHandOut;have z6:IsZip (g2.push {cls:=.type "tuple",data:=.seq (rowAt qs i).toArray}) z u v .ellipsis:=j5 _ z2;refine H0 (p9 z6 (by simp) λ g7 z7 s7=>p9 (show IsZip g7 z u v (rawInt g2.objs.size)from z7) (by simp) λ g8 z8 s8=>?_);have z8:IsZip g8 z u v (rawInt g2.objs.size):=z8;have go:∀f o,f≠z->g2.get? f=some o->g8.get? f=some o:=λ f o n1 e=>s8.extBut _ _ n1 (s7.extBut _ _ n1 (j5 _ e));have t8:fG g8 g2.objs.size (rowAt qs i):=s8.extBut _ _ (E8 UE) (s7.extBut _ _ (E8 UE) (m9 _ rfl));have e8:g8.objs.size=g2.objs.size+1:=by rw[s8.1,s7.1,C2]
  rw[ez]at z8 t8 e8;refine H9 ⟨_,rfl,?_⟩;show Q (.ref g2.objs.size) _;rw[ez];exact k g8 z8 (λ q h=>Sr.keep (o2 q h) (λ o e=>go _ o (D.s q h).1 e) λ o e=>go _ o (D.s q h).2.2.2.1 e) t8 e8 λ f o n1 n2 n3 e=>go f o n1 (k2 f o n2 n3 (s1.extBut _ _ n1 e))
def nO(h:Heap)(z u v:Addr)(qs:List Sr)(i N0:Nat):Prop:=fG h u (qs.map λ q=>.ref q.a)/\(∀q∈qs,q.on h i)/\
 ((i=0/\IsZip h z u v .none/\∃cs,fG h v cs/\cs.length=qs.length)\/∃(r:Addr) (f1:Bool) (o:Obj),gI h z u v r f1/\h.get? r=some o/\N0<=r)
def tG(h:Heap)(qs:List Sr)(N0:Nat)(ps:List Addr):Prop:=ps.Nodup/\∀(j:Nat) (p:Addr),ps[j]?=some p->N0<=p/\fG h p (rowAt qs j)
theorem LY{N0:Nat}{Q:Option Value->Shared->Prop}(D:Zn z u v qs)(dj:qs≠[])(cH:qs.length<=100)(hN:N0<=s.heap.objs.size)(hz:z < N0)(hv:v < N0)(my:∀q∈qs,q.a < N0)(Z:nO s.heap z u v qs i N0)(lt:∀q∈qs,i < q.xs.size) (k:∀h',nO h' z u v qs (i+1) N0->fG h' s.heap.objs.size (rowAt qs i)->h'.objs.size=s.heap.objs.size+1->(∀f o,f≠z->f≠v->(∀q∈qs,f≠q.a)->s.heap.get? f=some o->h'.get? f=some o)->Q (some (.ref s.heap.objs.size)) {s with heap:=h'}):wpAny (model prog w) A (pyNext (.ref z)) Q E s:=by
 obtain⟨hu,hq,zz⟩:=Z;have ku:∀h':Heap,(∀f o,f≠z->f≠v->(∀q∈qs,f≠q.a)->s.heap.get? f=some o->h'.get? f=some o)->fG h' u (qs.map λ q=>.ref q.a):=λ h' kp=>kp _ _ D.uz D.uv (λ q h=>(D.s q h).2.1.symm) hu;have ty:s.TypeIs (.ref z) "zip":=by
  rcases zz with⟨_,q,_⟩|⟨r,f1,o,q,_⟩
  ·exact⟨_,q,rfl⟩
  ·exact⟨_,q,rfl⟩
 unfold pyNext;refine H0 (C6 (i9 (name:=Str.ofString "__next__") ty F.slot_zip_next (y8 F.slot_zip_next ty F.entry_zip_next ?_ (F.args_zip_next_1 _))));rcases zz with⟨rfl,q,cs,q2,q3⟩|⟨r,f1,o,q,q2,q3⟩
 ·exact zR D dj cH q hu q2 q3 hq lt λ h' a1 a2 a3 a4 a5=>H9 (k h' ⟨ku h' a5,a2,.inr ⟨s.heap.objs.size,false,_,a1,a3,hN⟩⟩ a3 a4 a5)
 ·refine El D dj cH q q2 hu hq lt λ h' a1 a2 a3 a4 a5=>H9 (k h' ⟨ku h' λ f o n1 _ n3 e=>a5 f o n1 n3 e,a2,.inr ⟨r,true,o,a1,a5 _ _ (E8 (q9 hz q3)) (λ t ht=>E8 (q9 (my t ht) q3)) q2,q3⟩⟩ a3 a4 λ f o n1 _ n3 e=>a5 f o n1 n3 e)
theorem L'{N0:Nat}{Q:Option Value->Shared->Prop}(hA:A.handled=none)(D:Zn z u v qs)(Z:nO s.heap z u v qs i N0)(hi:i≠0)(ge:∃q∈qs,q.xs.size<=i) (k:∀h',(∀f o,f≠z->f≠v->(∀q∈qs,f≠q.a)->s.heap.get? f=some o->h'.get? f=some o)->Q none {s with heap:=h'}):wpAny (model prog w) A (pyNext (.ref z)) Q E s:=by
 obtain⟨hu,hq,zz⟩:=Z;rcases zz with⟨z0,_⟩|⟨r,f1,o,q,q2,q3⟩
 ·exact absurd z0 hi
 ·have ty:s.TypeIs (.ref z) "zip":=⟨_,q,rfl⟩;unfold pyNext;refine H0 (C6 (i9 (name:=Str.ofString "__next__") ty F.slot_zip_next (y8 F.slot_zip_next ty F.entry_zip_next ?_ (F.args_zip_next_1 _))));refine qH hA D q q2 hu hq ge λ h' e kp oe=>?_;obtain⟨ob,W0,WZ⟩:=oe;exact H0 (A4 (T:="StopIteration") (b:=true) ⟨ob,W0,WZ⟩ isSubtype_stop (H9 (k _ λ f o n1 _ n3 e=>kp f o n1 n3 e)))
theorem nO.keep {h h':Heap}{S:Addr}{N0:Nat}(x:nO h z u v qs i N0)(hS:S < N0)(n1:S≠z)(n2:S≠u)(n3:S≠v)(n4:∀q∈qs,S≠q.a/\S≠q.l)(k:∀f o,f≠S->h.get? f=some o->h'.get? f=some o):nO h' z u v qs i N0:=by
 obtain⟨a1,a2,a4⟩:=x;refine⟨k _ _ n2.symm a1,λ q hq=>Sr.keep (a2 q hq) (λ o e=>k _ o (n4 q hq).1.symm e) λ o e=>k _ o (n4 q hq).2.symm e,?_⟩;rcases a4 with⟨z0,q,cs,q2,q3⟩|⟨r,f1,o,q1,q2,q3⟩
 ·exact .inl ⟨z0,k _ _ n1.symm q,cs,k _ _ n3.symm q2,q3⟩
 ·exact .inr ⟨r,f1,o,k _ _ n1.symm q1,k _ _ (E8 (q9 hS q3)) q2,q3⟩
theorem PJ{R:Result->Shared->Prop}{S:Addr}{N0 n:Nat}(hA:A.in1.handled=none)(D:Zn z u v qs)(dj:qs≠[])(cH:qs.length<=100)(hn:n<=10000)(xh:n≠0)(hsz:∀q∈qs,q.xs.size=n) (hz:z < N0) (hv:v < N0) (my:∀q∈qs,q.a < N0) (hS:S < N0) (n1:S≠z) (n2:S≠u) (n3:S≠v) (n4:∀q∈qs,S≠q.a/\S≠q.l) (res:Value):∀(k i:Nat) (s:Shared) (ps:List Addr) (c:Nat),n - i=k->i<=n->ps.length=i->N0<=s.heap.objs.size->nO s.heap z u v qs i N0->
   s.heap.get? S=some {cls:=.type "list",dict:=none,data:=.seq (ps.map Value.ref).toArray c,slots:=#[]}->tG s.heap qs N0 ps->
   (∀(h':Heap) (Li:List Addr) (c':Nat),(∀f o,f≠z->f≠v->(∀q∈qs,f≠q.a)->f≠S->s.heap.get? f=some o->h'.get? f=some o)->h'.get? S=some {cls:=.type "list",dict:=none,data:=.seq (Li.map Value.ref).toArray c',slots:=#[]}->Li.length=n->tG h' qs N0 Li->R (.ok (.ret res)) {s with heap:=h'})->
   codeAny (model prog w) A (.builtin "list.extend.loop" ⟨[.ref S,.ref z,res],[]⟩) R s:=by
 intro k
 induction k with
 |zero=>intro i s ps c hk hi hp hN Z TM pr hR;refine B3 F.entry_extend_loop ?_;rw[l6 n9 _];show wpAny _ A.in1 (pyNext (.ref z) >>= _) _ _ s;obtain⟨q0,h0⟩:=exists_mem_of_ne_nil _ dj;refine H0 (L' hA D Z (by omega) ⟨q0,h0,by rw[hsz q0 h0];omega⟩ λ h' kp=>H9 ?_);refine hR h' ps c (λ f o m1 m2 m3 _ e=>kp f o m1 m2 m3 e) (kp _ _ n1 n3 (λ q h=>(n4 q h).1) TM) (by omega) ⟨pr.1,λ j p e=>?_⟩;obtain⟨mz,e3⟩:=pr.2 j p e;exact⟨mz,kp _ _ (E8 (q9 hz mz)) (E8 (q9 hv mz)) (λ q h=>E8 (q9 (my q h) mz)) e3⟩
 |succ k ih=>
  intro i s ps c hk hi hp hN Z TM pr hR;refine B3 F.entry_extend_loop ?_;rw[l6 n9 _];show wpAny _ A.in1 (pyNext (.ref z) >>= _) _ _ s;refine H0 (LY D dj cH hN hz hv my Z (λ q h=>by rw[hsz q h];omega) λ h' Z' t1 sz kp=>?_);have C_:=kp _ _ n1 n3 (λ q h=>(n4 q h).1) TM;show wpAny _ A.in1 (updateSeq S (·.push (.ref s.heap.objs.size)) >>= λ _=>again (.builtin "list.extend.loop" ⟨[.ref S,.ref z,res],[]⟩)) _ _ _;refine H0 ?_;have hlen:(ps.map Value.ref).toArray.size=i:=by rw[x8,B5,hp]
  have ot:∀f o,f≠S->h'.get? f=some o->(h'.update S (Obj.mapSeq (·.push (.ref s.heap.objs.size)))).get? f=some o:=λ f o ne e=>(j6 _ _ (J6 ne)).trans e;refine B9 C_ rfl (H9 ⟨D3 n9 _,ih (i+1) _ (ps++[s.heap.objs.size]) (c+1) (by omega) (by omega) (by rw[p6,hp];rfl) ?_ (Z'.keep hS n1 n2 n3 n4 ot) ?_ ?_ ?_⟩) (by rw[hlen];exact D9 (show i<=10000 by omega) (by decide)) (by rw[Array.size_push,hlen];exact D9 (show i+1<=10001 by omega) (by decide))
  ·show N0<=(h'.update S _).objs.size;rw[A3,sz];exact Nat.le_succ_of_le hN
  ·rw[j8 _ C_ rfl];simp[Obj.mapSeq]
  ·refine⟨nodup_append.mpr ⟨pr.1,by simp,λ q hq q' Ws ee=>?_⟩,?_⟩
   ·obtain⟨j,hj⟩:=mem_iff_getElem?.mp hq;have lt:=D6 (pr.2 j q hj).2;rw[ee,r6.mp Ws]at lt;exact C8 _ lt
   intro j p e;by_cases hj:j < ps.length
   ·rw[c8 hj]at e;obtain⟨mz,e3⟩:=pr.2 j p e;exact⟨mz,ot _ _ (E8 (q9 hS mz)) (kp _ _ (E8 (q9 hz mz)) (E8 (q9 hv mz)) (λ q h=>E8 (q9 (my q h) mz)) e3)⟩
   ·rw[c6 (by omega)]at e;have WU:j - ps.length=0:=by have:=(g9.mp e).1;simp at this;omega
    rw[WU]at e;have ep:s.heap.objs.size=p:=by simpa using e
    have ej:j=i:=by omega
    subst ej;rw[<- ep];exact⟨hN,ot _ _ (E8 (q9 hS hN)) t1⟩
  ·intro h2 Li c' V5 gb Pj VW;exact hR h2 Li c' (λ f o m1 m2 m3 m5 e=>V5 f o m1 m2 m3 m5 (ot f o m5 (kp f o m1 m2 m3 e))) gb Pj VW
end
end L5
namespace L5
open PySem L2 PyProof.Rows
theorem lC(a b c:Value):checkTypeCall "zip" ⟨[a,b,c],[]⟩=pure ():=by kernel_rfl
theorem nu(a b c:Value):checkBuiltinCall "zip.__new__" ⟨[.type "zip",a,b,c],[]⟩=pure ():=by kernel_rfl
theorem iz(a b c d:Value):argsOk "object.__init__" ⟨[a,b,c,d],[]⟩:=by unfold argsOk;rw[signature?_of (id:="object.__init__") (n:=['_','_','t','i','n','i','_','_']) (o:=['t','c','e','j','b','o']) (by kernel_rfl) F.owner_object];kernel_rfl
abbrev zh(b:Bool)(h:Heap)(l:Addr):Heap:=h.push {cls:=.type (Qx b),data:=.fields #[.ref l,.int 0 0]}
abbrev z3(b c d:Bool)(h:Heap)(l m n:Addr):Heap:=zh d (zh c (zh b h l) m) n
abbrev z4(b c d:Bool)(h:Heap)(l m n:Addr):Heap:=(z3 b c d h l m n).push {cls:=.type "tuple",data:=.seq #[.ref h.objs.size,.ref (zh b h l).objs.size,.ref (zh c (zh b h l) m).objs.size]}
abbrev z5(b c d:Bool)(h:Heap)(l m n:Addr):Heap:=(z4 b c d h l m n).push {cls:=.type "tuple",data:=.seq #[.none,.none,.none]}
abbrev z6(b c d:Bool)(h:Heap)(l m n:Addr):Heap:=(z5 b c d h l m n).push {cls:=.type "zip",data:=.fields #[.none,.bool false,.bool false,.ref (z3 b c d h l m n).objs.size,.ref (z4 b c d h l m n).objs.size]}
theorem tS(b c d:Bool)(l m n:Addr)(xs ys zs:Array Value):Meets (Builtin.«zip.__new__» ⟨[.type "zip",.ref l,.ref m,.ref n],[]⟩) (λ _ R s=>fN b s.heap l xs/\fN c s.heap m ys/\fN d s.heap n zs/\R (.ok (.ret (.ref (z5 b c d s.heap l m n).objs.size))) {s with heap:=z6 b c d s.heap l m n}):=
 .of_wp λ prog w A R s h=>by
  obtain⟨hp,g,dr,tk,os⟩:=s;obtain⟨a1,a2,a3,h⟩:=h;have sz:=sub_zip;have b1:fN b (Shared.heap ⟨hp,g,dr,tk,os⟩) l xs:=a1;have b2:fN c (Shared.heap ⟨zh b hp l,g,dr,tk,os⟩) m ys:=(gA c).keep a2 λ o e=>j5 _ e;have b3:fN d (Shared.heap ⟨zh c (zh b hp l) m,g,dr,tk,os⟩) n zs:=(gA d).keep a3 λ o e=>j5 _ (j5 _ e)
  wp_walk using(gA b).start b1,(gA c).start b2,(gA d).start b3
  exact⟨_,rfl,h⟩
section
variable {prog:Program}{w:World}{A:Around}{E:Value->Shared->Prop}{s:Shared}
theorem Sr.new {h:Heap}{a l:Addr}{b:Bool}{xs:Array Value}(h1:kr (Qx b) h a l 0)(h2:fN b h l xs):Sr.on ⟨a,l,b,xs⟩ h 0:=by
 cases b
 ·exact⟨h1,h2⟩
 ·exact⟨h1,h2⟩
theorem oX{b:Bool}{h:Heap}{l:Addr}{xs:Array Value}(x:fN b h l xs):l < h.objs.size:=by
 cases b
 ·obtain⟨o,e,_⟩:=x;exact D6 e
 ·obtain⟨o,e,_⟩:=x;exact D6 e
theorem GW{b c d:Bool}{l m n:Addr}{xs ys zs:Array Value}{Q:Value->Shared->Prop}(a1:fN b s.heap l xs)(a2:fN c s.heap m ys)(a3:fN d s.heap n zs) (k:∀(h':Heap) (qs:List Sr),qs=[⟨s.heap.objs.size,l,b,xs⟩,⟨s.heap.objs.size+1,m,c,ys⟩,⟨s.heap.objs.size+2,n,d,zs⟩]->Zn (s.heap.objs.size+5) (s.heap.objs.size+3) (s.heap.objs.size+4) qs->IsZip h' (s.heap.objs.size+5) (s.heap.objs.size+3) (s.heap.objs.size+4) .none->(∀N,nO h' (s.heap.objs.size+5) (s.heap.objs.size+3) (s.heap.objs.size+4) qs 0 N)->
   h'.objs.size=s.heap.objs.size+6->(∀f o,s.heap.get? f=some o->h'.get? f=some o)->Q (.ref (s.heap.objs.size+5)) {s with heap:=h'}):
  wpAny (model prog w) A (call (.type "zip") [.ref l,.ref m,.ref n]) Q E s:=by
 refine callType_new F.called_zip (by decide) (lC _ _ _) (nu _ _ _) (λ ob=>iz ob _ _ _) F.entry_zip_new (tS b c d l m n xs ys zs) ⟨a1,a2,a3,?_⟩;have e1:(zh b s.heap l).objs.size=s.heap.objs.size+1:=C2 ..;have e2:(zh c (zh b s.heap l) m).objs.size=s.heap.objs.size+2:=by rw[C2,e1]
 have e3:(z3 b c d s.heap l m n).objs.size=s.heap.objs.size+3:=by rw[C2,e2]
 have e4:(z4 b c d s.heap l m n).objs.size=s.heap.objs.size+4:=by rw[C2,e3]
 have e5:(z5 b c d s.heap l m n).objs.size=s.heap.objs.size+5:=by rw[C2,e4]
 have e6:(z6 b c d s.heap l m n).objs.size=s.heap.objs.size+6:=by rw[C2,e5]
 have u5:∀f o,(z5 b c d s.heap l m n).get? f=some o->(z6 b c d s.heap l m n).get? f=some o:=λ f o e=>j5 _ e;have u4:∀f o,(z4 b c d s.heap l m n).get? f=some o->(z6 b c d s.heap l m n).get? f=some o:=λ f o e=>u5 f o (j5 _ e);have u3:∀f o,(z3 b c d s.heap l m n).get? f=some o->(z6 b c d s.heap l m n).get? f=some o:=λ f o e=>u4 f o (j5 _ e);have u2:∀f o,(zh c (zh b s.heap l) m).get? f=some o->(z6 b c d s.heap l m n).get? f=some o:=λ f o e=>u3 f o (j5 _ e);have u1:∀f o,(zh b s.heap l).get? f=some o->(z6 b c d s.heap l m n).get? f=some o:=λ f o e=>u2 f o (j5 _ e);have u0:∀f o,s.heap.get? f=some o->(z6 b c d s.heap l m n).get? f=some o:=λ f o e=>u1 f o (j5 _ e);have g6:(z6 b c d s.heap l m n).get? (z5 b c d s.heap l m n).objs.size=some _:=m9 _ rfl;have g5:=u5 _ _ (m9 (z4 b c d s.heap l m n) rfl);have g4:=u4 _ _ (m9 (z3 b c d s.heap l m n) rfl);have g3:=u3 _ _ (m9 (zh c (zh b s.heap l) m) rfl);have g2:=u2 _ _ (m9 (zh b s.heap l) rfl);have g1:=u1 _ _ (m9 s.heap rfl);rw[e3,e4,e5]at g6;rw[e4]at g5;rw[e1,e2,e3]at g4;rw[e2]at g3;rw[e1]at g2;show _/\_;rw[e5];refine⟨⟨_,g6,rfl⟩,k _ _ rfl ?_ g6 (λ N=>⟨g4,?_,.inl ⟨rfl,g6,_,g5,rfl⟩⟩) e6 u0⟩
 ·have lo:∀{x:Addr} (i:Nat),x < s.heap.objs.size->x≠s.heap.objs.size+i:=λ i h=>D5 (q9 h (A2 _ i));have ne:∀i j:Nat,i≠j->s.heap.objs.size+i≠s.heap.objs.size+j:=λ i j h e=>h (Nat.add_left_cancel e);have hl:=oX a1;have hm:=oX a2;have hn:=oX a3;refine⟨⟨?_,?_⟩,ne 3 5 (by decide),ne 4 5 (by decide),ne 3 4 (by decide),?_⟩
  ·refine nodup_cons.mpr ⟨?_,nodup_cons.mpr ⟨?_,by simp⟩⟩
   ·simp only[C9,E5,D1,not_mem_nil,or_false];exact λ z=>z.elim (ne 0 1 (by decide)) (ne 0 2 (by decide))
   ·simp only[C9,E5,D1,not_mem_nil,or_false];exact ne 1 2 (by decide)
  ·simp only[D1,not_mem_nil,or_false,forall_eq_or_imp,forall_eq];exact⟨⟨lo 0 hl,lo 1 hl,lo 2 hl⟩,⟨lo 0 hm,lo 1 hm,lo 2 hm⟩,lo 0 hn,lo 1 hn,lo 2 hn⟩
  ·simp only[D1,not_mem_nil,or_false,forall_eq_or_imp,forall_eq];exact⟨⟨ne 0 5 (by decide),ne 0 3 (by decide),ne 0 4 (by decide),lo 5 hl,lo 4 hl⟩,⟨ne 1 5 (by decide),ne 1 3 (by decide),ne 1 4 (by decide),lo 5 hm,lo 4 hm⟩,ne 2 5 (by decide),ne 2 3 (by decide),ne 2 4 (by decide),lo 5 hn,lo 4 hn⟩
 ·simp only[D1,not_mem_nil,or_false,forall_eq_or_imp,forall_eq];exact⟨Sr.new ⟨_,g1,rfl,rfl⟩ ((gA b).keep a1 λ o e=>u0 _ o e),Sr.new ⟨_,g2,rfl,rfl⟩ ((gA c).keep a2 λ o e=>u0 _ o e),Sr.new ⟨_,g3,rfl,rfl⟩ ((gA d).keep a3 λ o e=>u0 _ o e)⟩
end
end L5
namespace L5
open PySem L2 PyProof.Rows
section
variable {prog:Program}{w:World}{A:Around}{E:Value->Shared->Prop}{s:Shared}
theorem nN{z u v:Addr}{qs:List Sr}{n:Nat}{Q:Value->Shared->Prop}(hA:A.handled=none)(D:Zn z u v qs)(dj:qs≠[])(cH:qs.length<=100)(hn:n<=10000)(xh:n≠0)(hsz:∀q∈qs,q.xs.size=n) (hz:z < s.heap.objs.size) (hu:u < s.heap.objs.size) (hv:v < s.heap.objs.size) (my:∀q∈qs,q.a < s.heap.objs.size/\q.l < s.heap.objs.size) (hZ:IsZip s.heap z u v .none) (Z:∀N,nO s.heap z u v qs 0 N) (hQ:∀(h':Heap) (ps:List Addr) (c:Nat),(∀f o,f≠z->f≠v->(∀q∈qs,f≠q.a)->s.heap.get? f=some o->h'.get? f=some o)->h'.get? s.heap.objs.size=some {cls:=.type "list",data:=.seq (ps.map Value.ref).toArray c}->ps.length=n->tG h' qs (s.heap.objs.size+1) ps->Q (.ref s.heap.objs.size) {s with heap:=h'}):wpAny (model prog w) A (call (.type "list") [.ref z]) Q E s:=by
 have Z:=Z (s.heap.objs.size+1);refine callType_codes (Q₁:=λ obj s₁=>obj=.ref s.heap.objs.size/\s₁={s with heap:=s.heap.push {cls:=.type "list",data:=.seq #[]}}) F.called_list (F.typeCall_list_1 _) F.entry_list_init
  (code_list_new _ ⟨rfl,rfl⟩) λ obj s₁ h₁=>?_
 obtain⟨rfl,rfl⟩:=h₁;have up:∀f o,s.heap.get? f=some o->(s.heap.push {cls:=.type "list",data:=.seq #[]}).get? f=some o:=λ f o e=>j5 _ e;have hS:(s.heap.push {cls:=.type "list",data:=.seq #[]}).get? s.heap.objs.size=some {cls:=.type "list",data:=.seq #[]}:=m9 _ rfl;have sz:(s.heap.push {cls:=.type "list",data:=.seq #[]}).objs.size=s.heap.objs.size+1:=C2 ..;have Z:nO (s.heap.push {cls:=.type "list",data:=.seq #[]}) z u v qs 0 (s.heap.objs.size+1):=Z.keep (Nat.lt_succ_self _) (E8 hz) (E8 hu) (E8 hv) (λ q h=>⟨E8 (my q h).1,E8 (my q h).2⟩) λ f o _ e=>up f o e;have hZ:=up _ _ hZ;refine⟨⟨_,hS,rfl⟩,F.args_list_init_2 _ _,?_⟩;have hQ:∀(h':Heap) (ps:List Addr) (c:Nat),(∀f o,f≠z->f≠v->(∀q∈qs,f≠q.a)->f≠s.heap.objs.size->(s.heap.push {cls:=.type "list",data:=.seq #[]}).get? f=some o->h'.get? f=some o)->h'.get? s.heap.objs.size=some {cls:=.type "list",data:=.seq (ps.map Value.ref).toArray c}->ps.length=n->tG h' qs (s.heap.objs.size+1) ps->Q (.ref s.heap.objs.size) {s with heap:=h'}:=
  λ h' ps c kp a b d=>hQ h' ps c (λ f o n1 n2 n3 e=>kp f o n1 n2 n3 (D5 (D6 e)) (up f o e)) a b d
 generalize s.heap.push {cls:=.type "list",data:=.seq #[]}=g at*;generalize hN:s.heap.objs.size=N at*;show wpAny _ _ (do let old <- Builtin.List.listItems (.ref N);Builtin.List.listUpdate (.ref N) (λ _=>#[]);letGo old.toList.reverse;Builtin.List.listExtendWith (.ref N) (.ref z) .none) _ _ _;refine H0 ?_;unfold Builtin.List.listItems;refine H0 (C1 hS rfl (H9 ?_));show wpAny _ _ (updateSeq N (λ _=>#[]) >>= λ _=>letGo (#[]:Array Value).toList.reverse >>= λ _=>Builtin.List.listExtendWith (.ref N) (.ref z) .none) _ _ _;refine H0 (B9 hS rfl ?_);have Vd:=j8 (Obj.mapSeq (λ _=>(#[]:Array Value))) hS rfl;have o2:∀b o,b≠N->g.get? b=some o->(g.update N (Obj.mapSeq (λ _=>(#[]:Array Value)))).get? b=some o:=λ b o hb e=>(j6 _ _ (J6 hb)).trans e;have s2:(g.update N (Obj.mapSeq (λ _=>(#[]:Array Value)))).objs.size=N+1:=by rw[A3,sz]
 refine H0 (G9 ?_);have nz:N≠z:=E8 hz;have Z2:=Z.keep (Nat.lt_succ_self _) nz (E8 hu) (E8 hv) (λ q h=>⟨E8 (my q h).1,E8 (my q h).2⟩) o2;have Rr:=o2 _ _ nz.symm hZ;have hQ:∀(h':Heap) (ps:List Addr) (c:Nat),(∀f o,f≠z->f≠v->(∀q∈qs,f≠q.a)->f≠N->(g.update N (Obj.mapSeq (λ _=>(#[]:Array Value)))).get? f=some o->h'.get? f=some o)->h'.get? N=some {cls:=.type "list",data:=.seq (ps.map Value.ref).toArray c}->ps.length=n->tG h' qs (N+1) ps->Q (.ref N) {s with heap:=h'}:=
  λ h' ps c kp a b d=>hQ h' ps c (λ f o n1 n2 n3 n4 e=>kp f o n1 n2 n3 n4 (o2 f o n4 e)) a b d
 generalize g.update N (Obj.mapSeq (λ _=>(#[]:Array Value)))=g2 at*;have hT:Shared.TypeIs {s with heap:=g2} (.ref z) "zip":=⟨_,Rr,rfl⟩;unfold Builtin.List.listExtendWith;refine H0 (E6 hT ?_);have h1:Builtin.List.listSameRef (.ref N) (.ref z)=false:=by simp[Builtin.List.listSameRef,nz]
 have h2:(Value.type "zip"==Value.type "list")=false:=by decide
 have h3:(Value.type "zip"==Value.type "tuple")=false:=by decide
 simp only[h1,h2,h3,Bool.or_false,p7,J4];refine H0 (wpAny_pyIter_zip Rr ?_);refine H0 (C5 ?_);unfold Builtin.List.listLengthHint;refine H0 (wpAny_specialOf hT tR ?_);show wpAny _ _ (specialOf (Value.ref z) (Str.ofString "__length_hint__") >>= _) _ _ _;refine H0 (wpAny_specialOf hT qJ ?_);refine H9 ?_;show wpAny _ _ (rule "list.extend.makes-room" >>= λ _=>Builtin.List.listTouch (.ref N) >>= λ _=>again (.builtin "list.extend.loop" ⟨[.ref N,.ref z,.none],[]⟩)) _ _ _;refine H0 (J0 ?_);refine H0 ?_;show wpAny _ _ (updateSeq N (·.push .none) >>= λ _=>updateSeq N (·.pop)) _ _ _;refine H0 (B9 Vd rfl ?_ (by size_fits) (by simp[Obj.mapSeq]));have Vc:=j8 (Obj.mapSeq (·.push Value.none)) Vd rfl;refine B9 (hz:=by seq_fits) Vc rfl ?_;have Xb:=j8 (Obj.mapSeq (·.pop)) Vc rfl;have o4:∀b o,b≠N->g2.get? b=some o->((g2.update N (Obj.mapSeq (·.push Value.none))).update N (Obj.mapSeq (·.pop))).get? b=some o:=
  λ b o hb e=>(j6 _ _ (J6 hb)).trans ((j6 _ _ (J6 hb)).trans e)
 have Z4:=Z2.keep (Nat.lt_succ_self _) nz (E8 hu) (E8 hv) (λ q h=>⟨E8 (my q h).1,E8 (my q h).2⟩) o4;refine H9 ⟨D3 n9 _,?_⟩;have lt:∀{x:Nat},x < N->x < N+1:=λ h=>x9 h;refine PJ (prog:=prog) (w:=w) (A:=A.in1) (R:=wants (λ r s₂=>r=Value.none/\Q (Value.ref N) s₂) E) (S:=N) (N0:=N+1) hA D dj cH hn xh hsz (lt hz) (lt hv) (λ q h=>lt (my q h).1) (Nat.lt_succ_self _) nz (E8 hu) (E8 hv) (λ q h=>⟨E8 (my q h).1,E8 (my q h).2⟩) _ _ 0 {s with heap:=(g2.update N (Obj.mapSeq (·.push Value.none))).update N (Obj.mapSeq (·.pop))} [] _ rfl (G7 _) rfl ?_ Z4 Xb ⟨.nil,λ j p e=>by simp at e⟩ λ h' Li c' kp jf zL VX=>⟨rfl,?_⟩
 ·show N+1<=_;rw[A3,A3,s2];exact G5 _
 ·exact hQ h' Li c' (λ f o n1 n2 n3 n4 e=>kp f o n1 n2 n3 n4 (o4 f o n4 e)) jf zL VX
end
end L5
namespace L2
open PySem PySem.Spec PyProof.Rows L5
def k_{α:Type}:List α->List α->List α->List (List α)
 |x::xs,y::ys,z::zs=>[x,y,z]::k_ xs ys zs
 |_,_,_=>[]
theorem vP{α:Type}:∀{xs ys zs:List α} {j:Nat} {r:List α},(k_ xs ys zs)[j]?=some r->∃x y z,xs[j]?=some x/\ys[j]?=some y/\zs[j]?=some z/\r=[x,y,z]
 |x::xs,y::ys,z::zs,0,r,e=>⟨x,y,z,rfl,rfl,rfl,(B0 e).symm⟩
 |x::xs,y::ys,z::zs,j+1,r,e=>vP (xs:=xs) (ys:=ys) (zs:=zs) (j:=j) e
 |[],_,_,j,r,e=>by simp[k_]at e
 |_::_,[],_,j,r,e=>by simp[k_]at e
 |_::_,_::_,[],j,r,e=>by simp[k_]at e
theorem zS{α:Type}{n:Nat}:∀{xs ys zs:List α},xs.length=n->ys.length=n->zs.length=n->(k_ xs ys zs).length=n:=by
 induction n with
 |zero=>intro xs ys zs h1 h2 h3;rw[eq_nil_of_length_eq_zero h1];rfl
 |succ n ih=>
  intro xs ys zs h1 h2 h3;cases xs with
  |nil=>cases h1
  |cons x xs=>cases ys with
   |nil=>cases h2
   |cons y ys=>cases zs with
    |nil=>cases h3
    |cons z zs=>exact J5 (·+1) (ih (Nat.succ.inj h1) (Nat.succ.inj h2) (Nat.succ.inj h3))
inductive Jv:Hp->List (List V)->List Addr->Hp->Prop
 |nil {H}:Jv H [] [] H
 |cons {H r rs p ps H'}:H p=none->Jv (upd H p (.tup r)) rs ps H'->Jv H (r::rs) (p::ps) H'
section
variable {X:Cx}{pins:List (Addr×Obj)}{σ:St}{H:Hp}{s s':Shared}
theorem lE(I0:Inv X pins σ H s){h':Heap}:∀(ps:List Addr) (rs:List (List V)) (H1:Hp),Inv X pins σ H1 {s with heap:=h'}->ps.length=rs.length->ps.Nodup->(∀p∈ps,s.heap.objs.size<=p/\H1 p=none)-> (∀(j:Nat) (p:Addr) (r:List V),ps[j]?=some p->rs[j]?=some r->r.length<=sizeLine/\∃us,Vals r us/\fG h' p us)->∃H2,Jv H1 rs ps H2/\Inv X pins σ H2 {s with heap:=h'}/\∀b,b∉ps->H2 b=H1 b
 |[],rs,H1,I,hl,_,_,_=>by
  cases rs with
  |nil=>exact⟨H1,.nil,I,λ b _=>rfl⟩
  |cons r rs=>cases hl
 |p::ps,rs,H1,I,hl,nd,hf,pr=>by
  cases rs with
  |nil=>cases hl
  |cons r rs=>
   obtain⟨f1,us,q1,t⟩:=pr 0 p r rfl rfl;obtain⟨mz,ik⟩:=hf p o8;have fo:=I0.iZ (H':=H1) mz ik;have I1:Inv X pins σ (upd H1 p (.tup r)) {s with heap:=h'}:=Inv.lF I ik ⟨f1,us,q1,⟨_,t,rfl,_,rfl⟩⟩ fo.2.1 (D9 I0.sz mz) fo.2.2.2.2.1 fo.2.2.2.2.2;have UC:=nodup_cons.mp nd;obtain⟨H2,z1,z2,z3⟩:=lE I0 ps rs (upd H1 p (.tup r)) I1 (by simpa using hl) UC.2 (λ p' O'=>by
    obtain⟨a1,a2⟩:=hf p' (k9 _ O');exact⟨a1,by rw[bg (λ e:p'=p=>UC.1 (by rw[<- e];exact O'))];exact a2⟩) λ j p' r' e e'=>pr (j+1) p' r' (by simpa using e) (by simpa using e')
   refine⟨H2,.cons ik z1,z2,λ b hb=>?_⟩;rw[z3 b λ z=>hb (k9 _ z),bg (λ e:b=p=>hb (by rw[e];exact o8))]
end
section
variable {X:Cx}{e1 e2 e3:Expr}{ta:TA}{p p2 pos bw:Pos}
theorem vals3{x y z:V}{us:List Value}(r:Vals [x,y,z] us):∃a b c,us=[a,b,c]/\RelV x a/\RelV y b/\RelV z c:=by
 cases r with
 |cons a r=>cases r with
  |cons b r=>cases r with
   |cons c r=>cases r with
    |nil=>exact⟨_,_,_,rfl,a,b,c⟩
def VH(K:K2)(ta:TA):TE:=λ σ H Q=>ta σ H λ vs H1=>∃(b c d:Bool) (l m n:Addr) (xs ys zs:List V) (k:Nat),vs=[.ref l,.ref m,.ref n]/\Sq b K H1 l xs/\Sq c K H1 m ys/\Sq d K H1 n zs/\xs.length=k/\ys.length=k/\zs.length=k/\k≠0/\k<=10000/\
 ∀(ps:List Addr) (H2:Hp) (r:Addr),Jv H1 (k_ xs ys zs) ps H2->H2 r=none->Q (.ref r) (upd H2 r (.lst (ps.map V.ref)))
theorem Gn(hc:X.calm=true)(hg:Gl X "list")(hm:X.mg "list"=none)(ve:Gl X "zip")(vc:X.mg "zip"=none)(ha:PA X [e1,e2,e3] ta) (hs:starEach [e1,e2,e3] X.env=[(false,eval e1 X.env),(false,eval e2 X.env),(false,eval e3 X.env)]:=by rfl) (gb:starEach [e2,e3] X.env=[(false,eval e2 X.env),(false,eval e3 X.env)]:=by rfl) (he:starEach [.Call (.Name "zip" p2) [e1,e2,e3] [] bw] X.env=(false,eval (.Call (.Name "zip" p2) [e1,e2,e3] [] bw) X.env)::starEach [] X.env:=by rfl):PE X (.Call (.Name "list" p) [.Call (.Name "zip" p2) [e1,e2,e3] [] bw] [] pos) (VH X.K ta):=by
 intro pins s σ H Q I h;refine r9 (ef I hg hm (show bootBuiltins "list"=some (.type "list") by decide+kernel) ?_);refine c4 ?_ he rfl;rw[he];show wpAny _ _ (spliced ((false,eval (.Call (.Name "zip" p2) [e1,e2,e3] [] bw) X.env)::backTo pos (starEach [] X.env))) _ _ s;refine Calls.spliced_cons ?_;refine Call_ (ef I ve vc boot_zip (c4 (dF (ha bw pins s σ H _ I h) λ us s1 ⟨vs,H1,I1,r1,q1⟩=>?_) (by rw[hs,gb]) (by rw[gb];rfl)));obtain⟨b,c,d,l,m,n,xs,ys,zs,k,ev,hl,fu,hn,lx,ly,lz,k0,cH,q⟩:=q1;subst ev;obtain⟨u1,u2,u3,rfl,r,r',VU⟩:=vals3 r1;cases(show u1=Value.ref l from r);cases(show u2=Value.ref m from r');cases(show u3=Value.ref n from VU);obtain⟨Nt,v1,p1⟩:=gh I1 hl;obtain⟨SM,v2,Ux⟩:=gh I1 fu;obtain⟨V7,v3,p3⟩:=gh I1 hn;refine GW p1 Ux p3 λ g qs eq D V9 Z g6 g7=>?_;refine Calls.spliced_nil ?_;have R8:Nt.length=k:=v1.length.symm.trans lx;have VN:SM.length=k:=v2.length.symm.trans ly;have VM:V7.length=k:=v3.length.symm.trans lz;have lt:∀{b:Bool} {l:Addr} {xs:Array Value},fN b s1.heap l xs->l < g.objs.size:=λ x=>by rw[g6];exact q9 (oX x) (A2 _ _)
 have Hf:∀j:Nat,j < 6->s1.heap.objs.size+j < g.objs.size:=λ j h=>by rw[g6];exact Nat.add_lt_add_left h _
 have ok:=nN (prog:=X.prog) (w:=X.w) (A:=X.A) (E:=X.xe) (s:={s1 with heap:=g}) (Q:=EP X pins σ Q) (n:=k) (I1.ok.hd hc) D (by rw[eq];simp) (by rw[eq];show 3<=100;decide) cH k0;refine ok ?_ (Hf 5 (by decide)) (Hf 3 (by decide)) (Hf 4 (by decide)) ?_ V9 Z ?_
 ·rw[eq];simp only[D1,not_mem_nil,or_false,forall_eq_or_imp,forall_eq,x8];exact⟨R8,VN,VM⟩
 ·rw[eq];simp only[D1,not_mem_nil,or_false,forall_eq_or_imp,forall_eq];exact⟨⟨Hf 0 (by decide),lt p1⟩,⟨Hf 1 (by decide),lt Ux⟩,Hf 2 (by decide),lt p3⟩
 ·intro h' ps c' kp hS zL pr;have Tp:∀b o,s1.heap.get? b=some o->h'.get? b=some o:=λ b o e=>by have lt:∀k,b≠s1.heap.objs.size+k:=λ k=>D5 (q9 (D6 e) (A2 _ k));refine kp b o (lt 5) (lt 4) ?_ (g7 b o e);rw[eq];simp only[D1,not_mem_nil,or_false,forall_eq_or_imp,forall_eq];exact⟨lt 0,lt 1,lt 2⟩
  have I3:Inv X pins σ H1 {s1 with heap:=h'}:=I1.kept (t':=s1.toks) Tp;have ge:∀j p,ps[j]?=some p->s1.heap.objs.size<=p:=λ j p hj=>D9 (by show s1.heap.objs.size<=g.objs.size+1;rw[g6];exact A2 _ 7) (pr.2 j p hj).1;obtain⟨H2,z1,I4,z3⟩:=lE (s:=s1) (h':=h') I1 ps (k_ xs ys zs) H1 I3 (by rw[zL,zS lx ly lz]) pr.1 (λ p hp=>by
    obtain⟨j,hj⟩:=mem_iff_getElem?.mp hp;exact⟨ge j p hj,I1.cp.fresh (ge j p hj)⟩) λ j p r hj hr=>by
     obtain⟨x,y,z,ex,ey,ez,rfl⟩:=vP hr;obtain⟨a,ea,ra⟩:=v1.get ex;obtain⟨b,eb,rb⟩:=v2.get ey;obtain⟨c,ec,rc⟩:=v3.get ez;refine⟨by show 3<=sizeLine;decide,[a,b,c],.cons ra (.cons rb (.cons rc .nil)),?_⟩;have t:=(pr.2 j p hj).2;rw[eq]at t;have gd:∀{is:List Value} {u:Value},is[j]?=some u->is.toArray.getD j .none=u:=λ e=>by simp[Array.getD_eq_getD_getElem?,e]
     simp only[rowAt,C9,E5,gd ea,gd eb,gd ec]at t;exact t
  have nS:∀p∈ps,p≠g.objs.size:=λ p hp e=>by obtain⟨j,hj⟩:=mem_iff_getElem?.mp hp;have:=(pr.2 j p hj).1;rw[e]at this;exact absurd this (Nat.not_succ_le_self _)
  have fr:s1.heap.objs.size<=g.objs.size:=by rw[g6];exact A2 _ 6
  have Pd:H2 g.objs.size=none:=(z3 _ λ h=>nS _ h rfl).trans (I1.cp.fresh fr);have fo:=I1.iZ (H':=H2) fr Pd;have I5:Inv X pins σ (upd H2 g.objs.size (.lst (ps.map V.ref))) {s1 with heap:=h'}:=Inv.lF I4 Pd ⟨by rw[B5,zL];exact D9 cH (by decide),ps.map Value.ref,c',qM ps,hS⟩ fo.2.1 (D9 I1.sz fr) fo.2.2.2.2.1 fo.2.2.2.2.2;exact⟨.ref g.objs.size,_,I5,rfl,q ps H2 _ z1 Pd⟩
end
end L2
namespace L2
open PySem PySem.Spec PyProof.Rows
theorem zB{X:Cx}(hc:X.calm=true):cW X (.type "list") (λ xs H Q=>∃r lo hi,xs=[.ref r]/\H r=some (.Kg lo hi)/\(-100000000<=lo/\lo<=100000000)/\(-100000000<=hi/\hi<=100000000)/\(hi - lo).toNat<=10000/\∀p,H p=none->Q (.ref p) (upd H p (.lst (ur lo (hi - lo).toNat)))):=by
 intro pins s σ H xs us Q I rr ⟨r,lo,hi,e,hr,h1,h2,hn,q⟩;subst e;obtain⟨u,rfl,rx⟩:=vals1 rr;cases rx;obtain⟨t,u,v,ho⟩:=I.cp r _ hr;have es:Builtin.Range.rangeSize lo hi 1=(((hi - lo).toNat:Nat):Int):=by rw[rangeSize_one];split <;> omega
 refine call_list_range (a:=lo) (b:=hi) (c:=1) (t:=t) (u:=u) (v:=v) (n:=(hi - lo).toNat) (I.ok.hd hc) ho (small_one (by omega) (by omega) (by omega) (by omega)) es (by omega) λ h' tk acc c' kp hS j_=>?_;have hf:=I.cp.fresh (G5 s.heap.objs.size);have fo:=I.iZ (H':=H) (G5 s.heap.objs.size) hf;have I2:Inv X pins σ (upd H s.heap.objs.size (.lst (ur lo (hi - lo).toNat))) {s with heap:=h',toks:=tk}:=
  Inv.lF (I.kept (t':=tk) kp) hf ⟨by unfold ur;rw[B5,x6];exact D9 hn (by decide),acc.toList,c',yA j_,by rw[show acc.toList.toArray=acc by simp];exact hS⟩ fo.2.1 I.sz fo.2.2.2.2.1 fo.2.2.2.2.2
 exact⟨.ref s.heap.objs.size,_,I2,rfl,q _ hf⟩
end L2
namespace L3
open PySem PySem.Spec PyProof.Rows L2 L5
def qK(xs ys zs:List D):List D:=(k_ xs ys zs).map D.tup
theorem rE{H H':Hp}{rs:List (List V)}{ps:List Addr}(h:Jv H rs ps H'):aw H H':=by
 induction h with
 |nil=>exact aw.refl _
 |cons hn _ ih=>exact(aw.laid hn).trans ih
theorem Gg{K:K2}{M:Mem}{H H':Hp}{rs:List (List V)}{ps:List Addr}(h:Jv H rs ps H')(r:RelM K H M):RelM K H' M:=by
 induction h with
 |nil=>exact r
 |cons hn _ ih=>exact ih (r.laid hn)
theorem rF{K:K2}:∀{rd:List (List D)} {rs:List (List V)} {ps:List Addr} {H H2:Hp},Jv H rs ps H2->Paired (λ r v=>aB K H r v) rd rs->aB K H2 (rd.map D.tup) (ps.map V.ref)
 |_,_,_,_,_,.nil,.nil=>aq.mpr rfl
 |_,_,_,H,H2,.cons (r:=v) (p:=p) hn z,.cons (a:=r) a t=>by have t1:aw H (upd H p (.tup v)):=aw.laid hn;have t2:=rE z;exact ag.mpr ⟨.ref p,_,rfl,aU.mpr ⟨p,v,rfl,.inl (.inl (t2.tup _ _ bW)),aB.mono (t1.trans t2) _ a⟩,rF z (Paired.BY t λ r v h=>aB.mono t1 r h)⟩
theorem nR{K:K2}{H:Hp}:∀{xs ys zs:List D} {xv yv zv:List V},aB K H xs xv->aB K H ys yv->aB K H zs zv->Paired (λ r v=>aB K H r v) (k_ xs ys zs) (k_ xv yv zv)
 |[],ys,zs,xv,yv,zv,h1,h2,h3=>by cases(aq.mp h1);exact .nil
 |x::xs,[],zs,xv,yv,zv,h1,h2,h3=>by obtain⟨a,r,rfl,_,_⟩:=ag.mp h1;cases(aq.mp h2);exact .nil
 |x::xs,y::ys,[],xv,yv,zv,h1,h2,h3=>by obtain⟨a,r,rfl,_,_⟩:=ag.mp h1;obtain⟨b,q,rfl,_,_⟩:=ag.mp h2;cases(aq.mp h3);exact .nil
 |x::xs,y::ys,z::zs,xv,yv,zv,h1,h2,h3=>by obtain⟨a,r,rfl,ha,hr⟩:=ag.mp h1;obtain⟨b,q,rfl,hb,hq⟩:=ag.mp h2;obtain⟨c,t,rfl,hc,ht⟩:=ag.mp h3;exact .cons (ag.mpr ⟨a,_,rfl,ha,ag.mpr ⟨b,_,rfl,hb,aB.one hc⟩⟩) (nR hr hq ht)
section
variable {X:Cx}{e1 e2 e3:Expr}{ta:fB}{p p2 pos bw:Pos}
def AK(ta:fB):cw:=λ δ M Q=>ta δ M λ ds M1=>∃(d1 d2 d3:D) (xs ys zs:List D) (n:Nat),ds=[d1,d2,d3]/\cz M1 d1=some xs/\cz M1 d2=some ys/\cz M1 d3=some zs/\xs.length=n/\ys.length=n/\zs.length=n/\n≠0/\n<=10000/\∀p,M1 p=none->Q (.ref p) (ah M1 p (.lst (qK xs ys zs)))
theorem K8(hc:X.calm=true)(hg:Gl X "list")(hm:X.mg "list"=none)(ve:Gl X "zip")(vc:X.mg "zip"=none)(ha:QA X [e1,e2,e3] ta) (hs:starEach [e1,e2,e3] X.env=[(false,eval e1 X.env),(false,eval e2 X.env),(false,eval e3 X.env)]:=by rfl) (gb:starEach [e2,e3] X.env=[(false,eval e2 X.env),(false,eval e3 X.env)]:=by rfl) (he:starEach [.Call (.Name "zip" p2) [e1,e2,e3] [] bw] X.env=(false,eval (.Call (.Name "zip" p2) [e1,e2,e3] [] bw) X.env)::starEach [] X.env:=by rfl):QE X (.Call (.Name "list" p) [.Call (.Name "zip" p2) [e1,e2,e3] [] bw] [] pos) (AK ta):=by refine b_ (Gn hc hg hm ve vc ha hs gb he) ?_;rintro σ H Q ⟨δ,M,Q2,hs,hm,q,k⟩;refine⟨δ,M,_,hs,hm,q,λ vs H1 ds M1 hd cb t1 ⟨d1,d2,d3,xs,ys,zs,n,e,s1,s2,s3,l1,l2,l3,n0,cH,q1⟩=>?_⟩;subst e;obtain⟨v1,r,rfl,O6,hr⟩:=ag.mp hd;obtain⟨v2,r2,rfl,O5,HA⟩:=ag.mp hr;obtain⟨v3,r3,rfl,We,Wo⟩:=ag.mp HA;cases(aq.mp Wo);obtain⟨b1,l,xv,rfl,q3,dx⟩:=uj cb s1 O6;obtain⟨b2,m,yv,rfl,q4,dy⟩:=uj cb s2 O5;obtain⟨b3,n',zv,rfl,q5,dz⟩:=uj cb s3 We;refine⟨b1,b2,b3,l,m,n',xv,yv,zv,n,rfl,q3,q4,q5,by rw[dx.length,l1],by rw[dy.length,l2],by rw[dz.length,l3],n0,cH,λ ps H2 r z hn=>?_⟩;have t2:=rE z;have t3:aw H2 (upd H2 r (.lst (ps.map V.ref))):=aw.laid hn;have m2:=Gg z cb;exact k _ _ _ _ (aE.mpr rfl) (m2.put (u:=.lst (qK xs ys zs)) t3 ⟨_,bW,aB.mono t3 _ (rF z (nR dx dy dz))⟩) (t1.trans (t2.trans t3)) (q1 r (m2.free hn))
def AL(ta:fB):cw:=λ δ M Q=>ta δ M λ ds M1=>∃i j:Int,ds=[.int i,.int j]/\(-10000<=i/\i<=10000)/\(-10000<=j/\j<=10000)/\(j - i).toNat<=10000/\∀p,M1 p=none->Q (.ref p) (ah M1 p (.lst (cO i (j - i).toNat)))
theorem K9(hc:X.calm=true)(hg:Gl X "list")(hm:X.mg "list"=none)(Ed:Gl X "range")(Tj:X.mg "range"=none)(ha:QA X [e1,e2] ta)(hs:starEach [e1,e2] X.env=[(false,eval e1 X.env),(false,eval e2 X.env)]:=by rfl)(gb:starEach [e2] X.env=[(false,eval e2 X.env)]:=by rfl):QE X (.Call (.Name "list" p) [.Call (.Name "range" p2) [e1,e2] [] bw] [] pos) (AL ta):=by refine b_ (gP (zB hc) hg hm (by decide+kernel) (fL (gP zw Ed Tj (by decide+kernel) ha (by decide) (by decide) (by rw[hs,gb]) (by rw[gb];rfl)) ie)) ?_;rintro σ H Q ⟨δ,M,Q2,hs,hm,q,k⟩;refine⟨δ,M,_,hs,hm,q,λ xs H1 ds M1 hd cb t1 ⟨i,j,e,hi,hj,hn,q1⟩=>?_⟩;subst e;obtain⟨x,r,rfl,hx,hr⟩:=ag.mp hd;obtain⟨y,r2,rfl,hy,HA⟩:=ag.mp hr;cases(aq.mp HA);cases(ax.mp hx);cases(ax.mp hy);refine⟨i,j,rfl,λ r CH=>?_⟩;refine⟨r,i,j,rfl,bW,⟨by omega,by omega⟩,⟨by omega,by omega⟩,hn,λ p hp=>?_⟩;have t2:aw H1 (upd H1 r (.Kg i j)):=aw.laid CH;have t3:=aw.laid (o:=.lst (ur i (j - i).toNat)) hp;exact k _ _ _ _ (aE.mpr rfl) ((cb.laid CH).put (u:=.lst (cO i (j - i).toNat)) t3 ⟨_,bW,Du i _⟩) (t1.trans (t2.trans t3)) (q1 p ((cb.laid CH).free hp))
end
end L3
namespace L4
open PySem L2 L3
section
variable {X:Cx}{e1 e2 e3:Expr}{ta:fB}{p p2 pos bw:Pos}
theorem JF(hc:X.calm=true)(hg:Gl X "list")(hm:X.mg "list"=none)(ve:Gl X "zip")(vc:X.mg "zip"=none)(ha:WA X [e1,e2,e3] ta) (hs:starEach [e1,e2,e3] X.env=[(false,eval e1 X.env),(false,eval e2 X.env),(false,eval e3 X.env)]:=by rfl) (gb:starEach [e2,e3] X.env=[(false,eval e2 X.env),(false,eval e3 X.env)]:=by rfl) (he:starEach [.Call (.Name "zip" p2) [e1,e2,e3] [] bw] X.env=(false,eval (.Call (.Name "zip" p2) [e1,e2,e3] [] bw) X.env)::starEach [] X.env:=by rfl):WE X (.Call (.Name "list" p) [.Call (.Name "zip" p2) [e1,e2,e3] [] bw] [] pos) (AK ta):=⟨K8 hc hg hm ve vc ha.h hs gb he⟩
theorem JG(hc:X.calm=true)(hg:Gl X "list")(hm:X.mg "list"=none)(Ed:Gl X "range")(Tj:X.mg "range"=none)(ha:WA X [e1,e2] ta)(hs:starEach [e1,e2] X.env=[(false,eval e1 X.env),(false,eval e2 X.env)]:=by rfl)(gb:starEach [e2] X.env=[(false,eval e2 X.env)]:=by rfl):WE X (.Call (.Name "list" p) [.Call (.Name "range" p2) [e1,e2] [] bw] [] pos) (AL ta):=⟨K9 hc hg hm Ed Tj ha.h hs gb⟩
end
theorem Fm{ta:fB}{δ:dk}{M:Mem}{Q:bR}(h:ta δ M λ ds M1=>∃(d1 d2 d3:D) (xs ys zs:List D) (n:Nat),ds=[d1,d2,d3]/\cz M1 d1=some xs/\cz M1 d2=some ys/\cz M1 d3=some zs/\xs.length=n/\ys.length=n/\zs.length=n/\n≠0/\n<=10000/\∀p,M1 p=none->Q (.ref p) (ah M1 p (.lst (qK xs ys zs)))):AK ta δ M Q:=h
theorem Fn{ta:fB}{δ:dk}{M:Mem}{Q:bR}(h:ta δ M λ ds M1=>∃i j:Int,ds=[.int i,.int j]/\(-10000<=i/\i<=10000)/\(-10000<=j/\j<=10000)/\(j - i).toNat<=10000/\∀p,M1 p=none->Q (.ref p) (ah M1 p (.lst (cO i (j - i).toNat)))):AL ta δ M Q:=h
end L4
namespace KK
abbrev Cs:=List Nat
end KK
namespace KK
structure Jy{α:Type}(S:α->Prop)(h:Nat)(F:Nat->α->α):Prop where
 cl:∀s i,i < h->S s->S (F i s)
 cm:∀s i j,i < h->j < h->S s->F i (F j s)=F j (F i s)
section
variable {α:Type}{S:α->Prop}{h:Nat}{F:Nat->α->α}
def xU(h:Nat):Cs:=List.replicate h 0
end
end KK
namespace KK
open PySem L3 L4 L5
inductive zQ{α:Type}(F:Nat->α->α)(h:Nat)(s0:α):α->Prop
 |zero:zQ F h s0 s0
 |step {s:α} {i:Nat}:zQ F h s0 s->i < h->zQ F h s0 (F i s)
theorem zQ.ok {α:Type}{S:α->Prop}{h:Nat}{F:Nat->α->α}{s0:α}(C:Jy S h F)(h0:S s0){s:α}(r:zQ F h s0 s):S s:=by
 induction r with
 |zero=>exact h0
 |step r hi ih=>exact C.cl _ _ hi ih
structure km(m h:Nat)(rows:List Row):Prop where
 tb:Tb m h rows
 tP:Jy (· < m) h (cG rows)
 FG:∀x,x < m->zQ (cG rows) h 0 x
structure cC{α:Type}(F:Nat->α->α)(aX:List α)(s:α)(i:Nat)(r:Row):Prop where
 len:r.length=i
 at':∀j,j < i->∃k:Nat,r[j]?=some (k:Int)/\aX[k]?=some (F j s)
theorem cC.app {α:Type}{F:Nat->α->α}{aX ts:List α}{s:α}{i:Nat}{r:Row}(a:cC F aX s i r):cC F (aX++ts) s i r:=
 ⟨a.len,λ j hj=>by
  obtain⟨k,e,h⟩:=a.at' j hj;exact⟨k,e,by rw[c8 (g9.mp h).1];exact h⟩⟩
theorem cC.next {α:Type}{F:Nat->α->α}{aX:List α}{s:α}{i k:Nat}{r:Row}(a:cC F aX s i r)(hk:aX[k]?=some (F i s)):cC F aX s (i+1) (r++[(k:Int)]):=by
 refine⟨by simp[a.len],λ j hj=>?_⟩;by_cases g:j < i
 ·obtain⟨k,e,h⟩:=a.at' j g;exact⟨k,by rw[c8 (by rw[a.len];exact g)];exact e,h⟩
 ·have:j=i:=by omega
  subst this;refine⟨k,?_,hk⟩;rw[c6 (by rw[a.len];exact G5 _),a.len,Nat.sub_self];rfl
theorem cC.nil {α:Type}(F:Nat->α->α)(aX:List α)(s:α):cC F aX s 0 []:=⟨rfl,λ j hj=>absurd hj (by omega)⟩
structure nQ{α:Type}(F:Nat->α->α)(s0:α)(h:Nat)(U aX:List α)(rows:List Row):Prop where
 nd:aX.Nodup
 Em:aX[0]?=some s0
 FG:∀s∈aX,zQ F h s0 s
 sub:∀s∈aX,s∈U
 row:∀(d:Nat) (r:Row),rows[d]?=some r->∃s,aX[d]?=some s/\cC F aX s h r
section
variable {α:Type}{F:Nat->α->α}{s0:α}{h:Nat}{U aX:List α}{rows:List Row}
theorem nQ.start (hU:s0∈U):nQ F s0 h U [s0] []:=
 ⟨by simp,rfl,λ s hs=>by rw[r6.mp hs];exact .zero,λ s hs=>by rw[r6.mp hs];exact hU,λ d r e=>by cases e⟩
theorem nQ.add (e:nQ F s0 h U aX rows){d i:Nat}{s:α}(hd:aX[d]?=some s)(hi:i < h)(hU:F i s∈U)(hn:F i s∉aX):nQ F s0 h U (aX++[F i s]) rows:=by
 refine⟨nodup_append.mpr ⟨e.nd,by simp,λ a ha b hb z=>hn (by rw[<- r6.mp hb,<- z];exact ha)⟩,?_,λ t ht=>?_,λ t ht=>?_,λ j r hj=>?_⟩
 ·rw[c8 (g9.mp e.Em).1];exact e.Em
 ·rcases B6.mp ht with z|z
  ·exact e.FG t z
  ·rw[r6.mp z];exact .step (e.FG s (l4 hd)) hi
 ·rcases B6.mp ht with z|z
  ·exact e.sub t z
  ·rw[r6.mp z];exact hU
 ·obtain⟨t,ht,hr⟩:=e.row j r hj;exact⟨t,by rw[c8 (g9.mp ht).1];exact ht,hr.app⟩
theorem nQ.next (e:nQ F s0 h U aX rows){s:α}{r:Row}(hd:aX[rows.length]?=some s)(hr:cC F aX s h r):nQ F s0 h U aX (rows++[r]):=by
 refine⟨e.nd,e.Em,e.FG,e.sub,λ j q hj=>?_⟩;by_cases g:j < rows.length
 ·rw[c8 g]at hj;exact e.row j q hj
 ·have hl:=(g9.mp hj).1;rw[p6,k4]at hl;have:j=rows.length:=by omega
  subst this;rw[c6 (G5 _),Nat.sub_self]at hj;cases hj;exact⟨s,hd,hr⟩
theorem nQ.cH (e:nQ F s0 h U aX rows):aX.length<=U.length:=List.Nodup.length_le_of_subset e.nd e.sub
theorem IW{l:List α}(h:l.Nodup){i j:Nat}{x:α}(a:l[i]?=some x)(b:l[j]?=some x):i=j:=by obtain⟨hi,_⟩:=g9.mp a;exact(getElem?_inj hi h).mp (a.trans b.symm)
theorem nQ.at (e:nQ F s0 h U aX rows)(hl:rows.length=aX.length){d i:Nat}{s:α}(hd:aX[d]?=some s)(hi:i < h):aX[cG rows i d]?=some (F i s):=by have TB:=(g9.mp hd).1;obtain⟨t,ht,hr⟩:=e.row d rows[d] (i5 (by omega));rw[hd]at ht;cases ht;obtain⟨k,e1,e2⟩:=hr.at' i hi;unfold cG;rw[c7 (l:=rows),i5 (l:=rows) (i:=d) (by omega)];show aX[((rows[d]).getD i 0).toNat]?=_;rw[c7,e1];exact e2
theorem nQ.tb {S:α->Prop}(C:Jy S h F)(h0:S s0)(e:nQ F s0 h U aX rows)(hl:rows.length=aX.length)(hU:U.length<=300)(hh:h<=12):km rows.length h rows:=by
 have h1:0 < aX.length:=(g9.mp e.Em).1;have lt:∀{d i:Nat},d < rows.length->i < h->cG rows i d < rows.length:=λ{d i} hd hi=>by rw[hl];exact(g9.mp (e.at hl (i5 (show d < aX.length by omega)) hi)).1
 refine⟨⟨rfl,by omega,by have:=e.cH;omega,hh,λ r hr=>?_⟩,⟨λ x i hi hx=>lt hx hi,λ x i j hi hj hx=>?_⟩,λ x hx=>?_⟩
 ·obtain⟨d,hd⟩:=getElem?_of_mem hr;obtain⟨s,hs,CI⟩:=e.row d r hd;refine⟨CI.len,λ x hx=>?_⟩;obtain⟨j,hj⟩:=getElem?_of_mem hx;have WR:=(g9.mp hj).1;obtain⟨k,e1,e2⟩:=CI.at' j (by rw[<- CI.len];exact WR);rw[hj]at e1;cases e1;have:=(g9.mp e2).1;omega
 ·have hs:=i5 (show x < aX.length by omega);have ss:=(e.FG _ (l4 hs)).ok C h0;refine IW e.nd (x:=F i (F j aX[x])) (e.at hl (e.at hl hs hj) hi) ?_;rw[C.cm _ i j hi hj ss];exact e.at hl (e.at hl hs hi) hj
 ·have hs:=i5 (show x < aX.length by omega);have key:∀s,zQ F h s0 s->∃k,aX[k]?=some s/\zQ (cG rows) h 0 k:=λ s r=>by
   induction r with
   |zero=>exact⟨0,e.Em,.zero⟩
   |step r hi ih=>obtain⟨k,hk,hr⟩:=ih;exact⟨_,e.at hl hk hi,.step hr hi⟩
  obtain⟨k,hk,hr⟩:=key _ (e.FG _ (l4 hs));rw[IW e.nd hs hk];exact hr
end
abbrev nD(v:Nat):D:=.int (v:Int)
def Eh(p:Cs):D:=.tup (p.map nD)
end KK
namespace KK
open PySem L3 L4 L5
open L2 hiding aL h_
theorem jC{M M':Mem}{f c:Addr}(h:Ext M M')(F:Flow M f c):Fl f c M M':=by obtain⟨ns,p,b,sd,ct,h1,h2,h3⟩:=F;exact⟨⟨ns,p,b,sd,ct,h _ _ h1,h _ _ h2,h3⟩,λ b o _ e=>h b o e⟩
theorem Ext.rfl {M:Mem}:Ext M M:=λ _ _ e=>e
structure Enc{α:Type}(k:Nat)(enc:α->D):Prop where
 inj:∀a b,enc a=enc b->a=b
 pl:∀a,Pl k (enc a)
structure Sx{α:Type}(enc:α->D)(F:Nat->α->α)(s0:α)(h:Nat)(U:List α)(p q:Addr)(aX:List α)(rows:List Row)(M0 M:Mem):Prop where
 ext:Ext M0 M
 np:M0 p=none
 nq:M0 q=none
 pq:p≠q
 st:M p=some (.lst (aX.map enc))
 nk:M q=some (.lst (rows.map row))
 ex:nQ F s0 h U aX rows
 le:rows.length<=aX.length
section
variable {α:Type}{enc:α->D}{F:Nat->α->α}{s0:α}{h:Nat}{U:List α}{p q r:Addr}{aX:List α}{rows:List Row}{M0 M:Mem}
theorem Sx.new (x:Sx enc F s0 h U p q aX rows M0 M)(hr:M r=none)(o:MO):Sx enc F s0 h U p q aX rows M0 (ah M r o):=
 ⟨x.ext.new hr o,x.np,x.nq,x.pq,by rw[aj (a_ x.st hr)];exact x.st,by rw[aj (a_ x.nk hr)];exact x.nk,x.ex,x.le⟩
theorem Sx.free (x:Sx enc F s0 h U p q aX rows M0 M)(hr:M r=none):M0 r=none/\p≠r/\q≠r:=⟨x.ext.free hr,a_ x.st hr,a_ x.nk hr⟩
theorem Sx.own (x:Sx enc F s0 h U p q aX rows M0 M)(hr:M0 r=none/\p≠r/\q≠r)(o:MO):Sx enc F s0 h U p q aX rows M0 (ah M r o):=
 ⟨x.ext.own hr.1,x.np,x.nq,x.pq,by rw[aj hr.2.1];exact x.st,by rw[aj hr.2.2];exact x.nk,x.ex,x.le⟩
theorem Sx.add (x:Sx enc F s0 h U p q aX rows M0 M){d i:Nat}{s:α}(hd:aX[d]?=some s)(hi:i < h)(hU:F i s∈U)(hn:F i s∉aX):Sx enc F s0 h U p q (aX++[F i s]) rows M0 (ah M p (.lst (aX.map enc++[enc (F i s)]))):=
 ⟨x.ext.own x.np,x.np,x.nq,x.pq,by rw[af,B7];rfl,by rw[aj (J6 x.pq)];exact x.nk,x.ex.add hd hi hU hn,by rw[p6];have:=x.le;omega⟩
theorem Sx.next (x:Sx enc F s0 h U p q aX rows M0 M){s:α}{r:Row}(hd:aX[rows.length]?=some s)(hr:cC F aX s h r):Sx enc F s0 h U p q aX (rows++[r]) M0 (ah M q (.lst (rows.map row++[row r]))):=
 ⟨x.ext.own x.nq,x.np,x.nq,x.pq,by rw[aj x.pq];exact x.st,by rw[af,B7];rfl,x.ex.next hd hr,by
  have:=(g9.mp hd).1;rw[p6,k4];omega⟩
theorem Sx.cH (x:Sx enc F s0 h U p q aX rows M0 M):aX.length<=U.length/\rows.length<=U.length:=by have:=x.ex.cH;have:=x.le;omega
end
theorem ij{α:Type}[DecidableEq α]{xs:List α}{a:α}(h:a∈xs):xs[xs.idxOf a]?=some a:=by rw[i5 (idxOf_lt_length_of_mem h),getElem_idxOf]
def cnt(v lo w:Nat):Nat:=if v < lo+w then v else lo+(v - lo) % w
theorem MM{v lo w:Nat}(h:0 < w):cnt v lo w < lo+w:=by
 unfold cnt;split
 ·omega
 ·have:=Nat.mod_lt (v - lo) h;omega
theorem xG{v a lo w:Nat}(h:0 < w):cnt (cnt v lo w+a) lo w=cnt (v+a) lo w:=by
 unfold cnt;by_cases g:v < lo+w
 ·rw[J8 g]
 ·rw[J9 g];have hm:=Nat.mod_lt (v - lo) h;have e2:((v - lo) % w+a) % w=(v+a - lo) % w:=by rw[Nat.mod_add_mod];congr 1;omega
  by_cases g2:lo+(v - lo) % w+a < lo+w
  ·rw[J8 g2,J9 (by omega),<- e2,Nat.mod_eq_of_lt (show(v - lo) % w+a < w by omega)];omega
  ·rw[J9 g2,J9 (by omega),<- e2,show lo+(v - lo) % w+a - lo=(v - lo) % w+a by omega]
theorem HW{v a b lo w:Nat}(h:0 < w):cnt (cnt (v+a) lo w+b) lo w=cnt (cnt (v+b) lo w+a) lo w:=by rw[xG h,xG h,show v+a+b=v+b+a by omega]
def f'(m:Nat)(ls:Row):Prop:=ls.Pairwise (· < ·)/\∀x∈ls,0<=x/\x < (m:Int)
theorem f'.nil (m:Nat):f' m []:=⟨.nil,λ x h=>by cases h⟩
theorem f'.up {m:Nat}{ls:Row}(h:f' m ls):f' (m+1) ls:=⟨h.1,λ x hx=>by have:=h.2 x hx;omega⟩
theorem f'.add {m:Nat}{ls:Row}(h:f' m ls):f' (m+1) (ls++[(m:Int)]):=by
 refine⟨pairwise_append.mpr ⟨h.1,by simp,λ x hx y hy=>?_⟩,λ x hx=>?_⟩
 ·rw[r6.mp hy];exact(h.2 x hx).2
 ·rcases B6.mp hx with z|z
  ·have:=h.2 x z;omega
  ·rw[r6.mp z];omega
theorem f'.cH {m:Nat}:∀{ls:Row},f' m ls->ls.length<=m:=λ{ls} h=>by
 have nd:(ls.map Int.toNat).Nodup:=by unfold List.Nodup;rw[pairwise_map];refine List.Pairwise.imp_of_mem (λ{a b} ha hb Mx=>?_) h.1;have:=h.2 a ha;have:=h.2 b hb;omega
 have:=List.Nodup.length_le_of_subset nd (l₂:=List.range m) λ x hx=>by obtain⟨y,hy,rfl⟩:=D7.mp hx;have:=h.2 y hy;exact mem_range.mpr (by omega)
 rwa [B5,x6]at this
end KK
namespace KK
open PySem L3 L4 L5
open L2 hiding aL h_
theorem ky{α:Type}[DecidableEq α]{k:Nat}{enc:α->D}{F:Nat->α->α}{s0:α}{h:Nat}{U:List α}{p q pw:Addr}{aX:List α}{rows:List Row}{M0 M:Mem}{r:Row}{s:α}{i jt js jr:Nat}{δ:dk}{E:jb} (en:Enc k enc) (hk:k<=60) (X:Sx enc F s0 h U p q aX rows M0 M) (hb:U.length<=300) (hh:h<=12) (fw:M0 pw=none/\p≠pw/\q≠pw) (hw:M pw=some (.lst (r.map D.int))) (hr:cC F aX s i r) (hd:aX[rows.length]?=some s) (hi:i < h) (hU:F i s∈U) (et:δ[jt]?=some (some (enc (F i s)))) (es:δ[js]?=some (some (.ref p))) (er:δ[jr]?=some (some (.ref pw))) (kk:∀(fI:List α) (r':Row) (M':Mem),Sx enc F s0 h U p q fI rows M0 M'->M' pw=some (.lst (r'.map D.int))->cC F fI s (i+1) r'->fI[rows.length]?=some s->E.nx δ M'):AF (EN (oj (AH qg (ic jt) (ic js))) (rf (Nk "list" kU (ic js) (om (ic jt) yy))) wm) (rf (Nk "list" kU (ic jr) (om (Nk "list" vq (ic js) (om (ic jt) yy)) yy))) E δ M:=by
 have vt:∀{M:Mem} {Q:bR},Q (enc (F i s)) M->ic jt δ M Q:=λ q=>ju et q;have vs:∀{M:Mem} {Q:bR},Q (.ref p) M->ic js δ M Q:=λ q=>ju es q;have vr:∀{M:Mem} {Q:bR},Q (.ref pw) M->ic jr δ M Q:=λ q=>ju er q;refine dO (λ δ' M'=>δ'=δ/\∃fI,Sx enc F s0 h U p q fI rows M0 M'/\M' pw=some (.lst (r.map D.int))/\cC F fI s i r/\fI[rows.length]?=some s/\F i s∈fI) (λ N hN=>?_) ?_
 ·refine Bf (wo (IH (vt (vs ?_))));refine lR (k:=k) (b:=decide (F i s∈aX)) (ds:=aX.map enc) (du X.st) (en.pl _) (lV λ x _=>en.pl x) hk (by rw[decide_eq_true_iff];exact(pN en.inj _).symm) ?_;refine gO (λ hn=>?_) (λ hn=>?_)
  ·have hn:F i s∉aX:=by simpa using hn
   refine pA (wx (vs ⟨⟨rfl,_,X.st⟩,kC (vt (jv ?_))⟩));refine cA X.st (by rw[B5];have:=X.cH;exact q8 (show aX.length<=300 by omega) (by decide)) ?_;exact hN _ _ ⟨rfl,aX++[F i s],X.add hd hi hU hn,by rw[aj (J6 fw.2.1)];exact hw,hr.app,by rw[c8 (g9.mp hd).1];exact hd,by simp⟩
  ·have hn:F i s∈aX:=by simpa using hn
   exact hN _ _ ⟨rfl,aX,X,hw,hr,hd,hn⟩
 ·rintro δ' M' ⟨rfl,fI,X,hw,hr,hd,hm⟩;refine pA (wx (vr ⟨⟨rfl,_,hw⟩,kC (wx (vs ⟨⟨rfl,_,X.st⟩,kC (vt (jv ?_))⟩))⟩));refine fj enc en.inj X.st hm en.pl hk ?_;refine jv (cA hw (by rw[B5,hr.len];exact q8 (show i<=300 by omega) (by decide)) ?_);exact kk fI (r++[((fI.idxOf (F i s):Nat):Int)]) _ (X.own fw _) (by rw[af,B7];rfl) (hr.next (ij hm)) hd
end KK
namespace KK
open PySem L3 L4 L5
open L2 hiding aL h_
theorem cP:Enc 0 nD:=⟨λ a b z=>Int.ofNat.inj (D.int.inj z),λ a=>gw 0 _⟩
theorem pZ:Enc 1 Eh:=by refine⟨λ a b z=>?_,λ a=>uF λ e he=>by obtain⟨x,_,rfl⟩:=D7.mp he;exact gw 0 _⟩;have:=D.tup.inj z;exact List.map_inj_right (f:=nD) (λ a b z=>cP.inj a b z) |>.mp this
def pD(p:Nat×Nat):D:=.tup [.int (p.1:Int),.int (p.2:Int)]
theorem Dp:Enc 1 pD:=by
 refine⟨λ a b z=>?_,λ a=>uF λ e he=>?_⟩
 ·have:=D.tup.inj z;injection this with h1 h2
  injection h2 with h2 _
  exact Prod.ext (cP.inj _ _ h1) (cP.inj _ _ h2)
 ·rcases D1.mp he with rfl|he
  ·exact gw 0 _
  ·rw[r6.mp he];exact gw 0 _
def stC:List (Nat×Nat)->Cs->Cs->Cs
 |(lo,w)::cs,a::ws,v::s=>cnt (v+a) lo w::stC cs ws s
 |_,_,_=>[]
def qq:List (Nat×Nat)->List Cs
 |[]=>[[]]
 |(lo,w)::cs=>(List.range (lo+w)).flatMap λ x=>(qq cs).map (x::·)
theorem v_:∀{cs:List (Nat×Nat)} {ws s:Cs},ws.length=cs.length->s.length=cs.length->(stC cs ws s).length=cs.length
 |[],[],[],_,_=>rfl
 |(lo,w)::cs,a::ws,v::s,h,g=>by show(stC cs ws s).length+1=_;rw[v_ (cs:=cs) (by simpa using h) (by simpa using g)];rfl
theorem wa:∀{cs:List (Nat×Nat)} {ws us s:Cs},(∀c∈cs,0 < c.2)->ws.length=cs.length->us.length=cs.length->s.length=cs.length->stC cs ws (stC cs us s)=stC cs us (stC cs ws s)
 |[],_,_,_,_,_,_,_=>rfl
 |(lo,w)::cs,a::ws,b::us,v::s,hc,h1,h2,h3=>by show cnt (cnt (v+b) lo w+a) lo w::stC cs ws (stC cs us s)=cnt (cnt (v+a) lo w+b) lo w::stC cs us (stC cs ws s);rw[HW (hc (lo,w) (by simp)),wa (λ c hh=>hc c (by simp[hh])) (by simpa using h1) (by simpa using h2) (by simpa using h3)]
theorem wb:∀{cs:List (Nat×Nat)} {ws s:Cs},(∀c∈cs,0 < c.2)->ws.length=cs.length->s.length=cs.length->stC cs ws s∈qq cs
 |[],[],[],_,_,_=>by simp[stC,qq]
 |(lo,w)::cs,a::ws,v::s,hc,h1,h2=>by show cnt (v+a) lo w::stC cs ws s∈(List.range (lo+w)).flatMap λ x=>(qq cs).map (x::·);rw[mem_flatMap];exact⟨_,mem_range.mpr (MM (hc (lo,w) (by simp))),D7.mpr ⟨_,wb (λ c hh=>hc c (by simp[hh])) (by simpa using h1) (by simpa using h2),rfl⟩⟩
theorem vN:∀{cs:List (Nat×Nat)},(∀c∈cs,0 < c.2)->xU cs.length∈qq cs
 |[],_=>by simp[xU,qq]
 |(lo,w)::cs,hc=>by show 0::xU cs.length∈(List.range (lo+w)).flatMap λ x=>(qq cs).map (x::·);rw[mem_flatMap];have:=hc (lo,w) (by simp);exact⟨0,mem_range.mpr (by show 0 < lo+w;have:0 < w:=this;omega),D7.mpr ⟨_,vN λ c hh=>hc c (by simp[hh]),rfl⟩⟩
theorem qp(cs:List (Nat×Nat))(lo w:Nat):(qq ((lo,w)::cs)).length=(lo+w)*(qq cs).length:=by show((List.range (lo+w)).flatMap λ x=>(qq cs).map (x::·)).length=_;rw[length_flatMap];simp only[B5];rw[map_const',x6,sum_replicate_nat]
abbrev Ud:=Nat×Nat×Nat×Nat
def ub:List (Nat×Nat)->Cs->Cs->List Ud
 |c::cs,a::ws,v::s=>(v,a,c)::ub cs ws s
 |_,_,_=>[]
def Ad(t:Ud):D:=.tup [.int (t.1:Int),.int (t.2.1:Int),pD t.2.2]
theorem vU:∀{cs:List (Nat×Nat)} {ws s:Cs},ws.length=cs.length->s.length=cs.length->qK (s.map nD) (ws.map nD) (cs.map pD)=(ub cs ws s).map Ad/\stC cs ws s=(ub cs ws s).map λ t=>cnt (t.1+t.2.1) t.2.2.1 t.2.2.2
 |[],[],[],_,_=>⟨rfl,rfl⟩
 |c::cs,a::ws,v::s,h,g=>by
  have ih:=vU (cs:=cs) (ws:=ws) (s:=s) (by simpa using h) (by simpa using g);refine⟨?_,?_⟩
  ·show Ad (v,a,c)::qK (s.map nD) (ws.map nD) (cs.map pD)=Ad (v,a,c)::(ub cs ws s).map Ad;rw[ih.1]
  ·show cnt (v+a) c.1 c.2::stC cs ws s=cnt (v+a) c.1 c.2::(ub cs ws s).map _;rw[ih.2]
theorem vV:∀{cs:List (Nat×Nat)} {ws s:Cs} {t:Ud},t∈ub cs ws s->t.2.2∈cs
 |c::cs,a::ws,v::s,t,h=>by
  rcases D1.mp (show t∈(v,a,c)::ub cs ws s from h)with e|e
  ·rw[e];simp
  ·exact k9 _ (vV e)
 |[],_,_,_,h=>by cases h
 |_::_,[],_,_,h=>by cases h
 |_::_,_::_,[],_,h=>by cases h
theorem vW:∀{cs:List (Nat×Nat)} {ws s:Cs},(ub cs ws s).length<=cs.length
 |c::cs,a::ws,v::s=>by show(ub cs ws s).length+1<=cs.length+1;exact Nat.succ_le_succ vW
 |[],_,_=>G5 _
 |_::_,[],_=>G7 _
 |_::_,_::_,[]=>G7 _
def jS(cs:List (Nat×Nat)):Prop:=(∃lo w,cs=[(lo,w)]/\lo<=3/\1<=w/\w<=4)\/∃lo w Nr w',cs=[(lo,w),(Nr,w')]/\lo<=2/\1<=w/\w<=2/\Nr<=2/\1<=w'/\w'<=2
theorem jS.pos {cs:List (Nat×Nat)}(h:jS cs):∀c∈cs,0 < c.2:=by
 rcases h with⟨lo,w,rfl,_,h,_⟩|⟨lo,w,Nr,w',rfl,_,h,_,_,h',_⟩
 ·intro c hc;rw[r6.mp hc];exact h
 ·intro c hc;rcases D1.mp hc with rfl|hc
  ·exact h
  ·rw[r6.mp hc];exact h'
theorem jS.box {cs:List (Nat×Nat)}(h:jS cs):(qq cs).length<=16/\1<=cs.length/\cs.length<=2:=by
 rcases h with⟨lo,w,rfl,h1,h2,h3⟩|⟨lo,w,Nr,w',rfl,h1,h2,h3,h4,h5,h6⟩
 ·rw[qp];show(lo+w)*1<=16/\1<=1/\1<=2;omega
 ·rw[qp,qp];show(lo+w)*((Nr+w')*1)<=16/\1<=2/\2<=2;refine⟨D9 (Nat.mul_le_mul (show lo+w<=4 by omega) (show(Nr+w')*1<=4 by omega)) (by decide),by omega,by omega⟩
theorem jS.tP {cs:List (Nat×Nat)}(h:jS cs){ws:List Cs}(hw:∀w∈ws,w.length=cs.length):Jy (λ s:Cs=>s.length=cs.length) ws.length (λ i s=>stC cs (ws.getD i []) s):=by
 have hl:∀{i},i < ws.length->(ws.getD i []).length=cs.length:=λ{i} hi=>by rw[c7,i5 hi];exact hw _ (A1 hi)
 exact⟨λ s i hi hs=>v_ (hl hi) hs,λ s i j hi hj hs=>wa h.pos (hl hi) (hl hj) hs⟩
def stN(L:Nat)(sz:Cs)(i:Nat)(s:Nat×Nat):Nat×Nat:=(s.1^^^sz.getD i 0,max s.2 (if 1 < sz.getD i 0 then 1 else 0)*L)
def DL:List (Nat×Nat):=(List.range 8).flatMap λ a=>(List.range 2).map λ b=>(a,b)
theorem wN{s:Nat×Nat}:s∈DL↔s.1 < 8/\s.2 < 2:=by
 unfold DL;rw[mem_flatMap];constructor
 ·rintro⟨a,ha,h⟩;obtain⟨b,hb,rfl⟩:=D7.mp h;exact⟨mem_range.mp ha,mem_range.mp hb⟩
 ·rintro⟨h1,h2⟩;exact⟨s.1,mem_range.mpr h1,D7.mpr ⟨s.2,mem_range.mpr h2,rfl⟩⟩
theorem EB{L h:Nat}{sz:Cs}(hL:L<=1)(hs:∀x∈sz,x < 5):Jy (λ s=>s∈DL) h (stN L sz):=by
 have hz:∀i,sz.getD i 0 < 5:=λ i=>by
  rw[c7];cases e:sz[i]? with
  |none=>decide
  |some v=>exact hs v (l4 e)
 refine⟨λ s i _ hs=>?_,λ s i j _ _ _=>?_⟩
 ·rw[wN]at hs ⊢;refine⟨Nat.xor_lt_two_pow (n:=3) hs.1 (by have:=hz i;show sz.getD i 0 < 8;omega),?_⟩;show max s.2 (if 1 < sz.getD i 0 then 1 else 0)*L < 2;have:max s.2 (if 1 < sz.getD i 0 then 1 else 0)<=1:=by refine Nat.max_le.mpr ⟨by omega,?_⟩;split <;> omega
  exact q8 (Nat.mul_le_mul this hL) (by decide)
 ·unfold stN;dsimp only;refine Prod.ext ?_ ?_
  ·show s.1^^^_^^^_=s.1^^^_^^^_;rw[C7,C7,Nat.xor_comm (sz.getD j 0)]
  ·show max (max s.2 _*L) _*L=max (max s.2 _*L) _*L;rcases Nat.le_one_iff_eq_zero_or_eq_one.mp hL with e|e
   ·subst e;simp
   ·subst e;simp only[Nat.mul_one];rw[Nat.max_assoc,Nat.max_assoc,Nat.max_comm (if 1 < sz.getD j 0 then 1 else 0)]
def Nh(rows:List Row)(w:Nat)(ws:Cs)(i:Nat)(s:Nat×Nat):Nat×Nat:=(cG rows i s.1,(s.2+ws.getD i 0) % w)
def zD(m w:Nat):List (Nat×Nat):=(List.range m).flatMap λ a=>(List.range w).map λ b=>(a,b)
theorem kJ{m w:Nat}{s:Nat×Nat}:s∈zD m w↔s.1 < m/\s.2 < w:=by
 unfold zD;rw[mem_flatMap];constructor
 ·rintro⟨a,ha,h⟩;obtain⟨b,hb,rfl⟩:=D7.mp h;exact⟨mem_range.mp ha,mem_range.mp hb⟩
 ·rintro⟨h1,h2⟩;exact⟨s.1,mem_range.mpr h1,D7.mpr ⟨s.2,mem_range.mpr h2,rfl⟩⟩
theorem H_(m w:Nat):(zD m w).length=m*w:=by unfold zD;rw[length_flatMap];simp only[B5,x6];rw[map_const',x6,sum_replicate_nat]
theorem EC{m h w:Nat}{rows:List Row}{ws:Cs}(T:km m h rows)(hw:0 < w):Jy (λ s=>s∈zD m w) h (Nh rows w ws):=by
 refine⟨λ s i hi hs=>?_,λ s i j hi hj hs=>?_⟩
 ·rw[kJ]at hs ⊢;exact⟨T.tP.cl _ _ hi hs.1,Nat.mod_lt _ hw⟩
 ·rw[kJ]at hs;refine Prod.ext (T.tP.cm _ _ _ hi hj hs.1) ?_;show((s.2+ws.getD j 0) % w+ws.getD i 0) % w=((s.2+ws.getD i 0) % w+ws.getD j 0) % w;rw[Nat.mod_add_mod,Nat.mod_add_mod,Nat.add_right_comm]
theorem JP{m h:Nat}{rows:List Row}(T:Tb m h rows){x i:Nat}(hx:x < m)(hi:i < h):eW (rows.map row) (x:Int)=some (row (rows.getD x []))/\eW ((rows.getD x []).map D.int) (i:Int)=some (.int (cG rows i x)):=by
 have oD:x < rows.length:=by rw[T.len];exact hx
 have a:=T.at hx hi;refine⟨aR (by rw[u9,i5 oD,c7,i5 oD];rfl),?_⟩;rw[gG (by rw[a.1];exact hi),a.2.1]
theorem NZ{m h:Nat}{rows jM:List Row}{ord:List Nat}(T:km m h rows)(hp:ord.Perm (List.range m))(h0:ord[0]?=some 0)(hl:jM.length=m)(hr:∀(d:Nat) (r:Row),jM[d]?=some r->∃x,ord[d]?=some x/\cC (cG rows) ord x h r):km m h jM:=by
 have e:nQ (cG rows) 0 h (List.range m) ord jM:=⟨hp.nodup_iff.mpr nodup_range,h0,λ s hs=>T.FG s (mem_range.mp (hp.mem_iff.mp hs)),λ s hs=>hp.mem_iff.mp hs,hr⟩;have ol:ord.length=m:=by rw[hp.length_eq,x6]
 have:=e.tb T.tP T.tb.pos (by rw[hl,ol]) (by rw[x6];exact T.tb.cH) T.tb.zo
 rwa [hl]at this
theorem Bb{p:Addr}{ds:List D}{M:Mem}{Q:bR}(h:M p=some (.lst ds))(q:∀p,M p=none->Q (.ref p) (ah M p (.lst ds))):dList [.ref p] M Q:=by show(match cz M (.ref p)with|some ds=>∀p,M p=none->Q (.ref p) (ah M p (.lst ds))|none=>False);rw[du h];exact q
theorem L9{m:Nat}{xs:Row}(h:xs.Pairwise (·<=·))(nd:xs.Nodup)(hb:∀x∈xs,0<=x/\x < (m:Int)):f' m xs:=by refine⟨?_,hb⟩;have:=List.Pairwise.and h nd;exact this.imp λ{a b} z=>by have:=z.1;have:=z.2;omega
theorem BG{m:Nat}(hm:0 < m){ns:List Nat}(h:ns.Perm ((List.range (m - 1)).map (·+1))):(0::ns).Perm (List.range m):=by obtain⟨k,rfl⟩:∃k,m=k+1:=⟨m - 1,by omega⟩;rw[range_succ_eq_map];exact h.cons 0
def d_(ord:List Nat)(r:Row):Row:=r.map λ y=>(ord.idxOf y.toNat:Int)
theorem ER{m h:Nat}{rows:List Row}{ord:List Nat}(G:km m h rows)(hp:ord.Perm (List.range m)){x:Nat}(hx:x < m):cC (cG rows) ord x h (d_ ord (rows.getD x [])):=by
 have oD:x < rows.length:=by rw[G.tb.len];exact hx
 have e:(rows.getD x []).length=h:=by rw[c7,i5 oD];exact(G.tb.row _ (A1 oD)).1
 refine⟨by unfold d_;rw[B5];exact e,λ j hj=>⟨ord.idxOf (cG rows j x),?_,ij (hp.mem_iff.mpr (mem_range.mpr (G.tP.cl _ _ hj hx)))⟩⟩;unfold d_ cG;rw[u9,i5 (by omega),c7 (l:=rows.getD x []),i5 (by omega)];rfl
theorem AR{m:Nat}{ls xs:Row}{ord:List Nat}(hp:ord.Perm (List.range m))(L:f' m ls)(h:xs.Perm (d_ ord ls))(hs:xs.Pairwise (·<=·)):f' m xs:=by
 have u_:ord.length=m:=by rw[hp.length_eq,x6]
 have qG:∀y∈ls,y.toNat∈ord:=λ y hy=>hp.mem_iff.mpr (mem_range.mpr (by have:=L.2 y hy;omega));refine L9 hs (h.nodup_iff.mpr ?_) λ x hx=>?_
 ·unfold d_ List.Nodup;rw[pairwise_map];refine List.Pairwise.imp_of_mem (λ{a b} ha hb Mx=>?_) L.1;intro e;have e:ord.idxOf a.toNat=ord.idxOf b.toNat:=by omega
  have h1:=ij (qG a ha);rw[e,ij (qG b hb)]at h1;have:=B0 h1;have:=L.2 a ha;have:=L.2 b hb;omega
 ·obtain⟨y,hy,rfl⟩:=D7.mp (h.mem_iff.mp hx);have:=idxOf_lt_length_of_mem (qG y hy);omega
theorem LZ{ns:List Nat}{b:Bool}(h:b=true↔ns=[]):b=true↔ns.map nD=[]:=by rw[h,map_eq_nil_iff]
theorem wQ{α β:Type}(f:α->β):∀(l:List α) (j:Nat),(l.map f).eraseIdx j=(l.eraseIdx j).map f
 |[],_=>rfl
 |a::l,0=>rfl
 |a::l,j+1=>by show f a::(l.map f).eraseIdx j=f a::(l.eraseIdx j).map f;rw[wQ f l j]
theorem rG{α:Type}:∀{l:List α} {j:Nat} (h:j < l.length),([l[j]]++l.eraseIdx j).Perm l
 |a::l,0,_=>.refl _
 |a::l,j+1,h=>by have:=rG (l:=l) (j:=j) (by simpa using h);show(l[j]'(by simpa using h)::a::l.eraseIdx j).Perm (a::l);exact(List.Perm.swap _ _ _).trans (this.cons a)
end KK
namespace KK
open PySem L3 L4 L5
def we:fb:=λ ds M Q=>∃ns:List Int,ds=[.fl (ns.map D.int)]/\∀f c M',Flow M' f c->Ext M M'->Q (.ref f) M'
end KK
namespace L2
open PySem
abbrev xR(l:List Nat):Prop:=l.Pairwise (· < ·)
theorem pv{l:List Nat}(h:xR l){i j:Nat}{x y:Nat}(hi:l[i]?=some x)(hj:l[j]?=some y)(lt:i < j):x < y:=by obtain⟨a,ha⟩:=g9.mp hi;obtain⟨b,hb⟩:=g9.mp hj;have:=pairwise_iff_getElem.mp h i j a b lt;rw[ha,hb]at this;exact this
theorem mS{xs:Array Nat}{j:Nat}(h:xR xs.toList):∀(fuel lo hi:Nat),lo<=hi->hi<=xs.size->hi - lo<=fuel->(∀(i:Nat) (v:Nat),i < lo->xs.toList[i]?=some v->v < j)->(∀(i:Nat) (v:Nat),hi<=i->xs.toList[i]?=some v->j<=v)->
  SetTable.below.go xs j fuel lo hi<=xs.size/\(∀(i:Nat) (v:Nat),i < SetTable.below.go xs j fuel lo hi->xs.toList[i]?=some v->v < j)/\(∀(i:Nat) (v:Nat),SetTable.below.go xs j fuel lo hi<=i->xs.toList[i]?=some v->j<=v)
 |0,lo,hi,h1,h2,h3,h4,h5=>by
  have:lo=hi:=by omega
  subst this;exact⟨h2,h4,h5⟩
 |fuel+1,lo,hi,h1,h2,h3,h4,h5=>by
  unfold SetTable.below.go;by_cases hl:lo < hi
  ·rw[J8 hl];have hm:(lo+hi) / 2 < xs.size:=by omega
   have hg:xs.getD ((lo+hi) / 2) j=xs[(lo+hi) / 2]:=by simp[Array.getD,hm]
   have hv:xs.toList[(lo+hi) / 2]?=some xs[(lo+hi) / 2]:=by rw[k5,c9 hm]
   dsimp only;rw[hg];by_cases hc:xs[(lo+hi) / 2] < j
   ·rw[J8 hc];refine mS h fuel _ hi (by omega) h2 (by omega) (λ i v Ec e=>?_) h5;by_cases z:i=(lo+hi) / 2
    ·subst z;rw[hv]at e;cases e;exact hc
    ·exact Nat.lt_trans (pv h e hv (by omega)) hc
   ·rw[J9 hc];refine mS h fuel lo _ (by omega) (by omega) (by omega) h4 (λ i v Ec e=>?_);by_cases z:i=(lo+hi) / 2
    ·subst z;rw[hv]at e;cases e;omega
    ·have:=pv h hv e (by omega);omega
  ·rw[J9 hl];have:lo=hi:=by omega
   subst this;exact⟨h2,h4,h5⟩
theorem ja{xs:Array Nat}(h:xR xs.toList)(j:Nat):SetTable.below xs j<=xs.size/\(∀(i:Nat) (v:Nat),i < SetTable.below xs j->xs.toList[i]?=some v->v < j)/\(∀(i:Nat) (v:Nat),SetTable.below xs j<=i->xs.toList[i]?=some v->j<=v):=
 mS h xs.size 0 xs.size (G7 _) (G5 _) (by omega) (λ i v h=>absurd h (by omega)) λ i v h e=>by rw[k8 (by rw[m8];exact h)]at e;cases e
theorem below_at{xs:Array Nat}(h:xR xs.toList){i j:Nat}(e:xs.toList[i]?=some j):SetTable.below xs j=i:=by
 obtain⟨_,h1,h2⟩:=ja h j;refine B8 (y3 λ z=>?_) (y3 λ z=>?_)
 ·exact C8 _ (h1 i j z e)
 ·have hl:=(g9.mp e).1;have e2:=i5 (l:=xs.toList) (i:=SetTable.below xs j) (by omega);have a:=h2 _ _ (G5 _) e2;have b:=pv h e2 e z;omega
theorem vH{xs:Array Nat}(h:xR xs.toList){i j:Nat}(e:xs.toList[i]?=some j):SetTable.below xs (j+1)=i+1:=by
 obtain⟨h0,h1,h2⟩:=ja h (j+1);have hl:=(g9.mp e).1;refine B8 (y3 λ z=>?_) (y3 λ z=>?_)
 ·have hs:i+1 < xs.toList.length:=by rw[m8];omega
  have e2:=i5 hs;have a:=h1 (i+1) _ z e2;have b:=pv h e e2 (by omega);omega
 ·have:=h2 i j (by omega) e;omega
theorem vG{xs:Array Nat}(h:xR xs.toList):SetTable.below xs 0=0:=by
 obtain⟨h0,h1,h2⟩:=ja h 0;refine Decidable.byContradiction λ z=>?_;have hs:0 < xs.toList.length:=by rw[m8];omega
 exact absurd (h1 0 _ (by omega) (i5 hs)) (by omega)
theorem yt{t:SetTable}(h:xR t.place.toList){i j:Nat}(e:t.place.toList[i]?=some j):t.slot j=.live i:=by unfold SetTable.slot;dsimp only;rw[below_at h e,<- k5,e];simp
theorem uh{t:SetTable}(hd:t.dummies=#[])(h:xR t.place.toList){j:Nat}(n:j∉t.place.toList):t.slot j=.empty:=by
 unfold SetTable.slot;dsimp only;have:(t.place[SetTable.below t.place j]?==some j)=false:=by rw[beq_eq_false_iff_ne];intro e;rw[<- k5]at e;exact n (l4 e)
 rw[this,hd];simp[SetTable.has,SetTable.below]
theorem EO{xs:Array Nat}(h:xR xs.toList){j:Nat}(n:j∉xs.toList):xR (SetTable.insertAt xs (SetTable.below xs j) j).toList:=by
 rw[SetTable.toList_insertAt];obtain⟨h0,h1,h2⟩:=ja h j;generalize SetTable.below xs j=b at*;have hp:xR (xs.toList.take b++xs.toList.drop b):=by rw[take_append_drop];exact h
 unfold xR at hp ⊢;rw[pairwise_append]at hp ⊢;refine⟨hp.1,pairwise_cons.mpr ⟨λ y hy=>?_,hp.2.1⟩,λ x hx y hy=>?_⟩
 ·obtain⟨i,hi⟩:=getElem?_of_mem hy;rw[getElem?_drop]at hi;have:=h2 (b+i) y (by omega) hi;by_cases z:j=y
  ·subst z;exact absurd (l4 hi) n
  ·omega
 ·obtain⟨i,hi⟩:=getElem?_of_mem hx;have U':i < b:=by have:=(g9.mp hi).1;rw[A0]at this;omega
  rw[getElem?_take_of_lt U']at hi;have Wd:=h1 i x U' hi;rcases D1.mp hy with rfl|hy
  ·exact Wd
  ·exact hp.2.2 x hx y hy
theorem G_{xs:Array Nat}{j k p:Nat}:k∈(SetTable.insertAt xs p j).toList↔k=j\/k∈xs.toList:=by have:=(SetTable.insertAt_perm xs p j).mem_iff (a:=k);rw[this,Array.toList_push,B6,r6];exact⟨λ h=>h.symm,λ h=>h.symm⟩
def lO(mask i:Nat):List Nat:=(List.range (SetTable.runEnd mask i+1 - i)).map (i+·)
def iu(mask:Nat):Nat->Nat×Nat->List Nat
 |0,_=>[]
 |B+1,(i,pt)=>lO mask i++iu mask B (SetTable.leap mask i pt)
def gp(mask B:Nat)(p:SetTable.Probe):List Nat:=(List.range (p.more+1)).map (p.j+·)++iu mask B (SetTable.leap mask p.i p.perturb)
theorem jq(mask i:Nat):i<=SetTable.runEnd mask i/\SetTable.runEnd mask i<=i+9:=by unfold SetTable.runEnd;split <;> omega
theorem AQ(mask i:Nat):1<=(lO mask i).length/\(lO mask i).length<=10:=by unfold lO;rw[B5,x6];have:=jq mask i;omega
theorem s_(mask:Nat):∀(B:Nat) (q:Nat×Nat),(iu mask B q).length<=10*B
 |0,_=>G5 _
 |B+1,(i,pt)=>by show(lO mask i++iu mask B (SetTable.leap mask i pt)).length<=_;rw[p6];have:=(AQ mask i).2;have:=s_ mask B (SetTable.leap mask i pt);omega
theorem lP{mask B i pt:Nat}{d:Option Nat}:gp mask B {j:=i,more:=SetTable.runEnd mask i - i,i:=i,perturb:=pt,dummy:=d}=iu mask (B+1) (i,pt):=by unfold gp;show _=lO mask i++iu mask B (SetTable.leap mask i pt);unfold lO;have:=jq mask i;rw[show SetTable.runEnd mask i - i+1=SetTable.runEnd mask i+1 - i by omega]
theorem yB{t:SetTable}{B:Nat}{p:SetTable.Probe}(h:0 < p.more):gp t.mask B p=p.j::gp t.mask B (t.advance p)/\(t.advance p).dummy=p.dummy:=by
 unfold SetTable.advance;rw[J8 h];refine⟨?_,rfl⟩;unfold gp;dsimp only;rw[range_succ_eq_map,C9,D8,cons_append,Nat.add_zero,show p.more - 1+1=p.more by omega];have e:((p.j+·)∘Nat.succ)=(p.j+1+·):=funext λ x=>by show p.j+(x+1)=p.j+1+x;omega
 rw[e]
theorem yC{t:SetTable}{B:Nat}{p:SetTable.Probe}(h:p.more=0):gp t.mask (B+1) p=p.j::gp t.mask B (t.advance p)/\(t.advance p).dummy=p.dummy:=by
 have hn:¬p.more > 0:=by omega
 unfold SetTable.advance;rw[J9 hn];refine⟨?_,rfl⟩;have e1:gp t.mask (B+1) p=(List.range (p.more+1)).map (p.j+·)++iu t.mask (B+1) (SetTable.leap t.mask p.i p.perturb):=rfl;rw[e1,h];show _::iu t.mask (B+1) ((SetTable.leap t.mask p.i p.perturb).1,(SetTable.leap t.mask p.i p.perturb).2)=_;rw[<- lP (d:=p.dummy)];rfl
theorem AS{mask:Nat}{p:SetTable.Probe}(h:p.more=0):gp mask 0 p=[p.j]:=by unfold gp;rw[h];rfl
theorem Dc{t:SetTable}(hd:t.dummies=#[])(hr:xR t.place.toList){hashAt:Nat->Int}{h:Int}:∀(fuel B:Nat) (p:SetTable.Probe),(gp t.mask B p).length<=fuel->p.dummy=none->(∃e∈gp t.mask B p,e∉t.place.toList)->
  ∃pre j post,gp t.mask B p=pre++j::post/\(∀k∈pre,∃i,t.place.toList[i]?=some k/\hashAt i≠h)/\
   ((j∉t.place.toList/\SetTable.probe.go t hashAt h fuel p=some (.empty j none))\/
    (∃i B' next,t.place.toList[i]?=some j/\hashAt i=h/\SetTable.probe.go t hashAt h fuel p=some (.candidate j i next)/\next.dummy=none/\(post≠[]->gp t.mask B' next=post)))
 |0,B,p,hl,_,⟨e,he,_⟩=>by rw[j0.mp (Nat.le_zero.mp hl)]at he;cases he
 |fuel+1,B,p,hl,hp,⟨e,he,dj⟩=>by
  have st:∃rest,gp t.mask B p=p.j::rest/\(t.advance p).dummy=none/\(rest≠[]->∃B',gp t.mask B' (t.advance p)=rest):=by
   by_cases hm:0 < p.more
   ·obtain⟨e1,e2⟩:=yB (t:=t) (B:=B) hm;exact⟨_,e1,e2.trans hp,λ _=>⟨B,rfl⟩⟩
   ·have hm:p.more=0:=by omega
    cases B with
    |zero=>
     have:(t.advance p).dummy=p.dummy:=by unfold SetTable.advance;rw[J9 (by omega)]
     exact⟨[],AS hm,this.trans hp,λ z=>absurd rfl z⟩
    |succ B=>obtain⟨e1,e2⟩:=yC (t:=t) (B:=B) hm;exact⟨_,e1,e2.trans hp,λ _=>⟨B,rfl⟩⟩
  obtain⟨rest,e1,e2,e3⟩:=st;rw[e1]at hl he ⊢;unfold SetTable.probe.go;by_cases hj:p.j∈t.place.toList
  ·obtain⟨i,hi⟩:=getElem?_of_mem hj;rw[yt hr hi];dsimp only;by_cases hh:hashAt i=h
   ·rw[J8 (by simpa using hh)];by_cases xf:rest=[]
    ·exact⟨[],p.j,rest,rfl,λ k hk=>(by cases hk),.inr ⟨i,0,_,hi,hh,rfl,e2,λ z=>absurd xf z⟩⟩
    ·obtain⟨B',PD⟩:=e3 xf;exact⟨[],p.j,rest,rfl,λ k hk=>(by cases hk),.inr ⟨i,B',_,hi,hh,rfl,e2,λ _=>PD⟩⟩
   ·rw[J9 (by simpa using hh)];have Ro:e∈rest:=by
     rcases D1.mp he with z|z
     ·subst z;exact absurd hj dj
     ·exact z
    obtain⟨B',PD⟩:=e3 (ne_nil_of_mem Ro);obtain⟨pre,j,post,f1,f2,f3⟩:=Dc hd hr fuel B' (t.advance p) (by rw[PD];simpa using hl) e2 ⟨e,by rw[PD];exact Ro,dj⟩;rw[PD]at f1;refine⟨p.j::pre,j,post,by rw[f1];rfl,λ k hk=>?_,f3⟩;rcases D1.mp hk with rfl|z
    ·exact⟨i,hi,hh⟩
    ·exact f2 k z
  ·rw[uh hd hr hj];dsimp only;rw[hp];exact⟨[],p.j,rest,rfl,λ k hk=>(by cases hk),.inl ⟨hj,rfl⟩⟩
end L2
namespace L2
open PySem
def RA(m i:Nat):Nat:=(i*5+1) % m
def zK(m:Nat):Nat->Nat->Nat
 |0,i=>i
 |k+1,i=>zK m k (RA m i)
theorem kM(m:Nat):∀(a b i:Nat),zK m (a+b) i=zK m b (zK m a i)
 |0,b,i=>by rw[E3];rfl
 |a+1,b,i=>by rw[Nat.add_right_comm];show zK m (a+b) (RA m i)=zK m b (zK m a (RA m i));exact kM m a b _
def Ss(m:Nat):Nat->Nat->List Nat
 |0,_=>[]
 |k+1,i=>i::Ss m k (RA m i)
theorem wH(m:Nat):∀(n i j:Nat),j∈Ss m n i->∃k,k < n/\zK m k i=j
 |0,i,j,h=>by cases h
 |n+1,i,j,h=>by
  rcases D1.mp h with rfl|h
  ·exact⟨0,Nat.succ_pos _,rfl⟩
  ·obtain⟨k,hk,e⟩:=wH m n _ j h;exact⟨k+1,Nat.succ_lt_succ hk,e⟩
abbrev Nc(m:Nat):Prop:=m=7\/m=31\/m=127
theorem wI{m:Nat}(h:Nc m):((List.range (m+1)).all λ j=>(Ss (m+1) (m+1) 0).contains j)=true/\zK (m+1) (m+1) 0=0:=by
 rcases h with rfl|rfl|rfl
 ·exact⟨by decide+kernel,by decide+kernel⟩
 ·exact⟨by decide+kernel,by decide+kernel⟩
 ·exact⟨by decide+kernel,by decide+kernel⟩
theorem sj{m j:Nat}(h:Nc m)(hj:j<=m):∃k,k < m+1/\zK (m+1) k 0=j:=by have:=List.all_eq_true.mp (wI h).1 j (mem_range.mpr (by omega));exact wH _ _ _ _ (by simpa using this)
theorem Ht{m i j:Nat}(h:Nc m)(hi:i<=m)(hj:j<=m):∃k,k < m+1/\zK (m+1) k i=j:=by
 obtain⟨a,ha,ea⟩:=sj h hi;obtain⟨b,hb,eb⟩:=sj h hj;by_cases z:a<=b
 ·refine⟨b - a,by omega,?_⟩;rw[<- ea,<- kM,show a+(b - a)=b by omega];exact eb
 ·refine⟨m+1 - a+b,by omega,?_⟩;rw[kM,<- ea,<- kM _ a (m+1 - a),show a+(m+1 - a)=m+1 by omega,(wI h).2];exact eb
def lp(mask:Nat):Nat->Nat×Nat->Nat×Nat
 |0,q=>q
 |k+1,q=>lp mask k (SetTable.leap mask q.1 q.2)
theorem Cc(m:Nat):∀(a b:Nat) (q:Nat×Nat),lp m (a+b) q=lp m b (lp m a q)
 |0,b,i=>by rw[E3];rfl
 |a+1,b,i=>by rw[Nat.add_right_comm];exact Cc m a b _
theorem IZ{m:Nat}:∀(k:Nat) (q:Nat×Nat),q.1<=m->(lp m k q).1<=m
 |0,_,h=>h
 |k+1,q,_=>IZ k _ (Nat.le_of_lt_succ (Nat.mod_lt _ (Nat.succ_pos _)))
theorem Ca{m:Nat}:∀(k:Nat) (q:Nat×Nat),(lp m k q).2=q.2 / 32^k
 |0,q=>by rw[Nat.pow_zero,Nat.div_one];rfl
 |k+1,q=>by show(lp m k (SetTable.leap m q.1 q.2)).2=_;rw[Ca k,Nat.pow_succ,Nat.mul_comm,<- Nat.div_div_eq_div_mul];rfl
theorem Cb{m:Nat}:∀(k i:Nat),lp m k (i,0)=(zK (m+1) k i,0)
 |0,_=>rfl
 |k+1,i=>by show lp m k ((i*5+1+0 / 32) % (m+1),0 / 32)=_;exact Cb k _
theorem AO{m i:Nat}:i∈lO m i:=by unfold lO;have:=jq m i;exact D7.mpr ⟨0,mem_range.mpr (by omega),rfl⟩
theorem xM{m:Nat}:∀(B k:Nat) (q:Nat×Nat),k < B->(lp m k q).1∈iu m B q
 |0,k,q,h=>by omega
 |B+1,0,(i,pt),_=>l5 _ AO
 |B+1,k+1,(i,pt),h=>j9 _ (xM B k _ (by omega))
theorem td{m i pt j:Nat}(h:Nc m)(hi:i<=m)(hp:pt < 2^64)(hj:j<=m):j∈iu m (m+15) (i,pt):=by
 have e:lp m 13 (i,pt)=((lp m 13 (i,pt)).1,0):=by refine Prod.ext rfl ?_;rw[Ca];exact Nat.div_eq_of_lt (q9 hp (by decide))
 obtain⟨k,hk,ek⟩:=Ht h (IZ 13 (i,pt) hi) hj;have e2:(lp m (13+k) (i,pt)).1=j:=by rw[Cc,e,Cb];exact ek
 rw[<- e2];exact xM _ _ _ (by omega)
theorem Kd{m i j:Nat}(hi:i<=m)(h:j∈lO m i):j<=m:=by unfold lO at h;obtain⟨k,hk,rfl⟩:=D7.mp h;rw[mem_range]at hk;unfold SetTable.runEnd at hk;split at hk <;> omega
theorem qr{m j:Nat}:∀(B:Nat) (q:Nat×Nat),q.1<=m->j∈iu m B q->j<=m
 |0,_,_,h=>by cases h
 |B+1,(i,pt),hi,h=>by
  rcases B6.mp h with h|h
  ·exact Kd hi h
  ·exact qr B _ (Nat.le_of_lt_succ (Nat.mod_lt _ (Nat.succ_pos _))) h
theorem xN(h:Int):SetTable.bits h < 2^64:=by unfold SetTable.bits;have:=A9 h (b:=2^64) (by decide);have:=p8 h (b:=2^64) (by decide);omega
theorem yr{l:List Nat}{m:Nat}(h:l.length<=m):∃j,j<=m/\j∉l:=by
 refine Decidable.byContradiction λ z=>?_;have hs:List.range (m+1)⊆l:=λ j hj=>by refine Decidable.byContradiction λ n=>z ⟨j,?_,n⟩;have:=mem_range.mp hj;omega
 have:=List.Nodup.length_le_of_subset nodup_range hs;rw[x6]at this;omega
structure Tab0(t:SetTable)(n:Nat):Prop where
 dm:t.dummies=#[]
 Q5:xR t.place.toList
 sz:t.place.size=n
 le:∀j∈t.place.toList,j<=t.mask
 pl:t.plain=true
 UD:Nc t.mask
theorem zk{t:SetTable}{n:Nat}(T:Tab0 t n)(hn:n<=t.mask)(h:Int):∃j,j<=t.mask/\j∉t.place.toList/\t.freeSlot h=some (j,false):=by
 have hi:SetTable.bits h % (t.mask+1)<=t.mask:=Nat.le_of_lt_succ (Nat.mod_lt _ (Nat.succ_pos _));obtain⟨e,he,dj⟩:=yr (l:=t.place.toList) (m:=t.mask) (by rw[m8,T.sz];exact hn);have em:e∈iu t.mask (t.mask+15) (SetTable.bits h % (t.mask+1),SetTable.bits h):=td T.UD hi (xN h) he;have rs:gp t.mask (t.mask+14) (t.probeStart h)=iu t.mask (t.mask+15) (SetTable.bits h % (t.mask+1),SetTable.bits h):=lP;obtain⟨pre,j,post,e1,e2,e3⟩:=Dc T.dm T.Q5 (hashAt:=λ _=>h+1) (h:=h) (10*SetTable.turns t.mask) (t.mask+14) (t.probeStart h) (by rw[rs];exact s_ _ _ _) rfl ⟨e,by rw[rs];exact em,dj⟩;have jm:j<=t.mask:=by refine qr (t.mask+15) (SetTable.bits h % (t.mask+1),SetTable.bits h) hi ?_;rw[<- rs,e1];exact j9 _ o8
 rcases e3 with⟨a,b⟩|⟨i,B',next,_,z,_⟩
 ·refine⟨j,jm,a,?_⟩;unfold SetTable.freeSlot SetTable.probe;rw[b];rfl
 ·exact absurd z (by show ¬h+1=h;omega)
theorem FZ{t:SetTable}{n j:Nat}(T:Tab0 t n)(hj:j<=t.mask)(nj:j∉t.place.toList):Tab0 (t.put j).1 (n+1)/\(t.put j).1.mask=t.mask/\(t.put j).1.led=t.led:=by
 have hd:SetTable.has t.dummies j=false:=by rw[T.dm];simp[SetTable.has,SetTable.below]
 unfold SetTable.put;dsimp only;rw[hd];refine⟨⟨T.dm,EO T.Q5 nj,?_,λ k hk=>?_,T.pl,T.UD⟩,rfl,rfl⟩
 ·have:=(SetTable.insertAt_perm t.place (SetTable.below t.place j) j).length_eq;rw[m8,m8,Array.size_push,T.sz]at this;exact this
 ·rcases G_.mp hk with rfl|hk
  ·exact hj
  ·exact T.le k hk
theorem Tab0.fits {t:SetTable}{n:Nat}(T:Tab0 t n)(hn:n<=t.mask):t.fits n=true:=by unfold SetTable.fits SetTable.fill;rw[T.sz,T.dm];simp[hn]
theorem Hi{t:SetTable}{n:Nat}(T:Tab0 t n)(hn:n+1<=t.mask){es:Array (Int×Value)}(zM:es.size=n)(h:Int)(x:Value):∃kR t1,layNew t es h x=(kR,t1,false,false)/\Tab0 t1 (n+1)/\t1.mask=t.mask/\t1.led=t.led/\kR.size=n+1:=by
 obtain⟨j,hj,nj,e⟩:=zk T (by omega) h;obtain⟨T1,m1,l1⟩:=FZ T hj nj;have sz:(SetTable.insertAt es (t.put j).2 (h,x)).size=n+1:=by have:=(SetTable.insertAt_perm es (t.put j).2 (h,x)).length_eq;rw[m8,m8,Array.size_push,zM]at this;exact this
 have hf:(t.put j).1.fits (n+1)=true:=T1.fits (by rw[m1];exact hn);refine⟨SetTable.insertAt es (t.put j).2 (h,x),(t.put j).1,?_,T1,m1,l1,sz⟩;unfold layNew;rw[e];dsimp only;rw[sz];unfold SetTable.orStandIn;rw[hf];rfl
theorem xr{mask:Nat}{owner:Array (Option Nat)}:∀(fuel i pt:Nat),(∃e∈iu mask fuel (i,pt),(owner.getD e (some 0)).isNone=true)->
  ∃j∈iu mask fuel (i,pt),(owner.getD j (some 0)).isNone=true/\SetTable.layClean.free mask owner fuel i pt=some j
 |0,i,pt,⟨e,he,_⟩=>by cases he
 |fuel+1,i,pt,⟨e,he,hn⟩=>by
  unfold SetTable.layClean.free;cases hf:(List.range (SetTable.runEnd mask i+1 - i)).find? λ k=>(owner.getD (i+k) (some 0)).isNone with
  |some k=>refine⟨i+k,l5 _ (D7.mpr ⟨k,mem_of_find?_eq_some hf,rfl⟩),(find?_some (p:=λ k=>(owner.getD (i+k) (some 0)).isNone) hf),rfl⟩
  |none=>
   rcases B6.mp he with he|he
   ·obtain⟨k,hk,rfl⟩:=D7.mp he;exact absurd hn (find?_eq_none.mp hf k hk)
   ·obtain⟨j,a,b,c⟩:=xr fuel (SetTable.leap mask i pt).1 (SetTable.leap mask i pt).2 ⟨e,he,hn⟩;exact⟨j,j9 _ a,b,c⟩
def jX(mask:Nat)(owner:Array (Option Nat)):List Nat:=(List.range (mask+1)).filterMap λ j=>owner.getD j none
theorem mE{f g:Nat->Option Nat}:∀(l:List Nat),(∀j∈l,f j=g j)->l.filterMap f=l.filterMap g
 |[],_=>rfl
 |a::l,h=>by rw[o7,o7,h a o8,mE l λ j hj=>h j (k9 _ hj)]
theorem Dh{f:Nat->Option Nat}:∀(l:List Nat),(∀j∈l,f j≠none)->(l.filterMap f).length=l.length
 |[],_=>rfl
 |a::l,h=>by
  cases e:f a with
  |none=>exact absurd e (h a o8)
  |some b=>rw[filterMap_cons_some e,y4,y4,Dh l λ j hj=>h j (k9 _ hj)]
theorem BF{mask k:Nat}{owner:Array (Option Nat)}(hs:owner.size=mask+1)(hp:(jX mask owner).Perm (List.range k))(hk:k<=mask):∃j,j<=mask/\(owner.getD j (some 0)).isNone=true:=by
 refine Decidable.byContradiction λ z=>?_;have:=Dh (f:=λ j=>owner.getD j none) (List.range (mask+1)) λ j hj e=>by
  have lt:=mem_range.mp hj;refine z ⟨j,by omega,?_⟩;have h1:j < owner.size:=by omega
  simp only[Array.getD,h1,dite_true]at e ⊢;rw[e];rfl
 have h2:(jX mask owner).length=k:=by rw[hp.length_eq,x6]
 unfold jX at h2;rw[x6]at this;omega
theorem Gs{mask k j:Nat}{owner:Array (Option Nat)}(hs:owner.size=mask+1)(hp:(jX mask owner).Perm (List.range k))(hj:j<=mask)(hn:(owner.getD j (some 0)).isNone=true): (owner.setIfInBounds j (some k)).size=mask+1/\(jX mask (owner.setIfInBounds j (some k))).Perm (List.range (k+1)):=by
 refine⟨by rw[Array.size_setIfInBounds];exact hs,?_⟩;have h1:j < owner.size:=by omega
 have Ww:owner.getD j none=none:=by simp only[Array.getD,h1,dite_true]at hn ⊢;exact Option.isNone_iff_eq_none.mp hn
 obtain⟨l1,l2,e⟩:=append_of_mem (mem_range.mpr (show j < mask+1 by omega));have nd:(l1++j::l2).Nodup:=by rw[<- e];exact nodup_range
 have n1:j∉l1:=λ z=>by have:=(nodup_append.mp nd).2.2 j z j o8;exact this rfl
 have n2:j∉l2:=(nodup_cons.mp (nodup_append.mp nd).2.1).1;have uJ:∀i,i≠j->(owner.setIfInBounds j (some k)).getD i none=owner.getD i none:=λ i hi=>by
  simp only[Array.getD,Array.size_setIfInBounds];by_cases h2:i < owner.size
  ·simp only[h2,dite_true];have:(owner.setIfInBounds j (some k))[i]?=owner[i]?:=by rw[Array.getElem?_setIfInBounds,J9 (J6 hi)]
   rw[c9 h2,c9 (by rw[Array.size_setIfInBounds];exact h2)]at this;exact B0 this
  ·simp only[h2,dite_false]
 have at':(owner.setIfInBounds j (some k)).getD j none=some k:=by
  simp only[Array.getD,Array.size_setIfInBounds,h1,dite_true];have:(owner.setIfInBounds j (some k))[j]?=some (some k):=by rw[Array.getElem?_setIfInBounds,J8 rfl,J8 h1]
  rw[c9 (by rw[Array.size_setIfInBounds];exact h1)]at this;exact B0 this
 unfold jX at hp ⊢;rw[e,filterMap_append,filterMap_cons_none (f:=λ j=>owner.getD j none) Ww]at hp;rw[e,filterMap_append,filterMap_cons_some (f:=λ i=>(owner.setIfInBounds j (some k)).getD i none) at',mE l1 λ i hi=>uJ i λ z=>n1 (z▸hi),mE l2 λ i hi=>uJ i λ z=>n2 (z▸hi),range_succ];exact perm_middle.trans ((hp.cons k).trans (perm_append_singleton k (List.range k)).symm)
theorem yZ{mask:Nat}(M:Nc mask)(hashes:Array Int)(hn:hashes.size<=mask+1):∃owner,SetTable.layClean mask hashes=some owner/\owner.size=mask+1/\(jX mask owner).Perm (List.range hashes.size):=by
 have gen:∀(l:List Int) (owner:Array (Option Nat)) (k:Nat),owner.size=mask+1->(jX mask owner).Perm (List.range k)->k+l.length<=mask+1->
   ∃uI,l.foldl (init:=some (owner,k)) (λ acc h=>do
    let(owner,k) <- acc
    let j <- SetTable.layClean.free mask owner (SetTable.turns mask) (SetTable.bits h % (mask+1)) (SetTable.bits h)
    pure (owner.setIfInBounds j (some k),k+1))=some (uI,k+l.length)/\uI.size=mask+1/\(jX mask uI).Perm (List.range (k+l.length)):=by
  intro l
  induction l with
  |nil=>exact λ owner k h1 h2 _=>⟨owner,rfl,h1,h2⟩
  |cons h l ih=>
   intro owner k h1 h2 h3;rw[y4]at h3;have hi:SetTable.bits h % (mask+1)<=mask:=Nat.le_of_lt_succ (Nat.mod_lt _ (Nat.succ_pos _));obtain⟨e,he,dj⟩:=BF h1 h2 (by omega);obtain⟨j,j1,j2,j3⟩:=xr (mask:=mask) (owner:=owner) (SetTable.turns mask) (SetTable.bits h % (mask+1)) (SetTable.bits h) ⟨e,td M hi (xN h) he,dj⟩;have jm:=qr (mask+15) (SetTable.bits h % (mask+1),SetTable.bits h) hi j1;obtain⟨h4,h5⟩:=Gs h1 h2 jm j2;obtain⟨o',f1,f2,f3⟩:=ih _ (k+1) h4 h5 (by omega);refine⟨o',?_,f2,?_⟩
   ·rw[foldl_cons];have:(do let(owner,k) <- some (owner,k);let j <- SetTable.layClean.free mask owner (SetTable.turns mask) (SetTable.bits h % (mask+1)) (SetTable.bits h);pure (owner.setIfInBounds j (some k),k+1):Option (Array (Option Nat)×Nat))=some (owner.setIfInBounds j (some k),k+1):=by show(SetTable.layClean.free mask owner (SetTable.turns mask) (SetTable.bits h % (mask+1)) (SetTable.bits h)).bind _=_;rw[j3];rfl
    rw[this,f1,y4,Nat.add_right_comm,Nat.add_assoc]
   ·rw[y4,show k+(l.length+1)=k+1+l.length by omega];exact f3
 have e0:(jX mask (Array.replicate (mask+1) none)).Perm (List.range 0):=by
  have:jX mask (Array.replicate (mask+1) none)=[]:=by unfold jX;rw[filterMap_eq_nil_iff];intro j _;rw[Array.getD_eq_getD_getElem?,Array.getElem?_replicate];split <;> rfl
  rw[this];exact List.Perm.refl _
 obtain⟨o',f1,f2,f3⟩:=gen hashes.toList _ 0 (by simp) e0 (by rw[m8];omega);refine⟨o',?_,f2,by rw[m8,E3]at f3;exact f3⟩;unfold SetTable.layClean;rw[<- Array.foldl_toList,f1];rfl
theorem mh(f:Nat->Option Nat):∀l:List Nat,((l.filterMap λ j=>(f j).map (j,·)).map (·.1)).Sublist l
 |[]=>.slnil
 |a::l=>by
  cases e:f a with
  |none=>rw[filterMap_cons_none (by rw[e];rfl)];exact(mh f l).cons a
  |some b=>rw[filterMap_cons_some (b:=(a,b)) (by rw[e];rfl),C9];exact(mh f l).cons₂ a
theorem mf(f:Nat->Option Nat):∀l:List Nat,(l.filterMap λ j=>(f j).map (j,·)).map (·.2)=l.filterMap f
 |[]=>rfl
 |a::l=>by
  cases e:f a with
  |none=>rw[filterMap_cons_none (by rw[e];rfl),filterMap_cons_none e];exact mf f l
  |some b=>rw[filterMap_cons_some (b:=(a,b)) (by rw[e];rfl),C9,filterMap_cons_some e,mf f l]
theorem oo{t:SetTable}{es:Array (Int×Value)}{wanted m:Nat}(pl:t.plain=true)(e:SetTable.sizeAbove wanted=m+1)(M:Nc m)(hn:es.size<=m):∃zO t2,relayAll t es wanted=(zO,t2,false)/\Tab0 t2 es.size/\t2.mask=m/\t2.led=t.led/\zO.size=es.size:=by
 obtain⟨owner,o1,o2,o3⟩:=yZ M (es.map (·.1)) (by rw[Array.size_map];omega);rw[Array.size_map]at o3;have sl:=mh (λ j=>owner.getD j none) (List.range (m+1));have sn:=mf (λ j=>owner.getD j none) (List.range (m+1));generalize hl:((List.range (m+1)).filterMap λ j=>(owner.getD j none).map (j,·))=live at sl sn;have hp:(live.map (·.2)).Perm (List.range es.size):=by rw[sn];exact o3
 have len:live.length=es.size:=by rw[<- B5 (f:=(·.2)),hp.length_eq,x6]
 have er:t.relaid (es.map (·.1)) wanted=some ({mask:=m,place:=(live.map (·.1)).toArray,dummies:=#[],finger:=t.finger,led:=t.led,moves:=t.movedTo m,plain:=t.plain},(live.map (·.2)).toArray):=by unfold SetTable.relaid SetTable.laid;rw[e,Nat.add_sub_cancel,o1];show some (_,_)=_;rw[hl]
 have T:Tab0 {mask:=m,place:=(live.map (·.1)).toArray,dummies:=#[],finger:=t.finger,led:=t.led,moves:=t.movedTo m,plain:=t.plain} es.size:=by
  refine⟨rfl,?_,?_,λ j hj=>?_,pl,M⟩
  ·exact List.Pairwise.sublist sl (pairwise_lt_range)
  ·show(live.map (·.1)).toArray.size=_;rw[x8,B5,len]
  ·have:=mem_range.mp (sl.subset hj);show j<=m;omega
 have pm:=relayAll_perm t es wanted;have ca:coversAll (live.map (·.2)).toArray es.size=true:=by unfold coversAll;exact isPerm_iff.mpr hp
 have sz:((live.map (·.2)).toArray.filterMap (es[·]?)).size=es.size:=by
  rw[<- m8,Array.toList_filterMap];have:((live.map (·.2)).filterMap (es[·]?)).Perm ((List.range es.size).filterMap (es[·]?)):=hp.filterMap _;rw[this.length_eq];have h2:∀l:List Nat,(∀j∈l,j < es.size)->(l.filterMap (es[·]?)).length=l.length:=by
   intro l
   induction l with
   |nil=>exact λ _=>rfl
   |cons a l ih=>intro h;rw[filterMap_cons_some (c9 (h a o8)),y4,y4,ih λ j hj=>h j (k9 _ hj)]
  rw[h2 _ λ j hj=>mem_range.mp hj,x6]
 refine⟨(live.map (·.2)).toArray.filterMap (es[·]?),_,?_,T,rfl,rfl,sz⟩;unfold relayAll;rw[er];dsimp only;rw[ca,sz,T.fits hn];rfl
structure Tab(t:SetTable)(n:Nat):Prop extends Tab0 t n where
 RB:(t.mask=7/\n<=4)\/(t.mask=31/\n<=18)\/(t.mask=127/\n<=76)
theorem Tab.fit {t:SetTable}{n:Nat}(T:Tab t n):t.fits n=true:=T.fits (by have:=T.RB;omega)
theorem yp(f m:Nat)(led:Bool):Tab (.fresh f m led) 0:=⟨⟨rfl,List.Pairwise.nil,rfl,λ j h=>(by cases h),rfl,.inl rfl⟩,.inl ⟨rfl,G7 _⟩⟩
theorem jJ{t:SetTable}{n:Nat}(T:Tab0 t n):t.tooFull=decide (n*5 ≥ t.mask*3):=by unfold SetTable.tooFull SetTable.fill;rw[T.dm,T.sz];rfl
theorem Ig{t:SetTable}{n:Nat}(T:Tab t n)(hn:n < 76){es:Array (Int×Value)}(zM:es.size=n)(h:Int)(x:Value):∃kR t1,layNew t es h x=(kR,t1,false,false)/\t1.plain=true/\t1.led=t.led/\kR.size=n+1/\t1.fits kR.size=true/\
   (t1.tooFull=true->∃zO t2,relayAll t1 kR (SetTable.grown kR.size)=(zO,t2,false)/\t2.led=t.led/\zO.size=n+1/\Tab t2 (n+1))/\(t1.tooFull=false->Tab t1 (n+1)):=by
 obtain⟨kR,t1,e1,T1,m1,l1,s1⟩:=Hi T.toTab0 (by have:=T.RB;omega) zM h x;have RB:=T.RB;refine⟨kR,t1,e1,T1.pl,l1,s1,by rw[s1];exact T1.fits (by rw[m1];omega),λ tf=>?_,λ tf=>⟨T1,?_⟩⟩
 ·rw[jJ T1,w5,m1]at tf;have two:(n=4/\t.mask=7)\/(n=18/\t.mask=31):=by omega
  rcases two with⟨rfl,mm⟩|⟨rfl,mm⟩
  ·obtain⟨zO,t2,f1,f2,f3,f4,f5⟩:=oo (t:=t1) (es:=kR) (wanted:=SetTable.grown kR.size) (m:=31) T1.pl (by rw[s1];decide+kernel) (.inr (.inl rfl)) (by omega);rw[s1]at f2;exact⟨zO,t2,f1,f4.trans l1,f5.trans s1,f2,.inr (.inl ⟨f3,by omega⟩)⟩
  ·obtain⟨zO,t2,f1,f2,f3,f4,f5⟩:=oo (t:=t1) (es:=kR) (wanted:=SetTable.grown kR.size) (m:=127) T1.pl (by rw[s1];decide+kernel) (.inr (.inr rfl)) (by omega);rw[s1]at f2;exact⟨zO,t2,f1,f4.trans l1,f5.trans s1,f2,.inr (.inr ⟨f3,by omega⟩)⟩
 ·rw[jJ T1,decide_eq_false_iff_not,m1]at tf;rw[m1];omega
end L2
namespace L2
open PySem PySem.Spec PyProof.Rows
def OV:Value->Int
 | .int k _=>k
 |_=>0
def tM(es:Array (Int×Value)):List Int:=es.toList.map λ e=>OV e.2
abbrev zH(es:Array (Int×Value)):Prop:=∀e∈es.toList,∃(k:Int) (tk:Tok),e=(hashInt k,Value.int k tk)
abbrev gj(es:Array (Int×Value))(ep:Nat)(t:SetTable):Obj:={cls:=.type "set",dict:=none,data:=.set es ep t}
def nP(h:Heap)(a:Addr)(led:Bool)(ks:List Int):Prop:=∃es ep t,h.get? a=some (gj es ep t)/\zH es/\tM es=ks/\Tab t es.size/\t.led=led
theorem nP.at {h h':Heap}{a:Addr}{led:Bool}{ks:List Int}(S:nP h a led ks)(k:∀o,h.get? a=some o->h'.get? a=some o):nP h' a led ks:=
 let⟨es,ep,t,e,r⟩:=S
 ⟨es,ep,t,k _ e,r⟩
section
variable {prog:Program}{w:World}{A:Around}{E:Value->Shared->Prop}{s:Shared}
theorem zH.elems {es:Array (Int×Value)}(h:zH es):ElemsOf (intKind prog w) es.toList:=λ e he=>by obtain⟨k,tk,rfl⟩:=h e he;exact⟨⟨k,intKind_is _ _ _ _,rfl⟩,rfl⟩
theorem kys_len(es:Array (Int×Value)):(tM es).length=es.size:=by unfold tM;rw[B5,m8]
theorem Hj{es:Array (Int×Value)}(h:zH es){k:Int}{e:Int×Value}(he:e∈es.toList)(hk:(intKind prog w).is k e.2=true):k∈tM es:=by obtain⟨k',tk,rfl⟩:=h e he;have:=(intKind prog w).inj _ k k' hk (intKind_is _ _ _ _);subst this;exact D7.mpr ⟨_,he,rfl⟩
theorem G'{es:Array (Int×Value)}(h:zH es){k:Int}(hk:k∈tM es):∃e∈es.toList,(intKind prog w).is k e.2=true:=by obtain⟨e,he,ek⟩:=D7.mp hk;obtain⟨k',tk,rfl⟩:=h e he;have:k'=k:=ek;subst this;exact⟨_,he,intKind_is _ _ _ _⟩
theorem qT{h:Heap}{a:Addr}{es es':Array (Int×Value)}{ep:Nat}{t t':SetTable}(ho:h.get? a=some (gj es ep t)):(h.update a (Obj.putSet es' t')).get? a=some (gj es' (ep+1) t'):=by have:=j8 (Obj.putSet es' t') ho (by rw[putSet_of es' t' rfl];rfl);rw[putSet_of es' t' rfl]at this;exact this
theorem vJ{a:Addr}{led:Bool}{ks:List Int}{k:Int}{tk:Tok}{Q:Bool->Shared->Prop}(S:nP s.heap a led ks)(cH:ks.length < 76) (h:∀(b:Bool) (h':Heap) (pP:List Int),Heap.SameBut a s.heap h'->nP h' a led pP->pP.Perm (if k∈ks then ks else k::ks)->Q b {s with heap:=h'}):wpAny (model prog w) A (setAddHashed a (.int k tk) (hashInt k)) Q E s:=by
 obtain⟨es,ep,t,ho,he,hk,T,hl⟩:=S;subst hk;rw[kys_len]at cH;have hb:es.size < scanBound:=Nat.lt_trans cH (by decide);unfold setAddHashed setAddHashedIn;refine C5 (H0 (wpAny_setState_of ho rfl T.fit ?_));dsimp only;rw[byScan_of (knd:=intKind prog w) (x:=.int k tk) rfl hb he.elems,J8 rfl];unfold setAddByScan;refine H0 (H0 (J0 (H0 (wpAny_setScan_of (knd:=intKind prog w) (k:=k) (intKind_is _ _ _ _) ho rfl T.fit he.elems ?_))));cases hr:List.findIdx? (λ e=>(intKind prog w).is k e.2) es.toList with
 |some j=>dsimp only;obtain⟨hj,Wt,_⟩:=findIdx?_eq_some_iff_getElem.mp hr;have hm:k∈tM es:=Hj he (A1 hj) Wt;refine H9 (H9 ?_);have:=h false s.heap (tM es) (Heap.SameBut.refl a s.heap) ⟨es,ep,t,ho,he,rfl,T,hl⟩ (by rw[J8 hm]);exact this
 |none=>
  dsimp only;have hm:k∉tM es:=λ z=>by obtain⟨e,h1,h2⟩:=G' (prog:=prog) (w:=w) he z;have:=findIdx?_eq_none_iff.mp hr e h1;rw[h2]at this;cases this
  obtain⟨kR,t1,e1,p1,l1,s1,f1,c1,c2⟩:=Ig T cH rfl (hashInt k) (.int k tk);have pm:=layNew_perm t es (hashInt k) (.int k tk);rw[e1,Array.toList_push]at pm;rw[e1];dsimp only at pm ⊢;have PN:zH kR:=λ e z=>by
   rcases B6.mp (pm.mem_iff.mp z)with z|z
   ·exact he e z
   ·rw[r6.mp z];exact⟨k,tk,rfl⟩
  have pk:(tM kR).Perm (k::tM es):=by have:=pm.map λ e:Int×Value=>OV e.2;rw[B7]at this;exact this.trans (perm_append_singleton k _)
  have R8:kR.size<=sizeLine:=by rw[G6];omega
  refine H0 (H9 ?_);rw[p1,J8 rfl];refine H0 (H9 ?_);have tt:(if True then t1 else{t1 with plain:=false})=t1:=J8 trivial;rw[J8 (by rfl)];refine H0 (wpAny_storeSet_of ho rfl ?_ R8);have o1:=qT (es':=kR) (t':=t1) ho;have b1:=l8 s.heap a (Obj.putSet kR t1);cases tf:t1.tooFull with
  |true=>rw[J8 (by rfl)];obtain⟨zO,t2,e2,l2,s2,T2⟩:=c1 tf;have Q6:=relayAll_perm t1 kR (SetTable.grown kR.size);rw[e2]at Q6;rw[e2];dsimp only at Q6 ⊢;refine H0 (H9 ?_);refine H0 (wpAny_storeSet_of o1 rfl ?_ (by rw[s2,G6];omega));refine H9 (H9 (h true _ (tM zO) (b1.trans (l8 _ a _)) ⟨zO,ep+1+1,t2,qT o1,λ e z=>PN e (Q6.mem_iff.mp z),rfl,by rw[s2];exact T2,l2.trans hl⟩ ?_));rw[J9 hm];exact(Q6.map _).trans pk
  |false=>rw[J9 (by decide)];refine H9 (H9 (h true _ (tM kR) b1 ⟨kR,ep+1,t1,o1,PN,rfl,by rw[s1];exact c2 tf,l1.trans hl⟩ ?_));rw[J9 hm];exact pk
end
end L2
namespace L2
open PySem PySem.Spec PyProof.Rows
def Once(ks ns:List Int):Prop:=ks.Nodup/\∀k,k∈ks↔k∈ns
theorem Once.step {ks pP ns:List Int}{k:Int}(o:Once ks ns)(p:pP.Perm (if k∈ks then ks else k::ks)):Once pP (ns++[k]):=by
 by_cases h:k∈ks
 ·rw[J8 h]at p;refine⟨p.nodup_iff.mpr o.1,λ x=>?_⟩;rw[p.mem_iff,o.2,B6,r6];exact⟨.inl,λ z=>z.elim id λ z=>by subst z;exact(o.2 _).mp h⟩
 ·rw[J9 h]at p;refine⟨p.nodup_iff.mpr (nodup_cons.mpr ⟨h,o.1⟩),λ x=>?_⟩;rw[p.mem_iff,D1,o.2,B6,r6];exact⟨λ z=>z.symm,λ z=>z.symm⟩
theorem Once.cH {ks ns:List Int}(o:Once ks ns):ks.length<=ns.length:=List.Nodup.length_le_of_subset o.1 λ k h=>(o.2 k).mp h
section
variable {prog:Program}{w:World}{A:Around}{I:Addr}{fp wr:List Addr}{G:Array GenState->Array GenState->Prop}{P:Nat->Value->Prop}{St:Nat->Shared->Prop}
theorem Ac{R:Result->Shared->Prop}{ns:List Int}(W:WalksS prog w A.in1 I fp wr G ns.length P St)(S:Addr)(hS:S∉fp)(led:Bool) (val:∀i v,P i v->∃(k:Int) (t:Tok),ns[i]?=some k/\v=.int k t) (cH:ns.length<=76):∀(m i:Nat) (s:Shared) (ks:List Int),m+i=ns.length->St i s->nP s.heap S led ks->Once ks (ns.take i)-> (∀s' pP,Moved (S::wr) G s s'->nP s'.heap S led pP->Once pP ns->R (.ok (.ret .none)) s')->
  codeAny (model prog w) A (.builtin "set.update.loop" ⟨[.ref S,.ref I],[]⟩) R s:=by
 have hw:S∉wr:=λ z=>hS (W.sub _ z);have sub:∀b∈wr,b∈S::wr:=λ b z=>k9 _ z;intro m
 induction m with
 |zero=>
  intro i s ks e st hZ ho hR;have e:i=ns.length:=by omega
  subst e;refine B3 F.entry_set_update_loop ?_;rw[l6 F.plain_set_update_loop _];show wpAny _ A.in1 (pyNext (.ref I) >>= _) _ _ s;refine H0 (W.done s _ _ st λ s' mv=>?_);rw[y7]at ho;exact H9 (hR s' ks (mv.mono sub) (hZ.at λ o z=>mv.heap S o hw z) ho)
 |succ m ih=>
  intro i s ks e st hZ ho hR;refine B3 F.entry_set_update_loop ?_;rw[l6 F.plain_set_update_loop _];show wpAny _ A.in1 (pyNext (.ref I) >>= _) _ _ s;refine H0 (W.item i s _ _ (by omega) st λ v s' hP og mv=>?_);obtain⟨k,t,hk,rfl⟩:=val i v hP;have Xa:nP s'.heap S led ks:=hZ.at λ o z=>mv.heap S o hw z;have lk:ks.length < 76:=by have:=ho.cH;rw[A0]at this;omega
  show wpAny _ A.in1 (holding [Value.int k t] (setAdd S (.int k t)) >>= _) _ _ s';refine H0 (C5 ?_);unfold setAdd;refine C5 (H0 ((intKind prog w).pyHash (k:=k) (intKind_is _ _ _ _) ?_));refine vJ (s:={s' with toks:=s'.toks+1}) Xa lk λ b h' pP sb Rr pm=>?_;have CO:Once pP (ns.take (i+1)):=by rw[take_add_one,hk];exact ho.step pm
  refine H9 ⟨D3 F.plain_set_update_loop _,ih (i+1) _ pP (by omega) (W.frame _ s' _ _ og (Nat.le_succ _) λ b hb o z=>?_) Rr CO λ s2 OU V2 W' Tg=>?_⟩
  ·rw[sb.2 b λ z2:b=S=>hS (by rw[<- z2];exact hb)];exact z
  ·refine hR s2 OU (Moved.trans W.gtrans ((mv.mono sub).then_heap (Nat.le_succ _) λ b o hb z=>?_) V2) W' Tg;rw[sb.2 b λ z2:b=S=>hb (by rw[z2];exact o8)];exact z
end
section
variable {prog:Program}{w:World}{A:Around}{E:Value->Shared->Prop}{s:Shared}
def sZ(w:World):Bool:=w.params.followText "set-order"
abbrev eY(w:World):Obj:=gj #[] 0 (.fresh 0 0 (!sZ w))
theorem GU(a:Value){Q:Value->Shared->Prop}(h:Q (.ref s.heap.objs.size) {s with heap:=s.heap.push (eY w)}):codeAny (model prog w) A (.call (.builtin "set.__new__") ⟨[.type "set",a],[]⟩) (wants Q E) s:=by
 refine codeAny_of_tree ?_;show wpAny _ A.in1 (checkBuiltinCall "set.__new__" ⟨[.type "set",a],[]⟩ >>= λ _=>again (.builtin "set.__new__" ⟨[.type "set",a],[]⟩)) _ _ s;refine H0 (wpAny_of_eq (F.newCall_set_1 a) (H9 ⟨D3 F.plain_set_new _,B3 F.entry_set_new ?_⟩));rw[l6 F.plain_set_new _];unfold Builtin.«set.__new__» Builtin.Frozenset.newClass;have S8:=sub_set_self;obtain⟨hp,g,d,tk,os⟩:=s;dsimp only
 wp_walk
 refine wpAny_askSetting (H9 ?_);dsimp only;simp only[newObj];refine H0 (wpAny_alloc (H9 ?_));exact H9 h
theorem vE{T newId uX:String}{Bi:Builtin}{args:List Value}{Q Q₁:Value->Shared->Prop}(ft:TypeCalled T newId uX)(YO:checkTypeCall T ⟨args,[]⟩=pure ())(MF:entryFor table uX=some Bi) (CP:codeAny (model prog w) A.in1 (.call (.builtin newId) ⟨.type T::args,[]⟩) (wants Q₁ E) s) (Pc:∀obj s₁,Q₁ obj s₁->s₁.TypeIs obj T/\wpAny (model prog w) A.in1.in1 (checkBuiltinCall uX ⟨obj::args,[]⟩) (λ _ s₁=>wpAny (model prog w) A.in1.in1 (Bi ⟨obj::args,[]⟩)
    (λ fin s'=>match fin with| .done f=>wants (λ r s₂=>r=.none/\Q obj s₂) E (.ok f) s'| .again c'=>c'.quiet=true/\codeAny (model prog w) A.in1 c' (wants (λ r s₂=>r=.none/\Q obj s₂) E) s')
    (λ e s'=>wants (λ r s₂=>r=.none/\Q obj s₂) E (.error e) s') s₁) (λ e s'=>wants (λ r s₂=>r=.none/\Q obj s₂) E (.error e) s') s₁):
  wpAny (model prog w) A (call (.type T) args) Q E s:=by
 obtain⟨c,tl,WB⟩:=ft.mro;have U3:=ft.made;have S8:=ft.sub;refine wpAny_call (codeAny_of_tree ?_);show wpAny _ _ (callAny (.type T) _) _ _ _;refine H9 ⟨Code.quiet_builtin _ (by decide+kernel),B3 F.entry_type_call ?_⟩;rw[Around.under_plain (weight_type_call_type T args []) rfl];have h1:=ft.notType;have h2:=ft.canCreate
 repeat(any_goals (first|assumption|wp_step))
 refine E7 CP λ r s₁ hr=>?_;cases r with
 |error e=>exact hr
 |ok fl=>
  cases fl with
  |ret obj=>
   obtain⟨hT,cp⟩:=Pc _ _ hr;have U6:=ft.init.lookup;have YR:=ft.init.bind obj
   repeat(any_goals (first|assumption|wp_step))
   refine E7 (codeAny_call_builtin ft.init.plain MF cp) λ r₂ s₂ S'=>?_;cases r₂ with
   |error e=>exact S'
   |ok fl=>
    cases fl with
    |ret r=>
     obtain⟨rfl,hq⟩:=S'
     repeat(any_goals (first|assumption|wp_step))
    |_=>exact S'.elim
  |_=>exact hr.elim
theorem zu{l:Addr}{items:Array Value}{ns:List Int}{Q:Value->Shared->Prop}(hh:A.handled=none)(hl:s.heap.IsList l items)(hi:IntsAre items.toList ns)(cH:ns.length<=76) (h:∀(h':Heap) (tk:Nat) (ks:List Int),nP h' s.heap.objs.size (!sZ w) ks->Once ks ns->(∀b o,s.heap.get? b=some o->h'.get? b=some o)->Q (.ref s.heap.objs.size) {s with heap:=h',toks:=tk}):wpAny (model prog w) A (call (.type "set") [.ref l]) Q E s:=by
 refine vE (Q₁:=λ obj s₁=>obj=.ref s.heap.objs.size/\s₁={s with heap:=s.heap.push (eY w)}) F.called_set (F.typeCall_set_1 _) F.entry_set_init (GU _ ⟨rfl,rfl⟩) λ obj s₁ h₁=>?_;obtain⟨rfl,rfl⟩:=h₁;have hS:(s.heap.push (eY w)).get? s.heap.objs.size=some (eY w):=m9 _ rfl;have len:items.size=ns.length:=by rw[<- m8];exact IntsAre.length hi
 obtain⟨ol,u_,Nx,nl,TB⟩:=hl;obtain⟨VZ,Uy,Uz,So⟩:=ol;simp only at Nx TB;subst Nx;subst TB;have Td:=j5 (eY w) u_;have U8:l < s.heap.objs.size:=D6 u_;have Wi:=F.sub_list_set;have Wj:=F.sub_list_frozenset;have dj:(Value.type "list"==Value.type "dict")=false:=by decide
 have Rn:(s.heap.push (eY w)).IsList l items:=⟨_,Td,rfl,nl,rfl⟩;have hT:Shared.TypeIs {s with heap:=s.heap.push (eY w)} (.ref s.heap.objs.size) "set":=⟨_,hS,rfl⟩;refine⟨hT,check_set_init_1 hT ?_⟩;unfold Builtin.«set.__init__» noKeywords Builtin.Frozenset.updateFrom;generalize Xd:pyIter=PI
 wp_walk
 subst Xd;refine x5 Rn (H0 (wpAny_runValue ?_));have ne1:l≠(s.heap.push (eY w)).objs.size:=by rw[C2];exact D5 (x9 U8)
 have nf:s.heap.objs.size∉[(s.heap.push (eY w)).objs.size,l]:=by rw[C2];simp only[D1,not_mem_nil,or_false,not_or];exact⟨D5 (Nat.lt_succ_self _),E8 U8⟩
 have W:=(Walks.list (prog:=prog) (w:=w) (A:=A.in1.in1.in1) (by simpa using hh) (s.heap.push (eY w)).objs.size l ne1 items).toS;rw[len]at W;refine Ac W s.heap.objs.size nf (!sZ w) (λ i v hv=>?_) cH ns.length 0 _ [] (by omega) ⟨⟨_,m9 _ rfl,rfl,rfl⟩,Rn.push _⟩ ⟨#[],0,_,j5 _ hS,λ e z=>(by cases z),rfl,yp 0 0 _,rfl⟩ ⟨nodup_nil,λ k=>by simp⟩ λ s' ks mv hZ ho=>?_
 ·obtain⟨t,e⟩:=IntsAre.int_at hi i v (by rw[k5];exact hv);have lt:i < ns.length:=by rw[<- len];exact(Array.getElem?_eq_some_iff.mp hv).1
  exact⟨ns[i],t,i5 lt,by rw[e,c7,i5 lt];rfl⟩
 ·obtain⟨h',g',d',zI,DZ⟩:=s';have eg:g'=s.gens:=mv.gens;have ed:d'=s.drawn:=mv.drawn;have eo:DZ=s.os:=mv.os;subst eg;subst ed;subst eo;refine H9 (H9 ⟨rfl,h h' zI ks hZ ho λ b o z=>?_⟩);have lt:=D6 z;refine mv.heap b o ?_ (j5 _ (j5 _ z));rw[C2];simp only[D1,not_mem_nil,or_false,not_or];exact⟨D5 lt,D5 (x9 lt)⟩
end
end L2
namespace L2
open PySem PySem.Spec PySem.W PySem.Calls PyProof.Rows
theorem wC{α:Type}(next:Nat->Nat):∀(fuel k:Nat) (left:List α) (out:Array α),left.length=fuel->(pickOrder.go next fuel k left out).toList.Perm (out.toList++left)
 |0,k,left,out,h=>by rw[j0.mp h,A6];exact List.Perm.refl _
 |fuel+1,k,left,out,h=>by
  unfold pickOrder.go;have lt:next k % left.length < left.length:=Nat.mod_lt _ (by omega)
  rw[i5 lt];dsimp only;refine(wC next fuel (k+1) _ _ (by rw[length_eraseIdx_of_lt lt];omega)).trans ?_;rw[Array.toList_push,append_assoc];refine List.Perm.append_left _ ?_;rw[singleton_append];have e:=take_append_drop (next k % left.length) left;rw[e7 lt]at e;rw[eraseIdx_eq_take_drop_succ];generalize left[next k % left.length]=x at*
  conv=>rhs;rw[<- e]
  exact perm_middle.symm
theorem yK{α:Type}(next:Nat->Nat)(xs:Array α):(pickOrder next xs).toList.Perm xs.toList:=wC next xs.size 0 xs.toList #[] (m8)
def fR(w:World)(a:Addr)(ep:Nat)(es:Array (Int×Value)):Array (Int×Value):=if sZ w then pickOrder (w.params.setOrder a ep) es else es
theorem lA(w:World)(a:Addr)(ep:Nat)(es:Array (Int×Value)):(fR w a ep es).toList.Perm es.toList:=by
 unfold fR;split
 ·exact yK _ _
 ·exact List.Perm.refl _
theorem lr(w:World)(a:Addr)(ep:Nat)(es:Array (Int×Value)):(fR w a ep es).size=es.size:=by
 have:=(lA w a ep es).length_eq
 rwa [m8,m8]at this
theorem lM:entryFor table "set.__iter__"=some Builtin.«frozenset.__iter__»:=entryFor_alias (id':="frozenset.__iter__") (by kernel_rfl) rfl (by decide+kernel) (by kernel_rfl)
theorem cJ:Slot "set_iterator" "__next__" "set_iterator.__next__":=
 .of (owner:="set_iterator") (n:="__next__") (by rw[typeLookup_type,builtinLookup_eq_fast];kernel_rfl) (by decide+kernel) (by decide+kernel) (by decide+kernel)
  (by first|exact .inl (by decide+kernel)|exact .inr (by decide+kernel)) (by rw[isSubtype_type];kernel_rfl)
theorem iJ:Slot "set_iterator" "__iter__" "set_iterator.__iter__":=
 .of (owner:="set_iterator") (n:="__iter__") (by rw[typeLookup_type,builtinLookup_eq_fast];kernel_rfl) (by decide+kernel) (by decide+kernel) (by decide+kernel)
  (by first|exact .inl (by decide+kernel)|exact .inr (by decide+kernel)) (by rw[isSubtype_type];kernel_rfl)
theorem hG:entryFor table "set_iterator.__next__"=some Builtin.«set_iterator.__next__»:=entryFor_of_tree (by kernel_rfl)
theorem nh:entryFor table "set_iterator.__iter__"=some Builtin.«dict_keyiterator.__iter__»:=entryFor_alias (id':="dict_keyiterator.__iter__") (by kernel_rfl) rfl (by decide+kernel) (by kernel_rfl)
theorem qW:Manifest.owners.lookup (String.ofList ['r','o','t','a','r','e','t','i','_','t','e','s'].reverse)=some Manifest.sig_set_iterator:=by kernel_rfl
theorem iK(a:Value):argsOk "set_iterator.__next__" ⟨[a],[]⟩:=by unfold argsOk;rw[signature?_of (id:="set_iterator.__next__") (n:=['_','_','t','x','e','n','_','_']) (o:=['r','o','t','a','r','e','t','i','_','t','e','s']) (by kernel_rfl) qW];kernel_rfl
theorem o_(a:Value):argsOk "set_iterator.__iter__" ⟨[a],[]⟩:=by unfold argsOk;rw[signature?_of (id:="set_iterator.__iter__") (n:=['_','_','r','e','t','i','_','_']) (o:=['r','o','t','a','r','e','t','i','_','t','e','s']) (by kernel_rfl) qW];kernel_rfl
abbrev Uv(sl i:Nat)(a:Addr)(n ep:Nat):Obj:={cls:=.type "set_iterator",data:=.fields #[.int sl 0,.int i 0,.ref a,.int n 0,.int ep 0]}
section
variable {prog:Program}{w:World}{A:Around}{E:Value->Shared->Prop}{s:Shared}{a I:Addr}{es:Array (Int×Value)}{ep:Nat}{t:SetTable}
theorem qX{sl i:Nat}{Q:Option (Value×Nat)->Shared->Prop}(ho:s.heap.get? a=some (gj es ep t))(T:Tab t es.size)(hl:t.led=!sZ w)(hs:sZ w=false->SetTable.below t.place sl=i) (h:∀EJ:Nat,(sZ w=false->i < es.size->SetTable.below t.place EJ=i+1)->Q ((fR w a ep es)[i]?.map λ e=>(e.2,EJ)) s):wpAny (model prog w) A (setNext a sl i ep) Q E s:=by
 unfold setNext;refine H0 (wpAny_setState_of ho rfl T.fit ?_);dsimp only;unfold setsByText;refine H0 (H0 (wpAny_askSetting (H9 ?_)));show wpAny _ _ (if sZ w=true then _ else _) _ _ s;cases hb:sZ w with
 |true=>
  rw[J8 rfl,J9 (by simp)];refine H0 ?_;unfold setWalk;refine H0 (wpAny_setState_of ho rfl T.fit ?_);dsimp only;unfold setsByText;refine H0 (H0 (wpAny_askSetting (H9 ?_)));show wpAny _ _ (if sZ w=true then _ else _) _ _ s;rw[hb,J8 rfl];refine H0 (wpAny_askSetting (H9 (H9 ?_)));have:=h sl λ z=>by rw[hb]at z;cases z
  unfold fR at this;rw[hb,J8 rfl]at this;exact this
 |false=>
  rw[J9 (by decide)];refine wpAny_ite_split (λ z=>absurd z ?_) λ _=>?_
  ·show ¬((!t.plain&&decide (es.size > 1))=true);rw[T.pl];simp
  refine H0 ?_;show wpAny _ _ (if(!t.led&&!es.isEmpty)=true then _ else _) _ _ s;rw[hl,hb,J9 (by simp)];refine H9 ?_;rw[hs hb];have e2:fR w a ep es=es:=by unfold fR;rw[hb];rfl
  rw[e2]at h;by_cases lt:i < es.size
  ·have Hf:i < t.place.size:=by rw[T.sz];exact lt
   have:=h (t.place[i]+1) λ _ _=>vH T.Q5 (by rw[k5,c9 Hf]);rw[c9 lt]at this ⊢;rw[c9 Hf];exact H9 this
  ·have:=h 0 λ _ z=>absurd z lt;rw[j4 (y3 lt)]at this ⊢;exact H9 this
def DS(w:World)(I a:Addr)(es:Array (Int×Value))(ep:Nat)(t:SetTable)(i:Nat)(h:Heap):Prop:=∃sl:Nat,h.get? I=some (Uv sl i a es.size ep)/\h.get? a=some (gj es ep t)/\(sZ w=false->SetTable.below t.place sl=i)
theorem EL{i:Nat}{e:Int×Value}{Q:Option Value->Shared->Prop}(ne:a≠I)(T:Tab t es.size)(hl:t.led=!sZ w)(st:DS w I a es ep t i s.heap)(lt:i < es.size)(he:(fR w a ep es)[i]?=some e) (hQ:∀h',DS w I a es ep t (i+1) h'->Heap.SameBut I s.heap h'->Q (some e.2) {s with heap:=h'}):wpAny (model prog w) A (pyNext (.ref I)) Q E s:=by
 obtain⟨sl,hI,ha,hb⟩:=st;have hT:s.TypeIs (.ref I) "set_iterator":=⟨_,hI,rfl⟩;unfold pyNext;refine H0 (C6 (i9 (name:=Str.ofString "__next__") hT cJ (y8 cJ hT hG ?_ (iK _))));refine H0 (H9 ?_);refine H0 (wpAny_fieldsOf hI rfl ?_);dsimp only;refine H0 (wpAny_setEntries_of ha rfl T.fit ?_);rw[J9 (by simp)];rw[show((i:Int)).toNat=i from w6 i,show((ep:Int)).toNat=ep from w6 ep,show((sl:Int)).toNat=sl from w6 sl];refine H0 (qX ha T hl hb λ EJ jf=>?_);rw[he];dsimp only[Option.map];refine H0 (C4 hI rfl (by simp) ?_);have h1:=j8 (Obj.mapFields (·.setIfInBounds 0 (rawInt EJ))) hI rfl;refine H0 (C4 h1 rfl (by simp[Obj.mapFields]) ?_);have h2:=j8 (Obj.mapFields (·.setIfInBounds 1 (rawInt ((i:Int)+1)))) h1 rfl;have sb:=(l8 s.heap I (Obj.mapFields (·.setIfInBounds 0 (rawInt EJ)))).trans (l8 _ I (Obj.mapFields (·.setIfInBounds 1 (rawInt ((i:Int)+1)))));refine H9 ⟨_,rfl,H9 (hQ _ ⟨EJ,?_,?_,λ z=>jf z lt⟩ sb)⟩
 ·exact h2
 ·rw[sb.2 a ne];exact ha
theorem JY{Q:Option Value->Shared->Prop}(hh:A.handled=none)(T:Tab t es.size)(hl:t.led=!sZ w)(st:DS w I a es ep t es.size s.heap) (hQ:∀h',Heap.ExtBut I s.heap h'->Q none {s with heap:=h'}):wpAny (model prog w) A (pyNext (.ref I)) Q E s:=by obtain⟨sl,hI,ha,hb⟩:=st;have hT:s.TypeIs (.ref I) "set_iterator":=⟨_,hI,rfl⟩;unfold pyNext;refine H0 (C6 (i9 (name:=Str.ofString "__next__") hT cJ (y8 cJ hT hG ?_ (iK _))));refine H0 (H9 ?_);refine H0 (wpAny_fieldsOf hI rfl ?_);dsimp only;refine H0 (wpAny_setEntries_of ha rfl T.fit ?_);rw[J9 (by simp)];rw[show((es.size:Int)).toNat=es.size from w6 _,show((ep:Int)).toNat=ep from w6 ep,show((sl:Int)).toNat=sl from w6 sl];refine H0 (qX ha T hl hb λ EJ jf=>?_);rw[j4 (by rw[lr];exact G5 _)];dsimp only[Option.map];refine H0 (C4 hI rfl (by simp) ?_);show wpAny _ _ (newExc (.type "StopIteration") [] >>= _) _ _ _;refine H0 ?_;simp only[newExc,newTuple];refine H0 (w9 ?_ (by size_fits));refine H0 (m:=firstArgMember _ _) (wpAny_of_eq (a:=Value.none) (by first|rfl|(simp only[firstArgMember];rfl)) ?_);refine w9 ?_ (by size_fits);simp only[raiseNew];refine H0 (wpAny_handled ?_);rw[show A.in1.handled=none from hh];refine H0 (H9 (wpAny_throw ?_));refine H0 (A4 (T:="StopIteration") (b:=true) ⟨_,m9 _ rfl,rfl⟩ isSubtype_stop ?_);exact H9 (hQ _ (((l8 ..).extBut.push _).push _))
theorem EK{i:Nat}{Q:Value->Shared->Prop}(st:DS w I a es ep t i s.heap)(h:Q (.ref I) s):wpAny (model prog w) A (pyIter (.ref I)) Q E s:=by obtain⟨sl,hI,ha,hb⟩:=st;have hT:s.TypeIs (.ref I) "set_iterator":=⟨_,hI,rfl⟩;refine wpAny_pyIter_slot hT iJ (y8 iJ hT nh ?_ (o_ _));exact H9 ⟨_,rfl,"set_iterator",_,hT,cJ.lookup,h⟩
theorem yh(hh:A.handled=none)(I a:Addr)(ne:a≠I)(T:Tab t es.size)(hl:t.led=!sZ w):Walks prog w A I [I,a] [I] es.size (λ i v=>∃e,(fR w a ep es)[i]?=some e/\e.2=v) (DS w I a es ep t) where
 sub:=λ b hb=>by simp at hb;simp[hb]
 frame:=λ _ _ _ st hk=>let⟨sl,h1,h2,h3⟩:=st;⟨sl,hk I (by simp) _ h1,hk a (by simp) _ h2,h3⟩
 item:=λ i s Q E hi st hQ=>by
  have lt:i < (fR w a ep es).size:=by rw[lr];exact hi
  exact EL ne T hl st hi (c9 lt) λ h' og sb=>hQ _ h' s.toks ⟨_,c9 lt,rfl⟩ og λ b o hb e=>by rw[sb.2 b λ z=>hb (by simp[z])];exact e
 done:=λ s Q E st hQ=>JY hh T hl st λ h' Ro=>hQ h' s.toks λ b o hb e=>Ro b o (λ h=>hb (by simp[h])) e
 self:=λ _ _ _ _ st hQ=>EK st hQ
theorem AA{Q:Value->Shared->Prop}(ha:s.heap.get? a=some (gj es ep t))(T:Tab t es.size)(hQ:Q (.ref s.heap.objs.size) {s with heap:=s.heap.push (Uv 0 0 a es.size ep)}):wpAny (model prog w) A (pyIter (.ref a)) Q E s:=by have hT:s.TypeIs (.ref a) "set":=⟨_,ha,rfl⟩;refine wpAny_pyIter_slot hT F.slot_set_iter (y8 F.slot_set_iter hT lM ?_ (F.args_set_iter_1 _));unfold Builtin.«frozenset.__iter__» Builtin.Frozenset.slot0 Builtin.Frozenset.sizeOf;refine H0 (H0 (H9 ?_));refine H9 ?_;refine H0 (H0 (wpAny_setEntries_of ha rfl T.fit (H9 ?_)));refine H0 ?_;unfold setDrawn;refine H0 (wpAny_setState_of ha rfl T.fit ?_);dsimp only;unfold setsByText;refine H0 (H0 (wpAny_askSetting (H9 (H9 ?_))));show wpAny _ _ (if(!sZ w&&(!t.plain&&decide (es.size > 1)))=true then _ else _) _ _ s;rw[T.pl,J9 (by simp)];refine H0 (H9 ?_);unfold setEpoch;refine H0 (H0 (wpAny_setState_of ha rfl T.fit (H9 ?_)));refine H0 (w9 ?_ (by size_fits));exact H9 ⟨_,rfl,"set_iterator",_,⟨_,m9 _ rfl,rfl⟩,cJ.lookup,hQ⟩
theorem AB{Q:Bool->Shared->Prop}(hT:s.TypeIs (.ref a) "set")(h:Q false s):wpAny (model prog w) A (Builtin.List.listLengthHint (.ref a)) Q E s:=by
 unfold Builtin.List.listLengthHint;refine H0 (wpAny_specialOf hT F.slot_set_len.lookup ?_);generalize U_:("set.__len__":String)=V8
 wp_delta
 rw[show splitId V8=some ("set","__len__")from by subst U_;decide+kernel];subst U_;refine H0 (A4 (T:="set") (b:=true) hT (by rw[isSubtype_type];kernel_rfl) ?_);refine wpAny_ite_split (λ Mx=>absurd Mx (by decide)) (λ _=>?_);refine wpAny_ite_split (λ _=>?_) (λ Mx=>absurd (by decide+kernel) Mx);refine H0 (E6 hT ?_);exact H9 h
theorem EE(T:Tab t es.size)(hl:t.led=!sZ w):KdlSrc prog w "set" a a es.size (λ i v=>∃e,(fR w a ep es)[i]?=some e/\e.2=v) (λ h=>h.get? a=some (gj es ep t)) where
 type:=λ _ hm=>⟨_,hm,rfl⟩
 there:=λ _ hm=>⟨D6 hm,D6 hm⟩
 keep:=λ _ _ hm hk=>hk a (.inl rfl) _ hm
 notList:=by decide
 notTuple:=by decide
 hint:=λ _ _ _ _ hm hq=>AB ⟨_,hm,rfl⟩ hq
 iter:=λ _ s hh hm=>⟨_,_,(λ _ _ hq=>AA hm T hq),yh hh _ a (D5 (D6 hm)) T hl,⟨0,m9 _ rfl,j5 _ hm,λ _=>vG T.Q5⟩⟩
end
end L2
namespace L2
open PySem PySem.Spec PySem.W PySem.Calls PyProof.Rows L5
section
variable {X:Cx}{e1:Expr}{ta:TA}{p p2 pos bw:Pos}{x id:String}{r:List Int->Hp->VK->Prop}
def MX(X:Cx)(f:Value)(r:List Int->Hp->VK->Prop):Prop:=∀pins (s:Shared) (σ:St) (H:Hp) (S:Addr) (ks:List Int) (Q:VK),Inv X pins σ H s->nP s.heap S (!sZ X.w) ks->r ks H Q->wpAny (model X.prog X.w) X.A (call f [.ref S]) (EP X pins σ Q) X.xe s
def JR(K:K2)(r:List Int->Hp->VK->Prop)(ta:TA):TE:=λ σ H Q=>ta σ H λ vs H1=>∃(l:Addr) (ns:List Int),vs=[.ref l]/\dn K H1 l (ns.map V.int)/\ns.length<=76/\∀ks,Once ks ns->r ks H1 Q
theorem rJ{id:String}{x:Str}(hf:MX X (.builtin id) r)(hc:X.calm=true)(hg:Gl X x)(hm:X.mg x=none)(hv:bootBuiltins x=some (.builtin id))(ve:Gl X "set")(vc:X.mg "set"=none)(ha:PA X [e1] ta)(hn:x≠"__name__":=by decide)(hdb:(x==("__debug__":Str))=false:=by decide) (hs:starEach [e1] X.env=(false,eval e1 X.env)::starEach [] X.env:=by rfl) (he:starEach [.Call (.Name "set" p2) [e1] [] bw] X.env=(false,eval (.Call (.Name "set" p2) [e1] [] bw) X.env)::starEach [] X.env:=by rfl):PE X (.Call (.Name x p) [.Call (.Name "set" p2) [e1] [] bw] [] pos) (JR X.K r ta):=by intro pins s σ H Q I h;refine r9 (ef I hg hm hv ?_ hn hdb);refine PyProof.Rows.callWith_builtin1 ?_ he rfl;rw[he];show wpAny _ _ (spliced ((false,eval (.Call (.Name "set" p2) [e1] [] bw) X.env)::backTo pos (starEach [] X.env))) _ _ s;refine Calls.spliced_cons ?_;refine Call_ (ef I ve vc (show bootBuiltins "set"=some (.type "set") by decide+kernel) (c4 (dF (ha bw pins s σ H _ I h) λ us s1 ⟨vs,H1,I1,r1,q1⟩=>?_) hs (by rfl)));obtain⟨l,ns,ev,hl,cH,q⟩:=q1;subst ev;obtain⟨u1,rfl,rx⟩:=vals1 r1;cases(show u1=Value.ref l from rx);obtain⟨av,r',pl,hz⟩:=I1.list hl;have hI:=mr r';refine zu (I1.ok.hd hc) pl.isList (by simpa using hI) cH λ h' tk ks hZ ho kp=>?_;refine Calls.spliced_nil ?_;have I2:Inv X pins σ H1 {s1 with heap:=h',toks:=tk}:=I1.kept (t':=tk) kp;exact hf pins _ σ H1 _ ks Q I2 hZ (q ks ho)
theorem ui(hc:X.calm=true):MX X (.builtin "sorted") (λ ks H Q=>ks.length < 64/\∀(dG:List Int) (p:Addr),dG.Perm ks->dG.Pairwise (·<=·)->H p=none->Q (.ref p) (upd H p (.lst (dG.map V.int)))):=by
 intro pins s σ H S ks Q I hZ ⟨nB,q⟩;obtain⟨es,ep,t,ho,he,hk,T,hl⟩:=hZ;subst hk;rw[kys_len]at nB;refine call_function_entry kind_sorted plain_sorted entry_sorted (args_sorted1 _) ?_;unfold Builtin.«sorted»;refine H0 (m:=checkCount "sorted" 1 1 _) (H9 (H0 (kdu_collect (A:=X.A.in1) (EE (ep:=ep) T hl) (show X.A.in1.handled=none from I.ok.hd hc) ho (by rw[G6];omega) λ h' tk acc Ts j_=>?_)));have pw:=lA X.w S ep es;generalize hW:fR X.w S ep es=os at pw j_;have hI:IntsAre acc.toList (tM os):=uY _ _ (by rw[m8,j_.1,kys_len,<- m8,<- m8,pw.length_eq]) λ j v n a b=>by obtain⟨e,e1,e2⟩:=j_.2 j v (by rw[<- k5];exact a);subst e2;rw[<- k5]at e1;unfold tM at b;rw[u9,e1]at b;obtain⟨k,zI,rfl⟩:=he e (pw.mem_iff.mp (l4 e1));cases b;exact⟨zI,rfl⟩
 have pk:(tM os).Perm (tM es):=pw.map _;have hlen:acc.toList.length=es.size:=by rw[m8,j_.1]
 refine H0 (wpAny_newList ?_ (by rw[hlen,G6];omega));have HE:(h'.push (seqObj "list" acc.toList.toArray 0)).get? h'.objs.size=some (seqObj "list" acc.toList.toArray 0):=m9 _ rfl;refine H0 (C5 (y8 slot_list_sort ⟨_,HE,rfl⟩ entry_list_sort (list_sort_tree HE hI (by omega) λ out dG a1 a2 a3=>⟨_,rfl,?_⟩) (args_list_sort _)));refine H9 ⟨_,rfl,?_⟩;obtain⟨c,Ji⟩:=sortedHeap_at (out:=out) HE;have I0:Inv X pins σ H {s with heap:=h',toks:=tk}:=I.kept (t':=tk) Ts;have kp:∀b o,h'.get? b=some o->(sortedHeap (h'.push (seqObj "list" acc.toList.toArray 0)) h'.objs.size acc.toList out).get? b=some o:=λ b o e=>by rw[sortedHeap_old (D5 (D6 e)) (by rw[size_push'];exact x9 (D6 e))];exact j5 _ e
 exact⟨.ref h'.objs.size,_,I0.laid (t':=tk) kp (G5 _) (show cg X.prog X.w _ _ _ (.lst (dG.map V.int))from⟨by rw[B5,a2.length_eq,pk.length_eq,kys_len,G6];omega,out.toList,c,mq a1,by rw[Array.toArray_toList];exact Ji⟩),rfl,q dG _ (a2.trans pk) a3 (I0.cp.fresh (G5 _))⟩
theorem EM:MX X (.builtin "len") (λ ks H Q=>ks.length < 64/\Q (.int ks.length) H):=by intro pins s σ H S ks Q I hZ ⟨nB,q⟩;obtain⟨es,ep,t,ho,he,hk,T,hl⟩:=hZ;subst hk;rw[kys_len]at nB q;refine call_len_set ho ⟨rfl,rfl,rfl⟩ rfl T.fit (by omega) ?_;exact⟨.int es.size,H,I.tok _,⟨_,rfl⟩,q⟩
end
end L2
namespace L3
open PySem PySem.Spec PyProof.Rows L2 L5
section
variable {X:Cx}{e1:Expr}{ta:fB}{p p2 pos bw:Pos}
def AE(ta:fB):cw:=λ δ M Q=>ta δ M λ ds M1=>∃(l:Addr) (ns:List Int),ds=[.ref l]/\M1 l=some (.lst (ns.map D.int))/\ns.length < 64/\∀(dG:List Int) (p:Addr),dG.Pairwise (· < ·)->(∀k,k∈dG↔k∈ns)->M1 p=none->Q (.ref p) (ah M1 p (.lst (dG.map D.int)))
def AM(ta:fB):cw:=λ δ M Q=>ta δ M λ ds M1=>∃(l:Addr) (ns:List Int),ds=[.ref l]/\M1 l=some (.lst (ns.map D.int))/\ns.length < 64/\∀ks:List Int,Once ks ns->Q (.int ks.length) M1
theorem IL:∀{l:List Int},l.Pairwise (·<=·)->l.Nodup->l.Pairwise (· < ·)
 |[],_,_=>.nil
 |a::l,h,n=>by
  obtain⟨h1,h2⟩:=pairwise_cons.mp h;obtain⟨n1,n2⟩:=nodup_cons.mp n;refine pairwise_cons.mpr ⟨λ b hb=>?_,IL h2 n2⟩;have:=h1 b hb;by_cases z:a=b
  ·subst z;exact absurd hb n1
  ·omega
theorem K5(hc:X.calm=true)(hg:Gl X "sorted")(hm:X.mg "sorted"=none)(ve:Gl X "set")(vc:X.mg "set"=none)(ha:QA X [e1] ta) (hs:starEach [e1] X.env=(false,eval e1 X.env)::starEach [] X.env:=by rfl) (he:starEach [.Call (.Name "set" p2) [e1] [] bw] X.env=(false,eval (.Call (.Name "set" p2) [e1] [] bw) X.env)::starEach [] X.env:=by rfl):QE X (.Call (.Name "sorted" p) [.Call (.Name "set" p2) [e1] [] bw] [] pos) (AE ta):=by refine b_ (rJ (ui hc) hc hg hm (by decide+kernel) ve vc ha (by decide) (by decide) hs he) ?_;rintro σ H Q ⟨δ,M,Q2,hs,hm,q,k⟩;refine⟨δ,M,_,hs,hm,q,λ vs H1 ds M1 hd cb t1 ⟨l,ns,e,hM,cH,q1⟩=>?_⟩;subst e;obtain⟨v1,r,rfl,O6,hr⟩:=ag.mp hd;cases(aq.mp hr);cases(aE.mp O6);obtain⟨ys,hy,zM⟩:=cb l _ hM;rw[bY zM]at hy;refine⟨l,ns,rfl,dn.of hy,by omega,λ ks ho=>⟨by have:=ho.cH;omega,λ dG p a1 a2 hp=>?_⟩⟩;exact k _ _ (.ref p) _ (aE.mpr rfl) (cX hp (fv dG) cb) (t1.trans (aw.laid hp)) (q1 dG p (IL a2 (a1.nodup_iff.mpr ho.1)) (λ k=>(a1.mem_iff.trans (ho.2 k))) (cb.free hp))
theorem K_(hc:X.calm=true)(hg:Gl X "len")(hm:X.mg "len"=none)(ve:Gl X "set")(vc:X.mg "set"=none)(ha:QA X [e1] ta) (hs:starEach [e1] X.env=(false,eval e1 X.env)::starEach [] X.env:=by rfl) (he:starEach [.Call (.Name "set" p2) [e1] [] bw] X.env=(false,eval (.Call (.Name "set" p2) [e1] [] bw) X.env)::starEach [] X.env:=by rfl):QE X (.Call (.Name "len" p) [.Call (.Name "set" p2) [e1] [] bw] [] pos) (AM ta):=by refine b_ (rJ EM hc hg hm (by decide+kernel) ve vc ha (by decide) (by decide) hs he) ?_;rintro σ H Q ⟨δ,M,Q2,hs,hm,q,k⟩;refine⟨δ,M,_,hs,hm,q,λ vs H1 ds M1 hd cb t1 ⟨l,ns,e,hM,cH,q1⟩=>?_⟩;subst e;obtain⟨v1,r,rfl,O6,hr⟩:=ag.mp hd;cases(aq.mp hr);cases(aE.mp O6);obtain⟨ys,hy,zM⟩:=cb l _ hM;rw[bY zM]at hy;refine⟨l,ns,rfl,dn.of hy,by omega,λ ks ho=>⟨by have:=ho.cH;omega,?_⟩⟩;exact k _ _ (.int ks.length) M1 (ax.mpr rfl) cb t1 (q1 ks ho)
end
end L3
namespace L4
open PySem L2 L3
theorem JC{X:Cx}{e1:Expr}{ta:fB}{p p2 pos bw:Pos}(hc:X.calm=true)(hg:Gl X "sorted")(hm:X.mg "sorted"=none)(ve:Gl X "set")(vc:X.mg "set"=none)(ha:WA X [e1] ta) (hs:starEach [e1] X.env=(false,eval e1 X.env)::starEach [] X.env:=by rfl) (he:starEach [.Call (.Name "set" p2) [e1] [] bw] X.env=(false,eval (.Call (.Name "set" p2) [e1] [] bw) X.env)::starEach [] X.env:=by rfl):WE X (.Call (.Name "sorted" p) [.Call (.Name "set" p2) [e1] [] bw] [] pos) (AE ta):=⟨K5 hc hg hm ve vc ha.h hs he⟩
theorem Aa{X:Cx}{e1:Expr}{ta:fB}{p p2 pos bw:Pos}(hc:X.calm=true)(hg:Gl X "len")(hm:X.mg "len"=none)(ve:Gl X "set")(vc:X.mg "set"=none)(ha:WA X [e1] ta) (hs:starEach [e1] X.env=(false,eval e1 X.env)::starEach [] X.env:=by rfl) (he:starEach [.Call (.Name "set" p2) [e1] [] bw] X.env=(false,eval (.Call (.Name "set" p2) [e1] [] bw) X.env)::starEach [] X.env:=by rfl):WE X (.Call (.Name "len" p) [.Call (.Name "set" p2) [e1] [] bw] [] pos) (AM ta):=⟨K_ hc hg hm ve vc ha.h hs he⟩
theorem EX{ta:fB}{δ:dk}{M:Mem}{Q:bR}(h:ta δ M λ ds M1=>∃(l:Addr) (ns:List Int),ds=[.ref l]/\M1 l=some (.lst (ns.map D.int))/\ns.length < 64/\∀(dG:List Int) (p:Addr),dG.Pairwise (· < ·)->(∀k,k∈dG↔k∈ns)->M1 p=none->Q (.ref p) (ah M1 p (.lst (dG.map D.int)))):AE ta δ M Q:=h
theorem Fp{ta:fB}{δ:dk}{M:Mem}{Q:bR}(h:ta δ M λ ds M1=>∃(l:Addr) (ns:List Int),ds=[.ref l]/\M1 l=some (.lst (ns.map D.int))/\ns.length < 64/\∀ks:List Int,Once ks ns->Q (.int ks.length) M1):AM ta δ M Q:=h
end L4
namespace KK
open PySem L3 L4 L5
open L2 hiding aL h_
abbrev kd(K:List Nat)(x:Nat):Nat:=K.getD x 0
abbrev kI(v:Nat):Int:=v
theorem oA{K:List Nat}{x:Nat}(h:x < K.length):K[x]?=some (kd K x):=by unfold kd;rw[c7,i5 h];rfl
theorem kd_mem{K:List Nat}{x:Nat}(h:x < K.length):kd K x∈K:=l4 (oA h)
structure Jx(m h:Nat)(rows:List Row)(K:List Nat):Prop where
 len:K.length=m
 lt:∀x,x < m->kd K x < m
 OY:∀x,x < m->kd K (kd K x)=kd K x
 Em:kd K 0=0
 R9:∀x z i,x < m->z < m->i < h->kd K x=kd K z->kd K (cG rows i x)=kd K (cG rows i z)
def D_(K kept:List Nat)(r:Row):Row:=r.map λ y=>(kept.idxOf (kd K y.toNat):Int)
section
variable {m h:Nat}{rows:List Row}{K:List Nat}
theorem Jx.tP (G:km m h rows)(k:Jx m h rows K):Jy (λ s=>s < m/\kd K s=s) h (λ i s=>kd K (cG rows i s)):=by
 refine⟨λ x i hi hx=>?_,λ x i j hi hj hx=>?_⟩
 ·have:=G.tP.cl x i hi hx.1;exact⟨k.lt _ this,k.OY _ this⟩
 ·have a:=G.tP.cl x i hi hx.1;have b:=G.tP.cl x j hj hx.1;show kd K (cG rows i (kd K (cG rows j x)))=kd K (cG rows j (kd K (cG rows i x)));rw[k.R9 _ (cG rows j x) i (k.lt _ b) b hi (k.OY _ b),k.R9 _ (cG rows i x) j (k.lt _ a) a hj (k.OY _ a),G.tP.cm x i j hi hj hx.1]
set_option tactic.hygienic true in
theorem Jx.VP (G:km m h rows)(k:Jx m h rows K){x:Nat}(r:zQ (cG rows) h 0 x):x < m/\zQ (λ i s=>kd K (cG rows i s)) h 0 (kd K x):=by
 induction r with
 |zero=>exact⟨G.tb.pos,by rw[k.Em];exact .zero⟩
 |step r hi ih=>
  rename_i s i;refine⟨G.tP.cl _ _ hi ih.1,?_⟩;have:=zQ.step ih.2 hi
  rwa [k.R9 _ s i (k.lt _ ih.1) ih.1 hi (k.OY _ ih.1)]at this
theorem Jx.tb (G:km m h rows)(k:Jx m h rows K){kept:List Nat}(asc:kept.Pairwise (· < ·))(mem:∀v,v∈kept↔v∈K):km kept.length h (kept.map λ x=>D_ K kept (rows.getD x [])):=by
 have hK:∀v∈K,v < m/\kd K v=v:=λ v hv=>by obtain⟨x,hx⟩:=getElem?_of_mem hv;have lt:=(g9.mp hx).1;rw[oA lt]at hx;cases hx;exact⟨k.lt _ (by rw[<- k.len];exact lt),k.OY _ (by rw[<- k.len];exact lt)⟩
 have nd:kept.Nodup:=asc.imp λ{a b} z=>D5 z;have z0:0∈kept:=(mem 0).mpr (by rw[<- k.Em];exact kd_mem (by rw[k.len];exact G.tb.pos));have first:kept[0]?=some 0:=by
  cases kept with
  |nil=>cases z0
  |cons a l=>
   rcases D1.mp z0 with e|e
   ·rw[<- e];rfl
   ·exact absurd ((pairwise_cons.mp asc).1 0 e) (Nat.not_lt_zero _)
 have ex:nQ (λ i s=>kd K (cG rows i s)) 0 h (List.range m) kept (kept.map λ x=>D_ K kept (rows.getD x [])):=by
  refine⟨nd,first,λ s hs=>?_,λ s hs=>mem_range.mpr (hK s ((mem s).mp hs)).1,λ d r hd=>?_⟩
  ·have a:=hK s ((mem s).mp hs);have:=(k.VP G (G.FG s a.1)).2
   rwa [a.2]at this
  ·rw[u9]at hd;obtain⟨x,hx,rfl⟩:=Option.map_eq_some_iff.mp hd;have xm:=(hK x ((mem x).mp (l4 hx))).1;have xl:x < rows.length:=by rw[G.tb.len];exact xm
   have e:(rows.getD x []).length=h:=by rw[c7,i5 xl];exact(G.tb.row _ (A1 xl)).1
   refine⟨x,hx,⟨by unfold D_;rw[B5];exact e,λ j hj=>⟨kept.idxOf (kd K (cG rows j x)),?_,ij ((mem _).mpr (kd_mem (by rw[k.len];exact G.tP.cl _ _ hj xm)))⟩⟩⟩;unfold D_ cG;rw[u9,i5 (by omega),c7 (l:=rows.getD x []),i5 (by omega)];rfl
 have:=ex.tb (k.tP G) ⟨G.tb.pos,k.Em⟩ (by rw[B5]) (by rw[x6];exact G.tb.cH) G.tb.zo
 rwa [B5]at this
end
abbrev Tk:Type:=Nat×Cs
def yo(m:Nat)(rows:List Row)(K:List Nat):List Tk:=(List.range m).map λ x=>(kd K x,(rows.getD x []).map λ y=>kd K y.toNat)
def Rb{α:Type}[DecidableEq α](T:List α)(t:α):Nat:=T.idxOf t
def gQ{α:Type}[DecidableEq α](T:List α):List Nat:=T.map λ t=>Rb T t
theorem CD{α:Type}[DecidableEq α](t:α)(l:List α):(t::l).idxOf t=0:=idxOf_cons_self
theorem JN{m:Nat}{rows:List Row}{K:List Nat}{x:Nat}(h:x < m):(yo m rows K)[x]?=some (kd K x,(rows.getD x []).map λ y=>kd K y.toNat):=by unfold yo;rw[u9,l9 h];rfl
theorem oT(m:Nat)(rows:List Row)(K:List Nat):(yo m rows K).length=m:=by simp[yo]
theorem pI{α:Type}[DecidableEq α](T:List α):(gQ T).length=T.length:=by simp[gQ]
theorem pJ{α:Type}[DecidableEq α]{T:List α}{x:Nat}{t:α}(h:T[x]?=some t):kd (gQ T) x=Rb T t:=by have lt:=(g9.mp h).1;have:=oA (K:=gQ T) (x:=x) (by rw[pI];exact lt);unfold gQ at this;rw[u9,h]at this;exact(B0 this).symm
theorem pH{α:Type}[DecidableEq α]{T:List α}{x:Nat}{t:α}(h:T[x]?=some t):T[kd (gQ T) x]?=some t:=by rw[pJ h];exact ij (l4 h)
theorem rO{α:Type}[DecidableEq α]:∀(b:List α),(∀x b1 b2,b=b1++x::b2->x∉b1++b2)->b.Nodup
 |[],_=>nodup_nil
 |a::l,h=>by refine nodup_cons.mpr ⟨λ z=>h a [] l rfl z,rO l λ x b1 b2 e z=>?_⟩;exact h x (a::b1) b2 (by rw[e];rfl) (k9 _ z)
theorem vg{α:Type}[DecidableEq α]{a b:List α}(n:a.Nodup)(s:∀x∈a,x∈b)(l:b.length<=a.length):b.Nodup:=rO b λ x b1 b2 e z=>by
 have:=List.Nodup.length_le_of_subset n (l₂:=b1++b2) λ y hy=>by
  have:=s y hy;rw[e]at this;rcases B6.mp this with q|q
  ·exact l5 _ q
  ·rcases D1.mp q with q|q
   ·rw[q];exact z
   ·exact j9 _ q
 rw[e,p6,y4]at l;rw[p6]at this;omega
theorem oC{α β:Type}{f:α->β}:∀{l:List α},(l.map f).Nodup->∀{a b:α},a∈l->b∈l->f a=f b->a=b
 |c::l,n,a,b,ha,hb,e=>by
  rw[C9]at n;obtain⟨n1,n2⟩:=nodup_cons.mp n;rcases D1.mp ha with ea|ia
  ·rcases D1.mp hb with eb|ib
   ·rw[ea,eb]
   ·rw[ea]at e;exact absurd (D7.mpr ⟨b,ib,e.symm⟩) n1
  ·rcases D1.mp hb with eb|ib
   ·rw[eb]at e;exact absurd (D7.mpr ⟨a,ia,e⟩) n1
   ·exact oC n2 ia ib e
theorem pR{K:List Nat}{x:Nat}(h:x < K.length):kI (kd K x)∈K.map kI:=D7.mpr ⟨_,kd_mem h,rfl⟩
theorem Mb{m h:Nat}{rows:List Row}{K:List Nat}(G:km m h rows)(hl:K.length=m){ks pP:List Int}(o:Once ks (K.map kI))(o':Once pP ((gQ (yo m rows K)).map kI))(le:pP.length<=ks.length):Jx m h rows (gQ (yo m rows K)):=by
 generalize hT:yo m rows K=T at*;have tl:T.length=m:=by rw[<- hT];exact oT ..
 have ta:∀{x},x < m->T[x]?=some (kd K x,(rows.getD x []).map λ y=>kd K y.toNat):=λ{x} h=>by rw[<- hT];exact JN h
 have nl:(gQ T).length=m:=by rw[pI];exact tl
 have lt:∀x,x < m->kd (gQ T) x < m:=λ x hx=>by have:=(g9.mp (pH (ta hx))).1;omega
 have tt:∀x z,x < m->z < m->kd (gQ T) x=kd (gQ T) z->T[x]?=T[z]?:=λ x z hx hz e=>by have a:=pH (ta hx);rw[e,pH (ta hz)]at a;rw[ta hx,ta hz];exact a.symm
 have VB:∀x z,x < m->z < m->T[x]?=T[z]?->kd (gQ T) x=kd (gQ T) z:=λ x z hx hz e=>by rw[ta hx,ta hz]at e;rw[pJ (ta hx),pJ (ta hz),B0 e]
 have self:∀x,x < m->T[kd (gQ T) x]?=T[x]?:=λ x hx=>by rw[pH (ta hx),ta hx]
 have kk:∀x z,x < m->z < m->T[x]?=T[z]?->kd K x=kd K z:=λ x z hx hz e=>by rw[ta hx,ta hz]at e;exact J5 Prod.fst (B0 e)
 have rr:∀x z i,x < m->z < m->i < h->T[x]?=T[z]?->kd K (cG rows i x)=kd K (cG rows i z):=λ x z i hx hz hi e=>by
  rw[ta hx,ta hz]at e;have e2:=J5 (λ l:List Nat=>l.getD i 0) (J5 Prod.snd (B0 e));have q:∀x,x < m->((rows.getD x []).map λ y=>kd K y.toNat).getD i 0=kd K (cG rows i x):=λ x hx=>by have:=(G.tb.at hx hi).1;unfold cG;rw[c7 (l:=(rows.getD x []).map λ y=>kd K y.toNat),u9,i5 (by omega),c7 (l:=rows.getD x []),i5 (by omega)];rfl
  have e2:((rows.getD x []).map λ y=>kd K y.toNat).getD i 0=((rows.getD z []).map λ y=>kd K y.toNat).getD i 0:=e2
  rwa [q x hx,q z hz]at e2
 have back:∀x z,x < m->z < m->kd K x=kd K z->kd (gQ T) x=kd (gQ T) z:=by
  have nd:=vg (a:=ks) (b:=pP.map λ v=>kI (kd K v.toNat)) o.1 (λ v hv=>by
   obtain⟨u,hu,rfl⟩:=D7.mp ((o.2 v).mp hv);obtain⟨x,hx⟩:=getElem?_of_mem hu;have xl:=(g9.mp hx).1;rw[oA xl]at hx;cases hx;have xm:x < m:=by omega
   refine D7.mpr ⟨kI (kd (gQ T) x),(o'.2 _).mpr (pR (by omega)),?_⟩;show kI (kd K (kI (kd (gQ T) x)).toNat)=_;rw[show(kI (kd (gQ T) x)).toNat=kd (gQ T) x from w6 _,kk _ x (lt x xm) xm (self x xm)]) (by rw[B5];exact le)
  intro x z hx hz e;have:=oC nd ((o'.2 _).mpr (pR (K:=gQ T) (x:=x) (by omega))) ((o'.2 _).mpr (pR (K:=gQ T) (x:=z) (by omega))) (by
   show kI (kd K (kI (kd (gQ T) x)).toNat)=kI (kd K (kI (kd (gQ T) z)).toNat);rw[show(kI (kd (gQ T) x)).toNat=kd (gQ T) x from w6 _,show(kI (kd (gQ T) z)).toNat=kd (gQ T) z from w6 _,kk _ x (lt x hx) hx (self x hx),kk _ z (lt z hz) hz (self z hz),e])
  exact Int.ofNat.inj this
 refine⟨nl,lt,λ x hx=>VB _ _ (lt x hx) hx (self x hx),?_,λ x z i hx hz hi e=>?_⟩
 ·rw[pJ (ta G.tb.pos)];have:=ta G.tb.pos;cases hc:T with
  |nil=>rw[hc]at tl;have:=G.tb.pos;simp at tl;omega
  |cons t l=>rw[hc]at this;have:t=_:=B0 this;rw[<- this];exact CD t l
 ·exact back _ _ (G.tP.cl _ _ hi hx) (G.tP.cl _ _ hi hz) (rr x z i hx hz hi (tt x z hx hz e))
def DW(t:Tk):D:=.tup [nD t.1,Eh t.2]
theorem xu:Enc 2 DW:=by
 refine⟨λ a b z=>?_,λ a=>uF λ e he=>?_⟩
 ·have:=D.tup.inj z;obtain⟨e1,e2⟩:=List.cons.inj this;obtain⟨e3,_⟩:=List.cons.inj e2;exact Prod.ext (cP.inj _ _ e1) (pZ.inj _ _ e3)
 ·rcases D1.mp he with rfl|he
  ·exact gw 1 _
  ·rw[r6.mp he];exact pZ.pl _
theorem Ja(K:List Nat):K.map nD=(K.map kI).map D.int:=by rw[D8];rfl
theorem rS:∀{l:List Int},(∀x∈l,0<=x)->l=(l.map Int.toNat).map kI
 |[],_=>rfl
 |x::l,h=>by have h0:=h x o8;rw[C9,C9,<- rS λ y hy=>h y (k9 _ hy)];show _=(x.toNat:Int)::l;rw[show((x.toNat:Nat):Int)=x by omega]
theorem Ho{K:List Nat}{ns:List Int}(asc:ns.Pairwise (· < ·))(mem:∀k,k∈ns↔k∈K.map kI):∃kept:List Nat,ns=kept.map kI/\kept.Pairwise (· < ·)/\∀v,v∈kept↔v∈K:=by
 have pos:∀x∈ns,0<=x:=λ x hx=>by obtain⟨v,_,rfl⟩:=D7.mp ((mem x).mp hx);exact Int.natCast_nonneg v
 have e:=rS pos;refine⟨ns.map Int.toNat,e,?_,λ v=>?_⟩
 ·rw[pairwise_map];exact asc.imp_of_mem λ{a b} ha hb z=>by have:=pos a ha;have:=pos b hb;omega
 ·constructor
  ·intro hv;have:kI v∈ns:=by rw[e];exact D7.mpr ⟨v,hv,rfl⟩
   obtain⟨u,hu,eu⟩:=D7.mp ((mem _).mp this);have:u=v:=Int.ofNat.inj eu
   rwa [<- this]
  ·intro hv;have:=(mem (kI v)).mpr (D7.mpr ⟨v,hv,rfl⟩);exact D7.mpr ⟨_,this,w6 v⟩
theorem BI{ks pP ns:List Int}(o:Once ks ns)(o':Once pP ns):ks.length=pP.length:=by have a:=List.Nodup.length_le_of_subset o.1 (l₂:=pP) λ k h=>(o'.2 k).mpr ((o.2 k).mp h);have b:=List.Nodup.length_le_of_subset o'.1 (l₂:=ks) λ k h=>(o.2 k).mpr ((o'.2 k).mp h);omega
theorem BH{ks:List Int}{K:List Nat}(o:Once ks (K.map kI))(h:0 < K.length):0 < ks.length:=length_pos_of_mem ((o.2 _).mpr (pR (x:=0) h))
theorem Ie{l:List Nat}{m:Nat}(h:l.Pairwise (· < ·))(b:∀x∈l,x < m):l.length<=m:=by
 have:=List.Nodup.length_le_of_subset (h.imp λ{a b} z=>D5 z) (l₂:=List.range m) λ x hx=>mem_range.mpr (b x hx)
 rwa [x6]at this
end KK
namespace KK
open PySem L3 L4 L5
open L2 hiding aL h_
local macro_rules|`(tactic|walk_at "mem")=>`(tactic|first|assumption|exact af|(rw[aj (by assumption)];assumption)|(rw[aj (by assumption),aj (by assumption)];assumption)|(rw[aj (by assumption)];exact af))
local macro_rules|`(tactic|walk_at "rd1")=>`(tactic|first|(with_reducible first|refine Kn ?_|refine Bf ?_|refine Fc ?_|refine Ko ?_|refine KD ?_|refine pA ?_|refine dB ?_|refine Kl ?_|refine wo ?_|refine IH ?_)|((with_reducible refine' ju ?k1 ?_);(case k1=>rfl))|(with_reducible first|refine Sd ?_|refine KG ?_|refine N7 ?_|refine Kp ?_|refine FE ?_|refine jv ?_|refine kC ?_|refine Kj ?_|refine Kt ?_|refine Kk ?_|refine EU ?_|refine FA ?_|refine Bk ?_|refine Kw ?_|refine E_ ?_|refine FC ?_|refine FD ?_)|((with_reducible refine' pB ?k1 ?_);(case k1=>walk_at "mem"))|(with_reducible first|refine Ki ?_|refine EW ?_|refine N9 ?_|refine Sb ?_|refine N6 ?_|refine yE ?_|refine Fb ?_|refine wx ?_)|((with_reducible refine uu ?k1 ?_);(case k1=>first|assumption|decide))|((with_reducible refine KC ?k1 ?k2 ?_);(case k1=>first|assumption|decide);(case k2=>first|assumption|decide|omega))|((with_reducible refine gu ?k1 ?_);(case k1=>exact vw (by decide) (by decide)))|(with_reducible first|refine ES ?_|refine Fj ?_|refine Be ?_|refine Fi ?_|refine Fh ?_)|((with_reducible refine' Ba ?k1 ?_);(case k1=>walk_at "mem"))|(with_reducible first|refine II ?_|refine rq ?_|refine Bg ?_|refine Bh ?_)|((with_reducible refine' Bj ?k1 ?_);(case k1=>walk_at "mem"))|(with_reducible first|refine AU ?_|refine Fy ?_|refine Fz ?_|refine Fx ?_|refine Fd ?_|refine ET ?_|refine Ks ?_|refine Fo ?_)|((with_reducible refine' bo ?k1 ?k2 ?_);(case k1=>walk_at "mem");(case k2=>rfl))|((with_reducible refine' dN ?k2 ?_);(case k2=>rfl))|((with_reducible refine' Fq ?k1 ?_);(case k1=>walk_at "mem"))|((with_reducible refine' Km ?k1 ?k2 ?_);(case k1=>walk_at "mem");(case k2=>rfl))|(with_reducible first|refine EX ?_|refine Fp ?_|refine Fm ?_|refine Fn ?_|refine Bd ?_|refine Fs ?_|refine Ft ?_))
local macro_rules|`(tactic|walk_at "rd")=>`(tactic|repeat(walk_at "rd1"))
local macro_rules|`(tactic|walk_at "rx")=>`(tactic|repeat(first|walk_at "rd1"|((with_reducible refine' N5 ?k1 ?_);(case k1=>exact Nat.le_of_ble_eq_true rfl))))
def top(i:Nat):Stmt:=PySem.Challenge.pw_lastloser_k17_things_of_great_sums.main.body.getD i (.Pass ⟨0,0,0,0⟩)
structure iE(K:K2)(mg:Str->Option Value):Prop where
 all:mg "all"=none
 bool:mg "bool"=none
 dict:mg "dict"=none
 enumerate:mg "enumerate"=none
 int:mg "int"=none
 isinstance:mg "isinstance"=none
 len:mg "len"=none
 list:mg "list"=none
 max:mg "max"=none
 min:mg "min"=none
 range:mg "range"=none
 set:mg "set"=none
 sorted:mg "sorted"=none
 str:mg "str"=none
 sum:mg "sum"=none
 tuple:mg "tuple"=none
 zip:mg "zip"=none
 pV:fZ K "bool"
 Jc:fZ K "int"
 CF:fZ K "list"
 Jb:fZ K "str"
 xa:fZ K "tuple"
def qV:fb:=λ ds M Q=>∃ns:List Int,ds=[.fl (ns.map D.int)]/\∀M',Q (.bl true) M'
section
variable {P:Program}{w:World}{K:K2}{mg:Str->Option Value}{base:Heap}
theorem gm:aO ["_law_flow_here","_law_many","_law_cell","_law_digit"] ["_law_flow_here","_law_many"] (ay (top 5)):=⟨rfl,rfl,rfl,by decide+kernel,rfl,by decide+kernel,by decide+kernel⟩
theorem GB{f:Addr}{fd:FuncData}(F:f_ K "_law_pick" "_law_pick" (top 5) f fd)(T:iE K mg):bZ P w K mg base fc 1 f fd ["_law_flow_here","_law_many"] (cx K eN):=by
 refine iS F gm (λ ds M Q h=>?_) (λ c_ A outer s H E ds M Q hr h=>?_)
 ·obtain⟨a,c,n,rfl,_⟩:=h;rfl
 ·obtain⟨a,c,n,rfl,⟨ns,p,b,sd,ct,hf,hc,dj,hp,hb,CG,mw⟩,xh,YI,k⟩:=h;refine⟨_,(ae (bV (oR (aK (cu hr.units) (aV aL (ao 0) ai (λ _ _=>rfl)) ai (aH _)) (kx (aK lZ (aV aL (ao 0) ai (λ _ _=>rfl)) (aA bN (by rfl) T.len (by decide+kernel) (aa (aV aL (ao 0) ai (λ _ _=>rfl)) ab)) (aH _)))).pt
 (ae (au (i:=2) gm.nd rfl (Or.inl rfl) (aV aL (aV aL (ao 0) ai (λ _ _=>rfl)) (aV aL (ao 0) ai (λ _ _=>rfl)) (λ _ _=>rfl)))
 (ae (gc (aZ bp (aV aL (ao 0) ai (λ _ _=>rfl)) ai) (jk (ao 0) ai oh))
 (ak (bV (aK Sw (ao 2) (aZ wJ ai ai) (aH _))
 (ak (gc (ao 2) (jk (ao 0) ai oh)))
 (ak (gc (aZ fm (aZ bp (aZ bp (aZ eZ (aV aL (ao 0) ai (λ _ _=>rfl)) ai) (aZ fm (ao 2) ai)) ai) ai) (jk (ao 0) ai oh)))))))
 bf)
 (ae (bV (aK uM (aV aL (ao 0) ai (λ _ _=>rfl)) ai (aH _))
 (ae (au (i:=3) gm.nd rfl (Or.inl rfl) (aZ fm (aV aL (ao 0) ai (λ _ _=>rfl)) (ao 1)))
 (ae (gc (aZ l_ (aV aL (ao 0) ai (λ _ _=>rfl)) (ao 1)) (jk (ao 0) ai oh))
 (ak (aQ (ao 3)))))
 bf)
 (ae (gc (aZ bp (aV aL (ao 0) ai (λ _ _=>rfl)) ai) (jk (ao 0) ai oh))
 (ae (gc (aZ fm (aZ bp (aZ bp (aZ eZ (aV aL (ao 0) ai (λ _ _=>rfl)) ai) ai) (aV aL (ao 0) ai (λ _ _=>rfl))) ai) (jk (ao 0) ai oh))
 (ak (aQ (aZ fm (aZ l_ (aZ fm (aZ eZ (aZ bp (aZ fm (aV aL (ao 0) ai (λ _ _=>rfl)) ai) ai) (aZ bp (aZ l_ (aV aL (ao 0) ai (λ _ _=>rfl)) ai) ai)) ai) ai) (ao 1)))))))),?_⟩
  refine dO (λ δ' M'=>∃(p b sd ct:Int) (v:Option D),δ'=[some (.ref a),some (.int n),v,none]/\M'=ah M a (.lst (Jm c p b sd ct))/\0<=p/\0<=b/\0<=sd/\sd < 2147483647) (λ N hN=>?_) ?_
  ·walk_at "rd";refine aJ (λ Pz=>?_) (λ Pz=>?_)
   ·walk_at "rd";refine aJ (λ hpl=>?_) (λ hpl=>?_)
    ·obtain⟨x,hx⟩:∃x:Int,eW (ns.map D.int) p=some (.int x):=by
      have hl:p.toNat < ns.length:=by rw[B5]at hpl;omega
      refine⟨ns[p.toNat],?_⟩;have e:((p.toNat:Nat):Int)=p:=by omega
      have q:eW (ns.map D.int) ((p.toNat:Nat):Int)=some (.int ns[p.toNat]):=aR (by simp[hl]);rw[e]at q;exact q
     walk_at "rd";refine bo hc hx ?_;walk_at "rd";refine Fw ⟨by decide,by decide,by decide⟩ ?_;walk_at "rd";refine aJ (λ Mv=>?_) (λ Mv=>?_)
     ·walk_at "rd";rw[fe];refine hN _ _ ⟨p+1,x,sd,ct,_,rfl,rfl,by omega,?_,CG,mw⟩;have Mv:(10:Int)^(18:Int).toNat<=x:=Mv;have e:(10:Int)^(18:Int).toNat=1000000000000000000:=by decide
      omega
     ·walk_at "rd";rw[fe];refine hN _ _ ⟨p+1,b,_,ct,_,rfl,rfl,by omega,hb,A9 _ (by decide),p8 _ (by decide)⟩
    ·walk_at "rd";exact hN _ _ ⟨p,b,sd,ct,none,rfl,(nW hf).symm,hp,hb,CG,mw⟩
   ·walk_at "rd";exact hN _ _ ⟨p,b,sd,ct,none,rfl,(nW hf).symm,hp,hb,CG,mw⟩
  ·rintro δ' M' ⟨p,b,sd,ct,v,rfl,rfl,hp,hb,CG,mw⟩;walk_at "rd";refine aJ (λ Pz=>?_) (λ Pz=>?_)
   ·walk_at "rd";rw[fe];refine az (k _ _ (A9 _ (by omega)) (p8 _ xh) ⟨ns,p,_,sd,ct,af,by rw[aj dj];exact hc,dj,hp,Int.ediv_nonneg hb (by omega),CG,mw⟩)
   ·walk_at "rd";refine gu (DE ?_ ?_) ?_
    ·have:=A9 ((sd*48271+12820163+(ct+1)) % 2147483647) (show(65521:Int)≠0 by decide);omega
    ·have:=p8 ((sd*48271+12820163+(ct+1)) % 2147483647) (show(0:Int) < 65521 by decide);omega
    walk_at "rd";rw[fe,fe];exact az (k _ _ (A9 _ (by omega)) (p8 _ xh) ⟨ns,p,b,_,_,af,by rw[aj dj];exact hc,dj,hp,hb,A9 _ (by decide),p8 _ (by decide)⟩)
theorem qY:aO ["_law_script"] ["_law_script"] (ay (top 4)):=⟨rfl,rfl,rfl,by decide+kernel,rfl,by decide+kernel,by decide+kernel⟩
theorem GP{f:Addr}{fd:FuncData}(F:f_ K "_law_flow" "_law_flow" (top 4) f fd)(T:iE K mg):bZ P w K mg base fc 1 f fd ["_law_script"] (cx K we):=by
 refine iS F qY (λ ds M Q h=>?_) (λ c_ A outer s H E ds M Q hr h=>?_)
 ·obtain⟨a,rfl,_⟩:=h;rfl
 ·obtain⟨ns,rfl,k⟩:=h;refine⟨_,(ak (aQ (bC (aa (bI DJ (by rfl) T.list (by decide+kernel) (aa (ao 0) ab)) (aa ai (aa ai (aa ai (aa ai ab)))))))),?_⟩;walk_at "rd";refine Bc λ c W4=>?_;walk_at "rd";refine⟨small (by show 5<=10000;decide),λ fl Tw=>?_⟩;have dj:c≠fl:=λ z=>by subst z;rw[af]at Tw;cases Tw
  exact az (k fl c _ ⟨ns,0,0,1,0,af,by rw[aj dj];exact af,dj,by decide,by decide,by decide,by decide⟩ (Ext.new (Ext.new Ext.rfl W4 _) Tw _))
end
section
variable {P:Program}{w:World}{K:K2}{mg:Str->Option Value}{base:Heap}
theorem de:aO ["_law_flow_here","_law_letters","_law_near","_law_name_here"] ["_law_flow_here"] (ay (top 9)):=⟨rfl,rfl,rfl,by decide+kernel,rfl,by decide+kernel,by decide+kernel⟩
theorem GG{f:Addr}{fd:FuncData}(F:f_ K "_law_name" "_law_name" (top 9) f fd)(T:iE K mg)(ar:bT P w K mg base 1 "_law_pick" ["_law_flow_here","_law_many"] eN):bZ P w K mg base fc 2 f fd ["_law_flow_here"] (cx K (IE 6)):=by
 refine iS F de (λ ds M Q h=>?_) (λ c_ A outer s H E ds M Q hr h=>?_)
 ·obtain⟨a,cc,rfl,_⟩:=h;rfl
 ·obtain⟨a,cc,rfl,hF,k⟩:=h;refine⟨_,(ae (au (i:=1) de.nd rfl (Or.inr rfl) gf)
 (ae (au (i:=2) de.nd rfl (Or.inl rfl) (bC (vS (zs:=[Str.ofString "rows",Str.ofString "tow",Str.ofString "takes",Str.ofString "nones",Str.ofString "ones",Str.ofString "twos",Str.ofString "ass",Str.ofString "heaps",Str.ofString "on",Str.ofString "t",Str.ofString "ro",Str.ofString "a"]) (by kernel_rfl))))
 (ae (au (i:=3) de.nd rfl (Or.inl rfl) (JB PySem.F.plainAttrs_str PySem.F.slot_str_join PySem.F.type_str_join L6 Af gf (tgs:=["_law_k"]) (fr:=[1,0]) ⟨aS (by kernel_rfl),rfl,(λ _ _ h=>h),(aN rfl T.range (aa (aZ bp ai (aF ar (hr.mono (by decide)) (by rfl) (aa (ao 0) (aa ai ab)))) ab)),(aG (λ _ _ _ _ _=>(aD (i:=0) (show(["_law_k","_law_letters","_law_flow_here"]:List Str).Nodup by decide+kernel) rfl (Or.inl rfl))) (by decide)),(λ _ _ _ _ _=>aP),(λ _ _ _ _ _=>(aV aL (ao 1) (aF ar (hr.mono (by decide)) (by rfl) (aa (ao 2) (aa ai ab))) (λ _ _=>rfl)))⟩))
 (ae (bV (aK (cu hr.units) (aF ar (hr.mono (by decide)) (by rfl) (aa (ao 0) (aa ai ab))) ai (aH _))
 (ak (au (i:=3) de.nd rfl (Or.inl rfl) (aV aL (ao 2) (aF ar (hr.mono (by decide)) (by rfl) (aa (ao 0) (aa ai ab))) (λ _ _=>rfl))))
 bf)
 (ae (bV (aK (wK hr.units) (ao 3) (cE (vS (zs:=[Str.ofString "row",Str.ofString "to",Str.ofString "take",Str.ofString "none",Str.ofString "one",Str.ofString "two",Str.ofString "as",Str.ofString "heap"]) (by kernel_rfl))) rfl)
 (ak (au (i:=3) de.nd rfl (Or.inl rfl) (aZ bp (iH qZ (ao 3) iG (iF ai)) gf)))
 bf)
 (ak (aQ (aZ bp (ao 3) (aV aL (bC (aa gf (aa gf (aa (aV aL gf (aF ar (hr.mono (by decide)) (by rfl) (aa (ao 0) (aa ai ab))) (λ _ _=>rfl)) ab)))) (aF ar (hr.mono (by decide)) (by rfl) (aa (ao 0) (aa ai ab))) (λ _ _=>rfl)))))))))),?_⟩
  walk_at "rd";refine⟨by decide,λ q hq=>?_⟩;have my:q≠a:=λ z=>by obtain⟨o,e⟩:=hF.there;rw[<- z,hq]at e;cases e
  have F0:Fl a cc M (ah M q (.lst ([Str.ofString "rows",Str.ofString "tow",Str.ofString "takes",Str.ofString "nones",Str.ofString "ones",Str.ofString "twos",Str.ofString "ass",Str.ofString "heaps",Str.ofString "on",Str.ofString "t",Str.ofString "ro",Str.ofString "a"].map D.str))):=Fl.put hF hq;have HI:(ah M q (.lst ([Str.ofString "rows",Str.ofString "tow",Str.ofString "takes",Str.ofString "nones",Str.ofString "ones",Str.ofString "twos",Str.ofString "ass",Str.ofString "heaps",Str.ofString "on",Str.ofString "t",Str.ofString "ro",Str.ofString "a"].map D.str))) q=some (.lst ([Str.ofString "rows",Str.ofString "tow",Str.ofString "takes",Str.ofString "nones",Str.ofString "ones",Str.ofString "twos",Str.ofString "ass",Str.ofString "heaps",Str.ofString "on",Str.ofString "t",Str.ofString "ro",Str.ofString "a"].map D.str)):=af;generalize ah M q (.lst ([Str.ofString "rows",Str.ofString "tow",Str.ofString "takes",Str.ofString "nones",Str.ofString "ones",Str.ofString "twos",Str.ofString "ass",Str.ofString "heaps",Str.ofString "on",Str.ofString "t",Str.ofString "ro",Str.ofString "a"].map D.str))=M1 at F0 HI ⊢;walk_at "rd";refine⟨rfl,?_⟩;walk_at "rd";refine⟨a,cc,5,rfl,F0.aI,by decide,by decide,λ m o h0 h1 oF=>?_⟩;have F1:Fl a cc M1 _:=Fl.pick oF;walk_at "rd";refine⟨bL (by omega) (by omega),?_⟩;refine fP (λ i acc M'=>tH acc i/\Fl a cc M1 M') ⟨tH.nil,F1⟩ (λ i acc M' hi h=>?_) (λ i d' acc M' hd h=>?_) (λ acc M' h=>?_)
  ·obtain⟨⟨zs,rfl,_,h2⟩,_⟩:=h;rw[aM]at hi;rw[B5];exact small (by omega)
  ·walk_at "rd";refine⟨a,cc,26,rfl,h.2.aI,by decide,by decide,λ d2 o2 h2 h3 xo=>?_⟩;obtain⟨c,hc⟩:=tx (xs:=(Str.ofString "abcdefghijklmnopqrstuvwxyz").cps.toList) h2 (by
    have e:(Str.ofString "abcdefghijklmnopqrstuvwxyz").cps.toList.length=26:=by decide+kernel
    rw[e];exact h3)
   refine uw (by decide+kernel) hc ?_;exact⟨h.1.snoc (by show 1<=1;decide),h.2.trans (Fl.pick xo)⟩
  ·obtain⟨TX,Rw⟩:=h;rw[aM]at TX;refine Hq TX (by omega) λ z hz=>?_;have Rf:z.length<=5:=by omega
   have F2:=F0.trans Rw;have HI:=Rw.mv q _ my HI;clear hz TX Rw
   with_reducible refine dB ?_
   with_reducible refine dO (λ δ' M2=>∃z:Str,δ'=[some (.ref a),some (.str (Str.ofString "abcdefghijklmnopqrstuvwxyz")),some (.ref q),some (.str z)]/\z.length<=5/\Fl a cc M M2) (λ N hN=>?_) ?_
   ·walk_at "rd";refine⟨a,cc,6,rfl,F2.aI,by decide,by decide,λ d3 o3 h4 h5 xk=>?_⟩;walk_at "rd";refine aJ (λ _=>?_) (λ _=>?_)
    ·walk_at "rd";refine⟨a,cc,12,rfl,xk,by decide,by decide,λ d4 o4 h6 h7 Rv=>?_⟩;obtain⟨y,hy,SS⟩:=tw (zs:=[Str.ofString "rows",Str.ofString "tow",Str.ofString "takes",Str.ofString "nones",Str.ofString "ones",Str.ofString "twos",Str.ofString "ass",Str.ofString "heaps",Str.ofString "on",Str.ofString "t",Str.ofString "ro",Str.ofString "a"]) h6 (by show d4 < 12;exact h7);have UL:y.length<=5:=by
      have all:∀y∈[Str.ofString "rows",Str.ofString "tow",Str.ofString "takes",Str.ofString "nones",Str.ofString "ones",Str.ofString "twos",Str.ofString "ass",Str.ofString "heaps",Str.ofString "on",Str.ofString "t",Str.ofString "ro",Str.ofString "a"],y.length<=5:=by decide+kernel
      exact all y hy
     refine bo (by rw[aj my,aj my];exact HI) SS ?_;walk_at "rd";exact hN _ _ ⟨y,rfl,UL,(F2.trans (Fl.pick xk)).trans (Fl.pick Rv)⟩
    ·walk_at "rd";exact hN _ _ ⟨z,rfl,Rf,F2.trans (Fl.pick xk)⟩
   ·rintro δ' M2 ⟨z,rfl,Rf,F2⟩
    with_reducible refine dO (λ δ' M3=>∃z:Str,δ'=[some (.ref a),some (.str (Str.ofString "abcdefghijklmnopqrstuvwxyz")),some (.ref q),some (.str z)]/\z.length<=5/\Fl a cc M M3) (λ N hN=>?_) ?_
    ·walk_at "rd";refine⟨by decide,?_⟩;refine Fu rfl ?_;refine gO (λ _=>?_) (λ _=>?_)
     ·walk_at "rd";refine EY (small (by omega)) ?_;walk_at "rd";have c1:=HV z none (some 4);have e:(Str.ofString "q").length=1:=by decide+kernel
      have c2:(nK z none (some 4)).length<=4:=by
       show((z.cps.toList.drop 0).take (HT.cf z.length z.length (some 4) - 0)).toArray.size<=4;rw[x8,A0];have:HT.cf z.length z.length (some 4)<=4:=by show(if(4:Int) < 0 then((4:Int)+(z.length:Int)).toNat else min (4:Int).toNat z.length)<=4;rw[J9 (by decide)];exact Nat.min_le_left _ _
       omega
      refine rp (small (by omega)) ?_;walk_at "rd";exact hN _ _ ⟨_,rfl,by rw[len_app];omega,F2⟩
     ·walk_at "rd";exact hN _ _ ⟨z,rfl,Rf,F2⟩
    ·rintro δ' M3 ⟨z,rfl,Rf,F3⟩;walk_at "rd";refine⟨a,cc,9,rfl,F3.aI,by decide,by decide,λ d5 o5 h8 h9 xj=>?_⟩;obtain⟨c,hc⟩:=tx (xs:=(Str.ofString "123456789").cps.toList) h8 (by
      have e:(Str.ofString "123456789").cps.toList.length=9:=by decide+kernel
      rw[e];exact h9)
     refine uw (by decide+kernel) hc ?_;walk_at "rd";refine⟨small (by show 3<=10000;decide),λ q2 CJ=>?_⟩;have F5:=F3.trans (Fl.pick xj);have Tc:q2≠a:=λ z=>by subst z;obtain⟨o,e⟩:=xj.there;rw[CJ]at e;cases e
     walk_at "rd";refine⟨a,cc,3,rfl,xj.put CJ,by decide,by decide,λ d6 o6 Eg NB PB=>?_⟩;obtain⟨y,hy,SS⟩:=tw (zs:=[Str.ofString "",Str.ofString "",⟨#[c]⟩]) Eg (by show d6 < 3;exact NB);have UL:y.length<=1:=by
      have e:(Str.ofString "").length=0:=by decide+kernel
      simp only[D1,not_mem_nil,or_false]at hy;rcases hy with rfl|rfl|rfl
      ·omega
      ·omega
      ·show 1<=1;decide
     refine bo (by rw[aj Tc];exact af) SS ?_;refine rp (small (by omega)) ?_;exact az (k _ _ (by rw[len_app];omega) ((F5.trans (Fl.put xj CJ)).trans (Fl.pick PB)))
end
section
variable {P:Program}{w:World}{K:K2}{mg:Str->Option Value}{base:Heap}
theorem uk:aO ["_law_counts_here"] ["_law_counts_here"] (ay (top 11)):=⟨rfl,rfl,rfl,by decide+kernel,rfl,by decide+kernel,by decide+kernel⟩
theorem LQ{f:Addr}{fd:FuncData}(F:f_ K "_law_key" "_law_key" (top 11) f fd)(T:iE K mg):bZ P w K mg base fc 1 f fd ["_law_counts_here"] (cx K Av):=by
 refine iS F uk (λ ds M Q h=>?_) (λ c_ A outer s H E ds M Q hr h=>?_)
 ·obtain⟨a,rfl,_⟩:=h;rfl
 ·obtain⟨as,rfl,hz,k⟩:=h;refine⟨_,(ak (aQ (cE (aa (aA (DI rfl) (by rfl) T.sum (by decide+kernel) (aa (ao 0) ab)) (aa (dX bx bU (by rfl) T.tuple (by decide+kernel) (tgs:=["_law_n"]) (fr:=[]) ⟨aS (by kernel_rfl),rfl,(λ _ _ h=>h),(bK (ao 0)),(aG (λ _ _ _ _ _=>(aD (i:=0) (show(["_law_n"]:List Str).Nodup by decide+kernel) rfl (Or.inl rfl))) (by decide)),(λ _ _ _ _ _=>aP),(λ _ _ _ _ _=>(aZ rN ai (ao 0)))⟩) ab))))),?_⟩;walk_at "rd";refine EV ?_;walk_at "rd";refine fP (λ i acc M'=>M'=M/\acc=((as.map λ a=>0 - a).take i).map D.int) ⟨rfl,by simp⟩ (λ i acc M' hi h=>?_) (λ i d acc M' hd h=>?_) (λ acc M' h=>?_)
  ·obtain⟨_,rfl⟩:=h;rw[B5,A0];rw[B5]at hi;exact small (by omega)
  ·obtain⟨rfl,rfl⟩:=h;rw[u9]at hd;cases e:as[i]? with
   |none=>rw[e]at hd;cases hd
   |some a=>rw[e]at hd;cases hd;walk_at "rd";refine⟨rfl,?_⟩;rw[take_snoc (a:=0 - a) (by simp[e]),B7];rfl
  ·obtain⟨rfl,rfl⟩:=h;walk_at "rd";refine⟨by show 2<=sizeLine;decide,az ?_⟩;have e:(as.map λ a=>0 - a).take (as.map D.int).length=as.map λ a=>0 - a:=by rw[B5];exact take_of_length_le (by simp)
   rw[e];exact k
end
section
variable {P:Program}{w:World}{K:K2}{mg:Str->Option Value}{base:Heap}
theorem jW:aO ["_law_sums"] ["_law_sums"] (ay (top 12)):=⟨rfl,rfl,rfl,by decide+kernel,rfl,by decide+kernel,by decide+kernel⟩
theorem BL{f:Addr}{fd:FuncData}(F:f_ K "_law_in_order" "_law_in_order" (top 12) f fd)(T:iE K mg)(zr:bT P w K mg base 1 "_law_key" ["_law_counts_here"] Av):bZ P w K mg base fc 4 f fd ["_law_sums"] (cx K oZ):=by
 refine iS F jW (λ ds M Q h=>?_) (λ c_ A outer s H E ds M Q hr h=>?_)
 ·obtain⟨a,rs,rfl,_⟩:=h;rfl
 ·obtain⟨x,rs,rfl,hx,nB,hz,k⟩:=h;refine⟨_,(ak (aQ (bI bx (by rfl) T.tuple (by decide+kernel) (aa (tZ zr (hr.mono (by decide)) (by rfl) T.sorted (by rfl) T.dict (by rfl) (dq (tgs:=["_law_counts_here"]) (fr:=[]) ⟨aS (by kernel_rfl),rfl,(λ _ _ h=>h),(bK (ao 0)),(aG (λ _ _ _ _ _=>(aD (i:=0) (show(["_law_counts_here"]:List Str).Nodup by decide+kernel) rfl (Or.inl rfl))) (by decide)),(λ _ _ _ _ _=>aP),(λ _ _ _ _ _=>(cE (aa (ao 0) (aa JH ab))))⟩)) ab)))),?_⟩;have go:∀(N:bR),(∀(p:Addr) (out:List (List Int)) (M':Mem),(∀b o,M b=some o->M' b=some o)->M' p=some (.lst (out.map row))->(∀r∈out,r∈rs)->out.length<=rs.length->N (.ref p) M')->∀p,M p=none->qe Av (.ref p) (ah M p (.lst (rs.map pairD))) N:=by
   intro N hN p hp;have h0:=yT (λ b o e=>e) hp (.lst (rs.map pairD));refine⟨p,rs,true,λ je M'=>M'=ah M p (.lst (rs.map pairD))/\je.length<=(once rs).length/\∀i k,je[i]?=some k->Iq true M' k (Q_ ((once rs).getD i [])),λ i=>Q_ ((once rs).getD i []),rfl,af,nB,⟨rfl,G7 _,λ i k e=>by simp at e⟩,?_,?_⟩
   ·rintro je M' e ⟨rfl,h2,h3⟩ he;rw[u9]at he;cases er:(once rs)[je.length]? with
    |none=>rw[er]at he;cases he
    |some r=>
     rw[er]at he;cases he;have eR:je.length < (once rs).length:=(g9.mp er).1;refine⟨r,rfl,hz r (rU (l4 er)),rfl,?_,λ i k e=>?_⟩
     ·rw[p6,k4];omega
     ·by_cases hi:i < je.length
      ·rw[c8 hi]at e;exact h3 i k e
      ·rw[c6 (by omega)]at e;have Tt:i - je.length=0:=by have:=(g9.mp e).1;simp at this;omega
       rw[Tt]at e;have e:D.tup [.int r.sum,row (r.map λ a=>0 - a)]=k:=by simpa using e
       have WV:i=je.length:=by omega
       subst WV;show k=.tup [.int (Q_ ((once rs).getD je.length [])).1,.tup ((Q_ ((once rs).getD je.length [])).2.map D.int)];rw[<- e,c7,er];rfl
   ·rintro je M' ⟨rfl,h2,h3⟩ hl;refine⟨h3,λ p2 outD ik ho=>?_⟩;obtain⟨out,rfl,o1,o2⟩:=Lv (rs:=once rs) ho;exact hN p2 out _ (yT h0 ik _) af (λ r hr=>rU (o1 r hr)) (by rw[o2];exact Ce rs)
  have fin:∀(p:Addr) (out:List (List Int)) (M':Mem),(∀b o,M b=some o->M' b=some o)->M' p=some (.lst (out.map row))->(∀r∈out,r∈rs)->out.length<=rs.length->qd [.ref p] M' (fin2 Q):=λ p out M' h1 h2 h3 h4=>bP h2 (back h1 (k out h3 h4));rcases hx with rfl|⟨l,rfl,hl⟩
  ·walk_at "rd";refine fP (λ i acc M'=>M'=M/\acc=(rs.take i).map pairD) ⟨rfl,by simp⟩ (λ i acc M' hi h=>?_) (λ i d acc M' hd h=>?_) (λ acc M' h=>?_)
   ·obtain⟨_,rfl⟩:=h;rw[B5,A0];exact small (by omega)
   ·obtain⟨rfl,rfl⟩:=h;rw[u9]at hd;cases e:rs[i]? with
    |none=>rw[e]at hd;cases hd
    |some r=>rw[e]at hd;cases hd;walk_at "rd";refine⟨by show 2<=sizeLine;decide,rfl,?_⟩;rw[take_snoc e,B7];rfl
   ·obtain⟨rfl,rfl⟩:=h;rw[B5,y7];intro p hp;exact go _ fin p hp
  ·walk_at "rd";refine xI (ds:=rs.map row) (λ i acc M'=>M'=M/\acc=(rs.take i).map pairD) ⟨rfl,by simp⟩ (λ i acc M' hi h=>?_) (λ i acc M' hi h=>?_) (λ i d acc M' hd h=>?_) (λ acc M' h=>?_)
   ·obtain⟨rfl,_⟩:=h;exact hl
   ·obtain⟨_,rfl⟩:=h;rw[B5,A0];exact small (by omega)
   ·obtain⟨rfl,rfl⟩:=h;rw[u9]at hd;cases e:rs[i]? with
    |none=>rw[e]at hd;cases hd
    |some r=>rw[e]at hd;cases hd;walk_at "rd";refine⟨by show 2<=sizeLine;decide,rfl,?_⟩;rw[take_snoc e,B7];rfl
   ·obtain⟨rfl,rfl⟩:=h;rw[B5,y7];intro p hp;exact go _ fin p hp
end
section
variable {P:Program}{w:World}{K:K2}{mg:Str->Option Value}{base:Heap}
theorem ni:aO ["_law_heaps","_law_many"] ["_law_heaps","_law_many"] (ay (top 13)):=⟨rfl,rfl,rfl,by decide+kernel,rfl,by decide+kernel,by decide+kernel⟩
theorem yO{f:Addr}{fd:FuncData}(F:f_ K "_law_counts" "_law_counts" (top 13) f fd)(T:iE K mg):bZ P w K mg base fc 1 f fd ["_law_heaps","_law_many"] (cx K lI):=by
 refine iS F ni (λ ds M Q h=>?_) (λ c_ A outer s H E ds M Q hr h=>?_)
 ·obtain⟨a,b,c,rfl,_⟩:=h;rfl
 ·obtain⟨a,ns,n,rfl,hM,hz,k⟩:=h;refine⟨_,(ak (aQ (dX bx bU (by rfl) T.tuple (by decide+kernel) (tgs:=["_law_h"]) (fr:=[0]) ⟨aS (by kernel_rfl),rfl,(λ _ _ h=>h),(aN rfl T.range (aa (ao 1) ab)),(aG (λ _ _ _ _ _=>(aD (i:=0) (show(["_law_h","_law_heaps"]:List Str).Nodup by decide+kernel) rfl (Or.inl rfl))) (by decide)),(λ _ _ _ _ _=>aP),(λ _ _ _ _ _=>(cI i7 PySem.F.slot_list_count PySem.F.type_list_count (Hc hr.units) (ao 1) (aa (ao 0) ab)))⟩))),?_⟩;walk_at "rd";refine⟨bL (by omega) (by omega),?_⟩;rw[w6];refine cM (xs:=List.range n) (enc:=DX) (λ h=>D.int ((ns.count (h:Int):Nat):Int)) (by simp;omega) (λ i x N hx hN=>?_) ?_
  ·walk_at "rd";refine⟨⟨rfl,_,hM⟩,?_⟩;walk_at "rd";refine yF hM ?_;rw[D4];exact hN
  ·refine az ?_;unfold row jE at k;rw[D8]at k;exact k
end
section
variable {P:Program}{w:World}{K:K2}{mg:Str->Option Value}{base:Heap}
theorem cj:aO ["_law_flow_here","_law_many","_law_names_here","_law_k","_law_name_here","_law_spare"] ["_law_flow_here","_law_many"] (ay (top 10)):=⟨rfl,rfl,rfl,by decide+kernel,rfl,by decide+kernel,by decide+kernel⟩
theorem BJ{f:Addr}{fd:FuncData}(F:f_ K "_law_names" "_law_names" (top 10) f fd)(T:iE K mg)(vn:bT P w K mg base 2 "_law_name" ["_law_flow_here"] (IE 6)):bZ P w K mg base fc 3 f fd ["_law_flow_here","_law_many"] (cx K oY):=by
 refine iS F cj (λ ds M Q h=>?_) (λ c_ A outer s H E ds M Q hr h=>?_)
 ·obtain⟨a,cc,b,rfl,_⟩:=h;rfl
 ·obtain⟨a,cc,n,rfl,hF,hz,k⟩:=h;refine⟨_,(ae (au (i:=2) cj.nd rfl (Or.inl rfl) (bC ab))
 (ae (cD B1 rfl (aN rfl T.range (aa (ao 1) ab)) (bu (i:=3) cj.nd rfl (Or.inl rfl))
 (ae (au (i:=4) cj.nd rfl (Or.inl rfl) (aF vn (hr.mono (by decide)) (by rfl) (aa (ao 0) ab)))
 (ae (au (i:=5) cj.nd rfl (Or.inl rfl) ai)
 (ae (cR B1 (aK (wK hr.units) (ao 4) (ao 2) rfl)
 (ae (au (i:=4) cj.nd rfl (Or.inl rfl) (aZ eZ (aV aL gf (aZ fm (ao 5) ai) (λ _ _=>rfl)) (aZ bp ai (aZ l_ (ao 5) ai))))
 (ak (au (i:=5) cj.nd rfl (Or.inl rfl) (aZ bp (ao 5) ai)))))
 (ak (bB (cI i7 i4 i6 bb (ao 2) (aa (ao 4) ab))))))))
 (ak (aQ (ao 2))))),?_⟩
  walk_at "rd";refine⟨by decide,λ p hp=>?_⟩;have tN:=(hF.ne hp).1;walk_at "rd";refine⟨bL (by omega) (by omega),?_⟩;rw[w6];refine eh (λ i δ M'=>∃(v1 v2 v3:Option D) (zs:List Str),δ=[some (.ref a),some (.int n),some (.ref p),v1,v2,v3]/\zs.length=i/\M' p=some (.lst (zs.map D.str))/\Fl a cc M M') ⟨none,none,none,[],rfl,rfl,af,Fl.put hF hp⟩ (λ i d δ M' hd h=>?_) (λ δ M' h=>?_)
  ·obtain⟨v1,v2,v3,zs,rfl,h2,h3,F1⟩:=h;obtain⟨hi,rfl⟩:=bQ hd;walk_at "rd";refine⟨a,cc,rfl,F1.aI,λ z M1 YB F2=>?_⟩;have F3:=F1.trans F2;have h3:=F2.mv p _ tN h3;walk_at "rd";refine cU ⟨λ m δ M'=>M'=M1/\∃(z:Str) (sp:Nat),δ=[some (.ref a),some (.int n),some (.ref p),some (.int (0+(i:Nat))),some (.str z),some (.int sp)]/\m=zs.length+2 - sp/\sp<=zs.length+1/\(0 < sp->z=qj (sp - 1))/\∀j,j+1 < sp->qj j∈zs,⟨_,rfl,z,0,rfl,rfl,G7 _,λ q=>absurd q (by omega),λ j q=>absurd q (by omega)⟩,?_⟩;rintro m δ M' ⟨rfl,z,sp,rfl,rfl,Hz,V_,UK⟩;walk_at "rd";refine wu h3 (CB z zs) ?_;refine gO (λ qG=>?_) (λ qG=>?_)
   ·have qG:z∈zs:=by simpa using qG
    have all:∀j,j < sp->qj j∈zs:=λ j hj=>by
     by_cases e:j+1 < sp
     ·exact UK j e
     ·have:j=sp - 1:=by omega
      rw[this,<- V_ (by omega)];exact qG
    have Ea:sp<=zs.length:=DG (by omega) all;refine⟨λ δ' M2=>M2=M'/\δ'=[some (.ref a),some (.int n),some (.ref p),some (.int (0+(i:Nat))),some (.str (qj sp)),some (.int ((sp+1:Nat):Int))],?_,?_⟩
    ·rintro δ' M2 ⟨rfl,rfl⟩;exact⟨zs.length+2 - (sp+1),by omega,rfl,qj sp,sp+1,rfl,rfl,by omega,λ _=>rfl,λ j hj=>all j (by omega)⟩
    ·walk_at "rd";have em:(sp:Int) % 26=(sp:Int):=Int.emod_eq_of_lt (by omega) (by omega);have ed:(sp:Int) / 26=0:=Int.ediv_eq_zero_of_lt (by omega) (by omega);have bl:tu.length=26:=by decide+kernel
     have hc:eW (Str.ofString "zyxwvutsrqponmlkjihgfedcba").cps.toList ((sp:Int) % 26)=some (tu.getD sp 0):=by
      rw[em];refine aR ?_;show tu[sp]?=_;rw[c7];have:sp < tu.length:=by omega
      simp[this]
     refine uw (by decide+kernel) hc ?_;walk_at "rd";rw[ed];refine AW (uN _) ?_;walk_at "rd";exact⟨rfl,rfl⟩
   ·walk_at "rd";refine⟨⟨rfl,_,h3⟩,?_⟩;walk_at "rd";refine cA h3 (by rw[B5];exact q8 (show zs.length<=12 by omega) (by decide)) ?_;walk_at "rd";exact⟨_,_,_,zs++[z],rfl,by simp[h2],by rw[af,B7];rfl,F3.own hF hp⟩
  ·obtain⟨v1,v2,v3,zs,rfl,h2,h3,F1⟩:=h;rw[aM]at h2;walk_at "rd";exact az (k p zs _ h2 hp h3 F1)
end
section
variable {P:Program}{w:World}{K:K2}{mg:Str->Option Value}{base:Heap}
theorem pe:aO ["_law_found","_law_due"] ["_law_found","_law_due"] (ay (top 28)):=⟨rfl,rfl,rfl,by decide+kernel,rfl,by decide+kernel,by decide+kernel⟩
theorem LS{f:Addr}{fd:FuncData}(F:f_ K "_law_alike" "_law_alike" (top 28) f fd)(T:iE K mg)(WK:mg "_law_alike"=some (.ref f))(Pz:Binds K fd ["_law_found","_law_due"] []):∀k,bZ P w K mg base fc (k+1) f fd ["_law_found","_law_due"] (cx K (Az k)):=by
 intro k
 induction k with
 |zero=>exact HK EF
 |succ k ih=>
 have gE:=bJ.of F ih WK Pz;rw[show k+1+1=k+1+1 by omega];clear ih;refine iS F pe (λ ds M Q h=>?_) (λ c_ A outer s H E ds M Q hr h=>?_)
 ·obtain⟨x,y,rfl,_⟩:=h;rfl
 ·obtain⟨x,y,rfl,hs,k⟩:=h;refine⟨_,(ae (bV (aK IU (ao 1) Ir (aH _))
 (ak (aQ (fS IU (ao 0) Ir (aH _))))
 bf)
 (ae (bV (zZ (lq (aA (fW T.pV) (by rfl) T.isinstance (by decide+kernel) (aa (ao 1) (aa (jU (n:="bool") (by rfl) T.bool (by decide+kernel)) ab)))) (tX (lq (aA (fW T.pV) (by rfl) T.isinstance (by decide+kernel) (aa (ao 0) (aa (jU (n:="bool") (by rfl) T.bool (by decide+kernel)) ab)))))).pt
 (ak (aQ (w_and (aA (fW T.pV) (by rfl) T.isinstance (by decide+kernel) (aa (ao 1) (aa (jU (n:="bool") (by rfl) T.bool (by decide+kernel)) ab))) (w_and (aA (fW T.pV) (by rfl) T.isinstance (by decide+kernel) (aa (ao 0) (aa (jU (n:="bool") (by rfl) T.bool (by decide+kernel)) ab))) (qL (fS (cu hr.units) (ao 0) (ao 1) (aH _)))))))
 bf)
 (ae (bV (lq (aA (fW T.Jc) (by rfl) T.isinstance (by decide+kernel) (aa (ao 1) (aa (jU (n:="int") (by rfl) T.int (by decide+kernel)) ab))))
 (ak (aQ (w_and (aA (fW T.Jc) (by rfl) T.isinstance (by decide+kernel) (aa (ao 0) (aa (jU (n:="int") (by rfl) T.int (by decide+kernel)) ab))) (qL (fS (cu hr.units) (ao 0) (ao 1) (aH _))))))
 bf)
 (ae (bV (lq (aA (fW T.Jb) (by rfl) T.isinstance (by decide+kernel) (aa (ao 1) (aa (jU (n:="str") (by rfl) T.str (by decide+kernel)) ab))))
 (ak (aQ (w_and (aA (fW T.Jb) (by rfl) T.isinstance (by decide+kernel) (aa (ao 0) (aa (jU (n:="str") (by rfl) T.str (by decide+kernel)) ab))) (qL (fS (cu hr.units) (ao 0) (ao 1) (aH _))))))
 bf)
 (ae (bV (zZ (aK (BR hr.units) (aA (fW T.xa) (by rfl) T.isinstance (by decide+kernel) (aa (ao 1) (aa (jU (n:="tuple") (by rfl) T.tuple (by decide+kernel)) ab))) (aA (fW T.xa) (by rfl) T.isinstance (by decide+kernel) (aa (ao 0) (aa (jU (n:="tuple") (by rfl) T.tuple (by decide+kernel)) ab))) (aH _)) (tX (aK (BR hr.units) (aA (fW T.CF) (by rfl) T.isinstance (by decide+kernel) (aa (ao 1) (aa (jU (n:="list") (by rfl) T.list (by decide+kernel)) ab))) (aA (fW T.CF) (by rfl) T.isinstance (by decide+kernel) (aa (ao 0) (aa (jU (n:="list") (by rfl) T.list (by decide+kernel)) ab))) (aH _)))).pt
 (ak (aQ JH))
 bf)
 (ak (aQ (w_and (fS (cu hr.units) (aA bN (by rfl) T.len (by decide+kernel) (aa (ao 0) ab)) (aA bN (by rfl) T.len (by decide+kernel) (aa (ao 1) ab)) (aH _)) (qL (tY (Qj rfl) Er (by rfl) T.all (by decide+kernel) (tgs:=["_law_k"]) (fr:=[0,1]) ⟨aS (by kernel_rfl),rfl,(λ _ _ h=>h),(aN rfl T.range (aa (aA bN (by rfl) T.len (by decide+kernel) (aa (ao 1) ab)) ab)),(aG (λ _ _ _ _ _=>(aD (i:=0) (show(["_law_k","_law_found","_law_due"]:List Str).Nodup by decide+kernel) rfl (Or.inl rfl))) (by decide)),(λ _ _ _ _ _=>aP),(λ _ _ _ _ _=>(aF gE (hr.mono (by omega)) (by rfl) (aa (aV aL (ao 1) (ao 0) (λ _ _=>rfl)) (aa (aV aL (ao 2) (ao 0) (λ _ _=>rfl)) ab))))⟩)))))))))),?_⟩
  rcases hs with⟨rfl,hx⟩|⟨ds,es,rfl,rfl,hl,hz,hs⟩|⟨p,q,ds,es,rfl,rfl,hp,hq,hl,hz,hs⟩
  ·cases x with
   |bM=>walk_at "rx";refine rn ?_;walk_at "rx";refine rn ?_;walk_at "rx";exact az k
   |bl b=>walk_at "rx";refine iL (by simp[m_]) ?_;walk_at "rx";refine bG (n:="bool") rfl (b:=true) (by decide) ?_;walk_at "rx";refine bG (n:="bool") rfl (b:=true) (by decide) ?_;walk_at "rx";refine bG (n:="bool") rfl (b:=true) (by decide) ?_;walk_at "rx";rw[C0 (rfl:b=b)];exact az k
   |int i=>walk_at "rx";refine iL (by simp[m_]) ?_;walk_at "rx";refine bG (n:="int") rfl (b:=false) (by decide) ?_;walk_at "rx";refine bG (n:="int") rfl (b:=false) (by decide) ?_;walk_at "rx";refine bG (n:="int") rfl (b:=true) (by decide) ?_;walk_at "rx";refine bG (n:="int") rfl (b:=true) (by decide) ?_;walk_at "rx";rw[C0 (rfl:i=i)];exact az k
   |str z=>walk_at "rx";refine iL (by simp[m_]) ?_;walk_at "rx";refine bG (n:="str") rfl (b:=false) (by decide) ?_;walk_at "rx";refine bG (n:="str") rfl (b:=false) (by decide) ?_;walk_at "rx";refine bG (n:="str") rfl (b:=false) (by decide) ?_;walk_at "rx";refine bG (n:="str") rfl (b:=true) (by decide) ?_;walk_at "rx";refine bG (n:="str") rfl (b:=true) (by decide) ?_;walk_at "rx";rw[C0 (rfl:z=z)];exact az k
   |_=>cases hx
  ·walk_at "rx";refine iL (by simp[m_]) ?_;walk_at "rx";refine bG (n:="tuple") rfl (b:=false) (by decide) ?_;walk_at "rx";refine bG (n:="tuple") rfl (b:=false) (by decide) ?_;walk_at "rx";refine bG (n:="tuple") rfl (b:=false) (by decide) ?_;walk_at "rx";refine bG (n:="tuple") rfl (b:=false) (by decide) ?_;walk_at "rx";refine bG (n:="tuple") rfl (b:=true) (by decide) ?_;walk_at "rx";refine bG (n:="tuple") rfl (b:=true) (by decide) ?_;walk_at "rx";refine kB (λ h=>absurd rfl h) (λ _=>?_);walk_at "rx";refine bG (n:="tuple") rfl (b:=false) (by decide) ?_;walk_at "rx";refine bG (n:="tuple") rfl (b:=false) (by decide) ?_;walk_at "rx";refine kB (λ h=>absurd rfl h) (λ _=>?_);walk_at "rx";rw[hl];refine aJ (λ _=>?_) (λ hl=>absurd rfl hl);walk_at "rx";refine⟨bL (by omega) (by omega),?_⟩;rw[w6];refine fP (λ i acc M'=>M'=M/\acc=(List.replicate i true).map D.bl) ⟨rfl,rfl⟩ (λ i acc M' hi h=>?_) (λ i d acc M' hd h=>?_) (λ acc M' h=>?_)
   ·obtain⟨_,rfl⟩:=h;rw[aM]at hi;simp only[B5,k7];exact small (by omega)
   ·obtain⟨rfl,rfl⟩:=h;obtain⟨hi,rfl⟩:=bQ hd;walk_at "rx";refine dN (kX (by omega)) ?_;walk_at "rx";refine dN (kX hi) ?_;refine⟨_,_,rfl,hs i _ _ (i5 (by omega)) (i5 hi),rfl,?_⟩;rw[replicate_succ',B7];rfl
   ·obtain⟨rfl,rfl⟩:=h;unfold xD;rw[mR];show fin2 Q (.bl ((List.replicate _ true).all id)) _;rw[qw];exact az k
  ·have tp:m_ M (.ref p)=some "list":=by show(bc M p).map (λ _=>"list")=_;unfold bc;rw[hp];rfl
   have tq:m_ M (.ref q)=some "list":=by show(bc M q).map (λ _=>"list")=_;unfold bc;rw[hq];rfl
   walk_at "rx";refine iL (by rw[tq];simp) ?_;walk_at "rx";refine bG tq (b:=false) (by decide) ?_;walk_at "rx";refine bG tp (b:=false) (by decide) ?_;walk_at "rx";refine bG tq (b:=false) (by decide) ?_;walk_at "rx";refine bG tq (b:=false) (by decide) ?_;walk_at "rx";refine bG tq (b:=false) (by decide) ?_;walk_at "rx";refine bG tp (b:=false) (by decide) ?_;walk_at "rx";refine kB (λ h=>absurd rfl h) (λ _=>?_);walk_at "rx";refine bG tq (b:=true) (by decide) ?_;walk_at "rx";refine bG tp (b:=true) (by decide) ?_;walk_at "rx";refine kB (λ h=>absurd rfl h) (λ _=>?_);walk_at "rx";rw[hl];refine aJ (λ _=>?_) (λ hl=>absurd rfl hl);walk_at "rx";refine⟨bL (by omega) (by omega),?_⟩;rw[w6];refine fP (λ i acc M'=>M'=M/\acc=(List.replicate i true).map D.bl) ⟨rfl,rfl⟩ (λ i acc M' hi h=>?_) (λ i d acc M' hd h=>?_) (λ acc M' h=>?_)
   ·obtain⟨_,rfl⟩:=h;rw[aM]at hi;simp only[B5,k7];exact small (by omega)
   ·obtain⟨rfl,rfl⟩:=h;obtain⟨hi,rfl⟩:=bQ hd;walk_at "rx";refine bo hp (kX (by omega)) ?_;walk_at "rx";refine bo hq (kX hi) ?_;refine⟨_,_,rfl,hs i _ _ (i5 (by omega)) (i5 hi),rfl,?_⟩;rw[replicate_succ',B7];rfl
   ·obtain⟨rfl,rfl⟩:=h;unfold xD;rw[mR];show fin2 Q (.bl ((List.replicate _ true).all id)) _;rw[qw];exact az k
end
def dot(as bs:List Int):Int:=(List.zipWith (·*·) as bs).sum
def qC(bj:List (List (List Int))):Nat->List Int
 |0=>[]
 |i+1=>qC bj i++[gY 0 ((bj.getD i []).map λ o=>1+dot o (qC bj i))]
theorem pE(bj:List (List (List Int))):∀i,(qC bj i).length=i
 |0=>rfl
 |i+1=>by show(qC bj i++[_]).length=_;rw[p6,pE bj i];rfl
structure qy(bj:List (List (List Int))):Prop where
 cH:bj.length<=12
 opts:∀i,i < bj.length->(bj.getD i []).length<=63/\∀o∈bj.getD i [],(∀x∈o,0<=x)/\o.sum<=4/\o.length<=1000
theorem wO{b:Int}:∀{ns:List Int},0<=b->(∀x∈ns,x<=b)->gY 0 ns<=b:=λ{ns} hb h=>by
 cases ns with
 |nil=>exact hb
 |cons n ns=>
  rcases(foldl_max ns n).2.2 with e|e
  ·show ns.foldl max n<=b;rw[e];exact h n (o8 ..)
  ·exact h _ (k9 _ e)
theorem Hb{ns:List Int}{x:Int}(h:x∈ns):x<=gY 0 ns:=by
 cases ns with
 |nil=>cases h
 |cons n ns=>
  show x<=ns.foldl max n;rcases D1.mp h with rfl|h
  ·exact(foldl_max ns x).1
  ·exact(foldl_max ns n).2.1 x h
theorem rW{ns:List Int}(h:∀x∈ns,0<=x):0<=gY 0 ns:=by
 cases ns with
 |nil=>exact Int.le_refl _
 |cons n ns=>exact Int.le_trans (h n (o8 ..)) (Hb (o8 ..))
theorem xx(as:List Int):dot as []=0:=by unfold dot;rw[zipWith_nil_right];rfl
theorem sH(a b:Int)(as bs:List Int):dot (a::as) (b::bs)=a*b+dot as bs:=by unfold dot;rw[zipWith_cons_cons,sum_cons]
theorem xw:∀{as bs:List Int},(∀x∈as,0<=x)->(∀x∈bs,0<=x)->0<=dot as bs
 |[],bs,_,_=>by unfold dot;simp
 |a::as,[],_,_=>by rw[xx];exact Int.le_refl _
 |a::as,b::bs,h,q=>by rw[sH];have:=xw (as:=as) (bs:=bs) (λ x hx=>h x (k9 _ hx)) (λ x hx=>q x (k9 _ hx));have:=Int.mul_nonneg (h a (o8 ..)) (q b (o8 ..));omega
theorem Dr{B:Int}(hB:0<=B):∀{as bs:List Int},(∀x∈as,0<=x)->(∀x∈bs,x<=B)->dot as bs<=as.sum*B
 |[],bs,_,_=>by unfold dot;simp
 |a::as,[],h,_=>by
  rw[xx];refine Int.mul_nonneg ?_ hB;have:∀l:List Int,(∀x∈l,0<=x)->0<=l.sum:=λ l=>by
   induction l with
   |nil=>intro _;simp
   |cons x l ih=>intro h;rw[sum_cons];have:=ih λ y hy=>h y (k9 _ hy);have:=h x (o8 ..);omega
  exact this _ h
 |a::as,b::bs,h,q=>by rw[sH,sum_cons,Int.add_mul];have h1:=Dr hB (as:=as) (bs:=bs) (λ x hx=>h x (k9 _ hx)) (λ x hx=>q x (k9 _ hx));have h2:=Int.mul_le_mul_of_nonneg_left (q b (o8 ..)) (h a (o8 ..));omega
theorem IQ{bj:List (List (List Int))}(G:qy bj):∀i,i<=bj.length->∀x∈qC bj i,0<=x/\x<=5^i
 |0,_,x,hx=>by cases hx
 |i+1,hi,x,hx=>by
  have ih:=IQ G i (by omega);have YG:(0:Int) < 5^i:=Int.pow_pos (by decide);have e5:(5:Int)^(i+1)=5*5^i:=by rw[Int.pow_succ,Int.mul_comm]
  have hx:x∈qC bj i++[gY 0 ((bj.getD i []).map λ o=>1+dot o (qC bj i))]:=hx;rcases B6.mp hx with q|q
  ·have:=ih x q;omega
  ·have e:x=gY 0 ((bj.getD i []).map λ o=>1+dot o (qC bj i)):=by simpa using q
   have ho:=(G.opts i (by omega)).2;subst e;constructor
   ·refine rW λ y hy=>?_;obtain⟨o,Ms,rfl⟩:=D7.mp hy;have:=xw (ho o Ms).1 λ z hz=>(ih z hz).1;omega
   ·refine wO (by omega) λ y hy=>?_;obtain⟨o,Ms,rfl⟩:=D7.mp hy;have h1:=Dr (B:=5^i) (by omega) (ho o Ms).1 λ z hz=>(ih z hz).2;have h2:=(ho o Ms).2.1;have h3:o.sum*5^i<=4*5^i:=Int.mul_le_mul_of_nonneg_right h2 (by omega);omega
theorem Sn{i:Nat}(h:i<=12):(5:Int)^i<=1000000000:=by
 have:∀j:Fin 13,(5:Int)^(j:Nat)<=1000000000:=by decide
 exact this ⟨i,by omega⟩
theorem Bx{bj:List (List (List Int))}(G:qy bj){i:Nat}(hi:i<=bj.length):∀x∈qC bj i,0<=x/\x<=1000000000:=λ x hx=>by have h:=IQ G i hi x hx;have:=Sn (i:=i) (by have:=G.cH;omega);omega
def gx(os:List (List Int)):D:=.tup (os.map row)
def As:fb:=λ ds M Q=>∃(q:Addr) (bj:List (List (List Int))),ds=[.ref q]/\M q=some (.lst (bj.map gx))/\qy bj/\∀(p:Addr) (M':Mem),M p=none->M' p=some (.lst ((qC bj bj.length).map D.int))->Ext M M'->Q (.ref p) M'
theorem Ds(o ps:List Int):((o.take ps.length).zipIdx).map (λ p=>D.int (p.1*ps.getD p.2 0))=(List.zipWith (·*·) o ps).map D.int:=by
 refine ext_getElem? λ i=>?_;rw[u9,u9,getElem?_zipIdx,getElem?_zipWith,getElem?_take];by_cases hi:i < ps.length
 ·rw[J8 hi,i5 hi];cases o[i]? with
  |none=>rfl
  |some x=>simp[c7,hi]
 ·rw[J9 hi,k8 (show ps.length<=i by omega)];cases o[i]? <;> rfl
section
variable {P:Program}{w:World}{K:K2}{mg:Str->Option Value}{base:Heap}
theorem dA:aO ["_law_options_here","_law_found","_law_sums","_law_lasting"] ["_law_options_here"] (ay (top 19)):=⟨rfl,rfl,rfl,by decide+kernel,rfl,by decide+kernel,by decide+kernel⟩
theorem GK{f:Addr}{fd:FuncData}(F:f_ K "_law_lengths" "_law_lengths" (top 19) f fd)(T:iE K mg):bZ P w K mg base fc 1 f fd ["_law_options_here"] (cx K As):=by
 refine iS F dA (λ ds M Q h=>?_) (λ c_ A outer s H E ds M Q hr h=>?_)
 ·obtain⟨q,bj,rfl,_⟩:=h;rfl
 ·obtain⟨q,bj,rfl,hq,G,k⟩:=h;have hfew:=G.cH;refine⟨_,(ae (au (i:=1) dA.nd rfl (Or.inr rfl) (bC ab))
 (ae (cD B1 rfl (bK (ao 0)) (bu (i:=2) dA.nd rfl (Or.inl rfl))
 (ae (cY (i:=3) dA.nd rfl (Or.inl rfl) (tgs:=["_law_counts_here"]) (fr:=[1]) ⟨aS (by kernel_rfl),rfl,(λ _ _ h=>h),(bK (ao 2)),(aG (λ _ _ _ _ _=>(aD (i:=0) (show(["_law_counts_here","_law_found"]:List Str).Nodup by decide+kernel) rfl (Or.inl rfl))) (by decide)),(λ _ _ _ _ _=>aP),(λ _ _ _ _ _=>(tY (DI rfl) vX (by rfl) T.sum (by decide+kernel) (tgs:=["_law_h","_law_n"]) (fr:=[1]) ⟨aS (by kernel_rfl),rfl,(λ _ _ h=>h),(gL rfl T.enumerate (aa (iH qZ (ao 0) iG (iF (aA bN (by rfl) T.len (by decide+kernel) (aa (ao 1) ab)))) ab)),(ll (λ _ _ _ _ _=>(lW rfl (cV (aD (i:=0) (show(["_law_h","_law_n","_law_found"]:List Str).Nodup by decide+kernel) rfl (Or.inl rfl)) (cV (aD (i:=1) (show(["_law_h","_law_n","_law_found"]:List Str).Nodup by decide+kernel) rfl (Or.inl rfl)) iQ)))) (by decide) (by decide)),(λ _ _ _ _ _=>aP),(λ _ _ _ _ _=>(aZ eZ (ao 1) (aV aL (ao 2) (ao 0) (λ _ _=>rfl))))⟩))⟩)
 (ak (bB (cI i7 i4 i6 bb (ao 1) (aa (JE rfl (by rfl) T.max (tgs:=["_law_play"]) (fr:=[]) ⟨aS (by kernel_rfl),rfl,(λ _ _ h=>h),(bK (ao 3)),(aG (λ _ _ _ _ _=>(aD (i:=0) (show(["_law_play"]:List Str).Nodup by decide+kernel) rfl (Or.inl rfl))) (by decide)),(λ _ _ _ _ _=>aP),(λ _ _ _ _ _=>(aZ bp (ao 0) ai))⟩) ab))))))
 (ak (aQ (ao 1))))),?_⟩
  walk_at "rd";refine⟨by decide,λ p hp=>?_⟩;have qE:q≠p:=λ z=>by subst z;rw[hq]at hp;cases hp
  have e0:Ext M (ah M p (.lst [])):=yT (λ b o e=>e) hp _;have Rk:=e0 _ _ hq;walk_at "rd";refine sx (ds:=bj.map gx) (λ i δ M'=>∃(v1 v2:Option D),δ=[some (.ref q),some (.ref p),v1,v2]/\M' p=some (.lst ((qC bj i).map D.int))/\Ext M M') ⟨none,none,rfl,af,e0⟩ (λ i δ M' hi h=>?_) (λ i d δ M' hd h=>?_) (λ δ M' h=>?_)
  ·obtain⟨v1,v2,rfl,h3,hM⟩:=h;exact hM _ _ hq
  ·obtain⟨v1,v2,rfl,h3,hM⟩:=h;rw[u9]at hd;have hi:i < bj.length:=by refine y6 λ z=>?_;rw[k8 z]at hd;cases hd
   have iW:d=gx (bj.getD i []):=by rw[i5 hi]at hd;rw[c7,i5 hi];exact(B0 hd).symm
   subst iW;obtain⟨ho,CH⟩:=G.opts i hi;have HB:=Bx G (i:=i) (by omega);have hpl:=pE bj i;have step:qC bj (i+1)=qC bj i++[gY 0 ((bj.getD i []).map λ o=>1+dot o (qC bj i))]:=rfl;generalize bj.getD i []=os at*;generalize qC bj i=ps at*;unfold gx;walk_at "rd";refine cM (xs:=os) (enc:=row) (λ o=>D.int (dot o ps)) (by omega) (λ j o N ho hN=>?_) ?_
   ·have u_:=(CH o (l4 ho)).2.2;walk_at "rd";refine rj (by omega) ?_;rw[w6,B5,<- map_take];walk_at "rd";refine HX (xs:=o.take ps.length) (enc:=D.int) (λ p=>D.int (p.1*ps.getD p.2 0)) (by rw[A0];omega) (λ l x N2 hx Xe=>?_) ?_
    ·have hl:=(g9.mp hx).1;rw[A0]at hl;walk_at "rd";refine bo h3 (gG (i:=l) (by omega)) ?_;have hb:=HB (ps.getD l 0) (by rw[c7,i5 (by omega)];exact A1 _);exact gu (vw (by omega) (by omega)) Xe
    ·rw[Ds];exact wq hN
   ·intro r hr;have TR:=yT hM hr (.lst (os.map λ o=>D.int (dot o ps)));have Rl:p≠r:=λ z=>by subst z;rw[h3]at hr;cases hr
    have NA:ah M' r (.lst (os.map λ o=>D.int (dot o ps))) p=some (.lst (ps.map D.int)):=by rw[aj Rl];exact h3
    walk_at "rd";refine⟨⟨rfl,_,NA⟩,?_⟩;walk_at "rd";refine dR (xs:=os) (λ o=>D.int (dot o ps)) (λ o=>D.int (1+dot o ps)) (by omega) af (λ j o N _ hN=>?_) ?_
    ·walk_at "rd";rw[Int.add_comm];exact hN
    ·refine⟨os.map λ o=>1+dot o ps,by rw[D8];rfl,?_⟩;walk_at "rd";refine cA NA (by rw[B5,hpl];exact q8 (show i<=1000 by omega) (by decide)) ?_;walk_at "rd";refine⟨_,_,rfl,?_,Ext.own TR hp⟩;rw[af,step,B7];rfl
  ·obtain⟨v1,v2,rfl,h3,hM⟩:=h;rw[B5]at h3;walk_at "rd";exact az (k p M' hp h3 hM)
end
def Am:fb:=λ ds M Q=>∃(a c o:Addr) (bj:List (List Row)) (n:Nat) (dp:Int),ds=[.ref a,.ref o,.int n,.int dp]/\Flow M a c/\o≠a/\M o=some (.lst (bj.map gx))/\bj.length<=n/\n<=12/\(∀i os,bj[i]?=some os->os.length<=20/\∀r∈os,g_ n i r)/\∀(os:List Row) (M':Mem),os.length<=20->(∀r∈os,g_ n bj.length r)->Fl a c M M'->Q (gx os) M'
theorem Gv{bj:List (List Row)}{n:Nat}(hl:bj.length<=n)(hn:n<=12)(h:∀i os,bj[i]?=some os->os.length<=20/\∀r∈os,g_ n i r):qy bj:=by
 refine⟨by omega,λ i hi=>?_⟩;obtain⟨h1,h2⟩:=h i _ (i5 hi);have e:bj.getD i []=bj[i]:=by rw[c7,i5 hi];rfl
 rw[e];exact⟨by omega,λ o ho=>⟨(h2 o ho).pos,(h2 o ho).sum,by rw[(h2 o ho).len];omega⟩⟩
theorem Ext.fl {M M':Mem}{f c:Addr}(h:Ext M M')(F:Flow M f c):Fl f c M M':=by obtain⟨ns,p,b,sd,ct,h1,h2,h3⟩:=F.ex;exact⟨⟨ns,p,b,sd,ct,h _ _ h1,h _ _ h2,h3⟩,λ b o _ e=>h b o e⟩
section
variable {P:Program}{w:World}{K:K2}{mg:Str->Option Value}{base:Heap}
theorem bD:aO ["_law_flow_here","_law_ahead","_law_many","_law_deep","_law_at","_law_form","_law_rows","_law_lasting","_law_sums","_law_k"] ["_law_flow_here","_law_ahead","_law_many","_law_deep"] (ay (top 20)):=⟨rfl,rfl,rfl,by decide+kernel,rfl,by decide+kernel,by decide+kernel⟩
theorem GC{f:Addr}{fd:FuncData}(F:f_ K "_law_options" "_law_options" (top 20) f fd)(T:iE K mg)(ar:bT P w K mg base 1 "_law_pick" ["_law_flow_here","_law_many"] eN)(nH:bT P w K mg base 1 "_law_lengths" ["_law_options_here"] As)(fO:bT P w K mg base 1 "_law_counts" ["_law_heaps","_law_many"] lI)(eQ:bT P w K mg base 4 "_law_in_order" ["_law_sums"] oZ):bZ P w K mg base fc 5 f fd ["_law_flow_here","_law_ahead","_law_many","_law_deep"] (cx K Am):=by
 refine iS F bD (λ ds M Q h=>?_) (λ c_ A outer s H E ds M Q hr h=>?_)
 ·obtain⟨a,cc,o,bj,n,dp,rfl,_⟩:=h;rfl
 ·obtain⟨a,cc,o,bj,n,dp,rfl,hF,HD,Ru,hl,hn,xg,k⟩:=h;refine⟨_,(ae (au (i:=4) bD.nd rfl (Or.inr rfl) (aA bN (by rfl) T.len (by decide+kernel) (aa (ao 1) ab)))
 (ae (au (i:=5) bD.nd rfl (Or.inl rfl) (aF ar (hr.mono (by decide)) (by rfl) (aa (ao 0) (aa ai ab))))
 (ae (au (i:=6) bD.nd rfl (Or.inl rfl) (bC ab))
 (ae (bV (aK (cu hr.units) (ao 5) ai (aH _))
 (ak (aQ (cE ab)))
 bf)
 (ae (bV (oR (aK (cu hr.units) (ao 5) ai (aH _)) (kx (aK uM (ao 4) ai (aH _)))).pt
 (ak (aQ (aV aL (ao 1) (aF ar (hr.mono (by decide)) (by rfl) (aa (ao 0) (aa (ao 4) ab))) (λ _ _=>rfl))))
 bf)
 (ae (bV (aK lZ (ao 5) ai (aH _))
 (ae (au (i:=6) bD.nd rfl (Or.inl rfl) (aZ bp (bC (aa (bC ab) ab)) (dq (tgs:=["_law_h"]) (fr:=[]) ⟨aS (by kernel_rfl),rfl,(λ _ _ h=>h),(aN rfl T.range (aa (ao 4) ab)),(aG (λ _ _ _ _ _=>(aD (i:=0) (show(["_law_h"]:List Str).Nodup by decide+kernel) rfl (Or.inl rfl))) (by decide)),(λ _ _ _ _ _=>aP),(λ _ _ _ _ _=>(bC (aa (ao 0) ab)))⟩)))
 (ak (au (i:=6) bD.nd rfl (Or.inl rfl) (iH qZ (ao 6) iG (iF (aZ bp ai (aF ar (hr.mono (by decide)) (by rfl) (aa (ao 0) (aa (aZ bp (ao 4) ai) ab)))))))))
 (ak (cD B1 rfl (aN rfl T.range (aa (aZ bp ai (aF ar (hr.mono (by decide)) (by rfl) (aa (ao 0) (aa ai ab)))) ab)) (bu (i:=9) bD.nd rfl (Or.inl rfl))
 (ak (bB (cI i7 i4 i6 bb (ao 6) (aa (dq (tgs:=["_law_j"]) (fr:=[0,4]) ⟨aS (by kernel_rfl),rfl,(λ _ _ h=>h),(aN rfl T.range (aa (aZ eZ (aA (Ju rfl) (by rfl) T.min (by decide+kernel) (aa (ao 4) (aa ai ab))) (aF ar (hr.mono (by decide)) (by rfl) (aa (ao 0) (aa ai ab)))) ab)),(aG (λ _ _ _ _ _=>(aD (i:=0) (show(["_law_j","_law_flow_here","_law_at"]:List Str).Nodup by decide+kernel) rfl (Or.inl rfl))) (by decide)),(λ _ _ _ _ _=>aP),(λ _ _ _ _ _=>(aF ar (hr.mono (by decide)) (by rfl) (aa (ao 1) (aa (ao 2) ab))))⟩) ab)))))))
 (ae (au (i:=7) bD.nd rfl (Or.inr rfl) (aF nH (hr.mono (by decide)) (by rfl) (aa (ao 1) ab)))
 (ae (cY (i:=8) bD.nd rfl (Or.inl rfl) (tgs:=["_law_row"]) (fr:=[2,3,7]) ⟨aS (by kernel_rfl),rfl,(λ _ _ h=>h),(bK (ao 6)),(aG (λ _ _ _ _ _=>(aD (i:=0) (show(["_law_row","_law_many","_law_deep","_law_lasting"]:List Str).Nodup by decide+kernel) rfl (Or.inl rfl))) (by decide)),(λ _ _ _ _ _=>(gJ (aK lZ (tY (DI rfl) vX (by rfl) T.sum (by decide+kernel) (tgs:=["_law_h"]) (fr:=[3]) ⟨aS (by kernel_rfl),rfl,(λ _ _ h=>h),(bK (ao 0)),(aG (λ _ _ _ _ _=>(aD (i:=0) (show(["_law_h","_law_lasting"]:List Str).Nodup by decide+kernel) rfl (Or.inl rfl))) (by decide)),(λ _ _ _ _ _=>aP),(λ _ _ _ _ _=>(aV aL (ao 1) (ao 0) (λ _ _=>rfl)))⟩) (ao 2) (aH _)))),(λ _ _ _ _ _=>(aF fO (hr.mono (by decide)) (by rfl) (aa (ao 0) (aa (ao 1) ab))))⟩)
 (ak (aQ (aF eQ (hr.mono (by decide)) (by rfl) (aa (ao 8) ab)))))))))))),?_⟩
  walk_at "rd";rw[B5];refine⟨a,cc,8,rfl,hF,by decide,by decide,λ d1 o1 d0 d8 oF=>?_⟩;have F1:Fl a cc M _:=Fl.pick oF;generalize ah M a o1=M1 at*;walk_at "rd";refine⟨by decide,λ p hp=>?_⟩;have F2:=F1.trans (Fl.put (o:=.lst []) F1.aI hp);have tN:=(F1.aI.ne hp).1;have Wu:M p=none:=by
   cases z:M p with
   |none=>rfl
   |some u=>rw[F1.mv p u tN z]at hp;cases hp
  have tO:ah M1 p (.lst []) p=some (.lst (([]:List Addr).map D.ref)):=af;generalize ah M1 p (.lst [])=M2 at*;walk_at "rd";refine aJ (λ e=>?_) (λ e=>?_)
  ·walk_at "rd";exact⟨G7 _,az (k [] _ (by decide) (λ r h=>by cases h) F2)⟩
  ·walk_at "rd1"
   with_reducible refine dO (λ δ' M'=>δ'=[some (.ref a),some (.ref o),some (.int n),some (.int dp),some (.int (bj.length:Nat)),some (.int d1),some (.ref p),none,none,none]/\M'=M2) (λ N hN=>?_) ?_
   ·walk_at "rd";refine aJ (λ e1=>?_) (λ e1=>?_)
    ·walk_at "rd";refine aJ (λ e2=>?_) (λ e2=>?_)
     ·walk_at "rd";refine⟨a,cc,bj.length,rfl,F2.aI,by omega,by omega,λ d2 o2 NF Qc xk=>?_⟩;have F3:=F2.trans (Fl.pick xk);obtain⟨j,rfl⟩:∃j:Nat,d2=(j:Int):=⟨d2.toNat,by omega⟩;have hj:j < bj.length:=by omega
      obtain⟨g1,g2⟩:=xg j _ (i5 hj);refine bo (F3.mv o _ HD Ru) (aR (by rw[u9,i5 hj];rfl)) ?_;walk_at "rd";exact az (k _ _ g1 (λ r hr=>(g2 r hr).mono (by omega)) F3)
     ·walk_at "rd";exact hN _ _ ⟨rfl,rfl⟩
    ·walk_at "rd";exact hN _ _ ⟨rfl,rfl⟩
   ·rintro δ' M' ⟨rfl,rfl⟩
    with_reducible refine dO (λ δ' M'=>∃(v6:Addr) (qs:List Addr) (v9:Option D),δ'=[some (.ref a),some (.ref o),some (.int n),some (.int dp),some (.int (bj.length:Nat)),some (.int d1),some (.ref v6),none,none,v9]/\M' v6=some (.lst (qs.map D.ref))/\qs.length<=20/\cQ a bj.length M' qs/\Fl a cc M M') (λ N hN=>?_) ?_
    ·walk_at "rd";refine aJ (λ e1=>?_) (λ e1=>?_)
     ·walk_at "rd";refine⟨G7 _,λ p0 mY=>?_⟩;have Xq:=(F2.aI.ne mY).1;have F3:=F2.trans (Fl.put (o:=.lst []) F2.aI mY);have g0:ah M' p0 (.lst []) p0=some (.lst (([]:List Int).map D.int)):=af;generalize ah M' p0 (.lst [])=M3 at*;walk_at "rd";refine⟨by show 1<=sizeLine;decide,λ p1 mz=>?_⟩;have F4:=F3.trans (Fl.put (o:=.lst [.ref p0]) F3.aI mz);have YX:=(F3.aI.ne mz).1;have g1:ah M3 p1 (.lst [.ref p0]) p1=some (.lst [.ref p0]):=af;have g0:ah M3 p1 (.lst [.ref p0]) p0=some (.lst (([]:List Int).map D.int)):=by rw[aj (a_ g0 mz)];exact g0
      generalize ah M3 p1 (.lst [.ref p0])=M4 at*;walk_at "rd";refine⟨bL (by omega) (by omega),?_⟩;rw[w6];refine ir (xs:=List.range bj.length) (enc:=DX) D.ref (λ qs M'=>Fl a cc M M'/\cQ a bj.length M' (p0::qs)/\M' p1=some (.lst [.ref p0])) (by simp;omega) ⟨F4,cQ.add cQ.nil Xq g0 (by decide) (λ x h=>by cases h),g1⟩ (λ i x ys M' N hx hy h hN=>?_) (λ qs M' hl h=>?_)
      ·obtain⟨G1,G2,G3⟩:=h;have hi:=(g9.mp hx).1;have O2:x=i:=by rw[l9 (by simpa using hi)]at hx;exact(B0 hx).symm
       subst O2;rw[x6]at hi;walk_at "rd";refine⟨by show 1<=sizeLine;decide,λ q hq=>hN q _ ⟨G1.trans (Fl.put G1.aI hq),?_,by rw[aj (a_ G3 hq)];exact G3⟩⟩;refine cQ.add (qs:=p0::ys) (G2.new hq) (G1.aI.ne hq).1 (hs:=[(x:Int)]) ?_ (by show 1<=4;decide) λ y hy=>?_
       ·rw[af,Kh];rfl
       ·rw[r6.mp hy];omega
      ·obtain⟨G1,G2,G3⟩:=h;rw[x6]at hl;intro p2 ik;have G1:=G1.trans (Fl.put (o:=.lst (qs.map D.ref)) G1.aI ik);have G2:=G2.new ik (o:=.lst (qs.map D.ref));have G3:ah M' p2 (.lst (qs.map D.ref)) p1=some (.lst [.ref p0]):=by rw[aj (a_ G3 ik)];exact G3
       walk_at "rd";refine iM G3 af (by rw[B5,k4];exact small (by omega)) λ p3 Eb=>?_;generalize ah M' p2 (.lst (qs.map D.ref))=M5 at*;have Vw:=G1.trans (Fl.put (o:=.lst ([.ref p0]++qs.map D.ref)) G1.aI Eb);have G2:=G2.new Eb (o:=.lst ([.ref p0]++qs.map D.ref));have G4:ah M5 p3 (.lst ([.ref p0]++qs.map D.ref)) p3=some (.lst ((p0::qs).map D.ref)):=af;have Xm:=(G1.aI.ne Eb).1;generalize ah M5 p3 (.lst ([.ref p0]++qs.map D.ref))=M6 at*;walk_at "rd";refine⟨a,cc,bj.length+1,rfl,Vw.aI,by omega,by omega,λ d2 o2 NF Qc xk=>?_⟩;have G1:=Vw.trans (Fl.pick xk);have G2:=G2.keep (Fl.pick xk).mv;have G4:=(Fl.pick xk).mv _ _ Xm G4;generalize ah M6 a o2=M7 at*;walk_at "rd";refine oq G4 (by omega) λ p4 UX=>?_;walk_at "rd";exact hN _ _ ⟨p4,(p0::qs).take (1+d2).toNat,none,rfl,by rw[af,map_take],by rw[A0,y4];omega,(G2.take _).new UX,G1.trans (Fl.put G1.aI UX)⟩
     ·walk_at "rd";refine⟨a,cc,4,rfl,F2.aI,by decide,by decide,λ d2 o2 NF Vo xk=>?_⟩;have F3:=F2.trans (Fl.pick xk);have TQ:ah M' a o2 p=some (.lst (([]:List Addr).map D.ref)):=by rw[aj tN];exact tO
      generalize ah M' a o2=M3 at*;walk_at "rd";refine⟨bL (by omega) (by omega),?_⟩;refine eh (λ j δ M'=>∃(v9:Option D) (qs:List Addr),δ=[some (.ref a),some (.ref o),some (.int n),some (.int dp),some (.int (bj.length:Nat)),some (.int d1),some (.ref p),none,none,v9]/\M' p=some (.lst (qs.map D.ref))/\qs.length=j/\cQ a bj.length M' qs/\Fl a cc M M') ⟨none,[],rfl,TQ,rfl,cQ.nil,F3⟩ (λ j d δ M' hd h=>?_) (λ δ M' h=>?_)
      ·obtain⟨v9,qs,rfl,h3,UT,hR,F4⟩:=h;obtain⟨hj,rfl⟩:=bQ hd;walk_at "rd";refine⟨⟨rfl,_,h3⟩,?_⟩;walk_at "rd";refine⟨a,cc,3,rfl,F4.aI,by decide,by decide,λ d o h0 h1 xj=>?_⟩;have F5:=F4.trans (Fl.pick xj);have hR:=hR.keep (Fl.pick xj).mv;have h3:=(Fl.pick xj).mv _ _ tN h3;generalize ah M' a o=M5 at*;have Tn:(if(1:Int) < (bj.length:Int)then(1:Int)else(bj.length:Int))=if 1<=bj.length then 1 else 0:=by split <;> split <;> omega
       rw[Tn];refine gu (DE (by split <;> omega) (by split <;> omega)) ?_;have hle:(if 1<=bj.length then(1:Int)else 0)*d<=2/\0<=(if 1<=bj.length then(1:Int)else 0)*d/\(bj.length=0->(if 1<=bj.length then(1:Int)else 0)*d=0):=by
        split
        ·rw[Int.one_mul];exact⟨by omega,h0,λ z=>by omega⟩
        ·rw[Int.zero_mul];exact⟨by omega,by omega,λ _=>rfl⟩
       generalize(if 1<=bj.length then(1:Int)else 0)*d=c2 at hle ⊢;obtain⟨c1,c0,cn⟩:=hle;refine⟨bL (by omega) (by omega),?_⟩;refine ir (xs:=List.range c2.toNat) (enc:=DX) D.int (λ ns M'=>Fl a cc M M'/\M' p=some (.lst (qs.map D.ref))/\cQ a bj.length M' qs/\∀x∈ns,0<=x/\x < (bj.length:Int)) (by simp;omega) ⟨F5,h3,hR,λ x h=>by cases h⟩ (λ jj x ys M' N hx hy h hN=>?_) (λ ns M' hl h=>?_)
       ·obtain⟨F2,h3,hR,h2⟩:=h;have hi:=(g9.mp hx).1;rw[x6]at hi;have hn:bj.length≠0:=λ z=>by have:=cn z;omega
        walk_at "rd";refine⟨a,cc,bj.length,rfl,F2.aI,by omega,by omega,λ d2 o2 Rw NA xo=>hN _ _ ⟨F2.trans (Fl.pick xo),(Fl.pick xo).mv _ _ tN h3,hR.keep (Fl.pick xo).mv,λ x hx=>?_⟩⟩;rcases B6.mp hx with q|q
        ·exact h2 x q
        ·have:x=d2:=by simpa using q
         omega
       ·obtain⟨F2,h3,hR,h2⟩:=h;rw[x6]at hl;intro p2 ik;have UW:=a_ h3 ik;have Xn:=(F2.aI.ne ik).1;have hR:=hR.new ik (o:=.lst (ns.map D.int));have F3:=F2.trans (Fl.put (o:=.lst (ns.map D.int)) F2.aI ik);have h3:ah M' p2 (.lst (ns.map D.int)) p=some (.lst (qs.map D.ref)):=by rw[aj UW];exact h3
        have h4:ah M' p2 (.lst (ns.map D.int)) p2=some (.lst (ns.map D.int)):=af;generalize ah M' p2 (.lst (ns.map D.int))=M8 at*;walk_at "rd";refine cA h3 (by rw[B5];exact q8 (show qs.length<=12 by omega) (by decide)) ?_;walk_at "rd";refine⟨_,qs++[p2],rfl,by rw[af,B7];rfl,by rw[p6,k4];omega,(hR.put h3).add Xn (by rw[aj (J6 UW)];exact h4) (by omega) h2,?_⟩;exact Fl.own F3 hF Wu
      ·obtain⟨v9,qs,rfl,h3,UT,hR,F4⟩:=h;rw[aM]at UT;exact hN _ _ ⟨p,qs,v9,rfl,h3,by omega,hR,F4⟩
    ·rintro δ' M' ⟨p,qs,v9,rfl,tO,YF,hR,F3⟩;walk_at "rd";refine⟨o,bj,rfl,F3.mv o _ HD Ru,Gv hl hn xg,λ l M4 YM Xf hE=>?_⟩;have F4:=F3.trans (hE.fl F3.aI);have hR:=hR.keep (M':=M4) λ b u _ e=>hE b u e;have tO:=hE _ _ tO;walk_at "rd";refine xI (ds:=qs.map D.ref) (λ i acc M'=>M'=M4/\∃os:List Row,acc=os.map row/\os.length<=i/\∀r∈os,g_ n bj.length r) ⟨rfl,[],rfl,G5 _,λ r h=>by cases h⟩ (λ i acc M' hi h=>?_) (λ i acc M' hi h=>?_) (λ i d acc M' hd h=>?_) (λ acc M' h=>?_)
     ·obtain⟨rfl,_⟩:=h;exact tO
     ·obtain⟨rfl,os,rfl,o1,_⟩:=h;rw[B5]at hi ⊢;exact small (by omega)
     ·obtain⟨rfl,os,rfl,o1,o2⟩:=h;rw[u9]at hd;cases e:qs[i]? with
      |none=>rw[e]at hd;cases hd
      |some q=>
       rw[e]at hd;cases hd;obtain⟨my,hs,HI,hh,hx⟩:=hR q (l4 e);walk_at "rd";refine dR (xs:=hs) D.int (λ x=>D.int ((qC bj bj.length).getD x.toNat 0)) (by omega) HI (λ j x N oD hN=>?_) ?_
       ·have YC:=hx x (l4 oD);obtain⟨m,rfl⟩:∃m:Nat,x=(m:Int):=⟨x.toNat,by omega⟩;walk_at "rd";refine bo Xf (gG (by rw[pE];omega)) ?_;rw[w6]at hN;exact hN
       ·rw[show(hs.map λ x=>D.int ((qC bj bj.length).getD x.toNat 0))=(hs.map λ x=>(qC bj bj.length).getD x.toNat 0).map D.int by rw[D8];rfl];refine wq ?_;walk_at "rd";refine aJ (λ _=>?_) (λ _=>?_)
        ·walk_at "rd";refine⟨q,hs,n,rfl,HI,by omega,rfl,os++[jE hs n],by rw[B7];rfl,by rw[p6,k4];omega,λ r hr=>?_⟩;rcases B6.mp hr with z|z
         ·exact o2 r z
         ·rw[r6.mp z];exact rM hh hx
        ·exact⟨rfl,os,rfl,by omega,o2⟩
     ·obtain⟨rfl,os,rfl,o1,o2⟩:=h;rw[B5]at o1;intro p2 ik;walk_at "rd";refine⟨_,os,rfl,.inr ⟨p2,rfl,af⟩,by omega,λ r hr=>by rw[(o2 r hr).len];omega,λ out ho u_=>?_⟩;exact az (k out _ (by omega) (λ r hr=>o2 r (ho r hr)) (F4.trans (Fl.put F4.aI ik)))
end
def Ay:fb:=λ ds M Q=>∃(a c:Addr) (m:Nat) (dp:Int),ds=[.ref a,.int m,.int dp]/\Flow M a c/\1<=m/\m<=12/\∀(n:Nat) (g:List fH) (M':Mem),1<=n->n<=m->vM n g->(∀h∈g,h.2.length<=20)->Fl a c M M'->Q (sr g) M'
theorem xq{n:Nat}{zs:List Str}{bj:List (List Row)}(hn:n<=12)(hz:zs.length=n)(ho:bj.length=n)(h:∀i os,bj[i]?=some os->os.length<=20/\∀r∈os,g_ n i r):vM n (zs.zip bj):=by
 refine⟨by rw[length_zip];omega,hn,λ i hi=>?_⟩;have e:(zs.zip bj).getD i mY=(zs[i]'(by omega),bj[i]'(by omega)):=by rw[c7,i5 (by rw[length_zip];omega)];simp
 rw[e];have:=h i _ (i5 (by omega));exact⟨by have:=this.1;show(bj[i]'_).length<=63;omega,this.2⟩
theorem qI{zs:List Str}{bj:List (List Row)}{n:Nat}(hz:zs.length=n)(ho:bj.length=n):(List.range n).map (λ i=>mB (zs.getD i (Str.ofString ""),bj.getD i []))=(zs.zip bj).map mB:=by
 refine ext_getElem? λ i=>?_;by_cases hi:i < n
 ·rw[u9,u9,l9 hi,i5 (by rw[length_zip];omega)];simp[c7,hz,ho,hi]
 ·rw[k8 (by simpa using hi),k8 (by rw[B5,length_zip];omega)]
theorem wG{bj:List (List Row)}{os:List Row}{n:Nat}(h:∀i os,bj[i]?=some os->os.length<=20/\∀r∈os,g_ n i r)(h1:os.length<=20)(h2:∀r∈os,g_ n bj.length r):∀i DZ,(bj++[os])[i]?=some DZ->DZ.length<=20/\∀r∈DZ,g_ n i r:=λ i DZ e=>by
 by_cases eR:i < bj.length
 ·rw[c8 eR]at e;exact h i DZ e
 ·rw[c6 (by omega)]at e;have Tt:i - bj.length=0:=by have:=(g9.mp e).1;simp at this;omega
  rw[Tt]at e;have e:os=DZ:=by simpa using e
  subst e;have:i=bj.length:=by omega
  subst this;exact⟨h1,h2⟩
section
variable {P:Program}{w:World}{K:K2}{mg:Str->Option Value}{base:Heap}
theorem dW:aO ["_law_flow_here","_law_most","_law_deep","_law_many","_law_names_here","_law_options_here","_law_h"] ["_law_flow_here","_law_most","_law_deep"] (ay (top 21)):=⟨rfl,rfl,rfl,by decide+kernel,rfl,by decide+kernel,by decide+kernel⟩
theorem GO{f:Addr}{fd:FuncData}(F:f_ K "_law_game" "_law_game" (top 21) f fd)(T:iE K mg)(ar:bT P w K mg base 1 "_law_pick" ["_law_flow_here","_law_many"] eN)(gC:bT P w K mg base 3 "_law_names" ["_law_flow_here","_law_many"] oY)(nF:bT P w K mg base 5 "_law_options" ["_law_flow_here","_law_ahead","_law_many","_law_deep"] Am):bZ P w K mg base fc 6 f fd ["_law_flow_here","_law_most","_law_deep"] (cx K Ay):=by
 refine iS F dW (λ ds M Q h=>?_) (λ c_ A outer s H E ds M Q hr h=>?_)
 ·obtain⟨a,cc,m,dp,rfl,_⟩:=h;rfl
 ·obtain⟨a,cc,m,dp,rfl,hF,cb,hm,k⟩:=h;refine⟨_,(ae (au (i:=3) dW.nd rfl (Or.inl rfl) (aZ bp ai (aF ar (hr.mono (by decide)) (by rfl) (aa (ao 0) (aa (ao 1) ab)))))
 (ae (au (i:=4) dW.nd rfl (Or.inr rfl) (aF gC (hr.mono (by decide)) (by rfl) (aa (ao 0) (aa (ao 3) ab))))
 (ae (au (i:=5) dW.nd rfl (Or.inr rfl) (bC ab))
 (ae (cD B1 rfl (aN rfl T.range (aa (ao 3) ab)) (bu (i:=6) dW.nd rfl (Or.inl rfl))
 (ak (bB (cI i7 i4 i6 bb (ao 5) (aa (aF nF (hr.mono (by decide)) (by rfl) (aa (ao 0) (aa (ao 5) (aa (ao 3) (aa (ao 2) ab))))) ab)))))
 (ak (aQ (dX bx bU (by rfl) T.tuple (by decide+kernel) (tgs:=["_law_h"]) (fr:=[4,5]) ⟨aS (by kernel_rfl),rfl,(λ _ _ h=>h),(aN rfl T.range (aa (ao 3) ab)),(aG (λ _ _ _ _ _=>(aD (i:=0) (show(["_law_h","_law_names_here","_law_options_here"]:List Str).Nodup by decide+kernel) rfl (Or.inl rfl))) (by decide)),(λ _ _ _ _ _=>aP),(λ _ _ _ _ _=>(cE (aa (aV aL (ao 1) (ao 0) (λ _ _=>rfl)) (aa (aV aL (ao 2) (ao 0) (λ _ _=>rfl)) ab))))⟩))))))),?_⟩
  walk_at "rd";refine⟨a,cc,m,rfl,hF,by omega,by omega,λ d o h0 h1 oF=>?_⟩;have F1:Fl a cc M _:=Fl.pick oF;generalize ah M a o=M1 at*;obtain⟨n,en⟩:∃n:Nat,1+d=(n:Int):=⟨(1+d).toNat,by omega⟩;walk_at "rd";rw[en];refine⟨a,cc,n,rfl,F1.aI,by omega,λ p zs M2 hz hp tO F2=>?_⟩;have F3:=F1.trans F2;have tN:=(F1.aI.ne hp).1;walk_at "rd";refine⟨by decide,λ o CM=>?_⟩;have HD:=(F3.aI.ne CM).1;have F4:=F3.trans (Fl.put (o:=.lst []) F3.aI CM);have UZ:=a_ tO CM;have tO:ah M2 o (.lst []) p=some (.lst (zs.map D.str)):=by rw[aj UZ];exact tO
  have Ru:ah M2 o (.lst []) o=some (.lst (([]:List (List Row)).map gx)):=af;have Rm:M o=none:=by
   cases z:M o with
   |none=>rfl
   |some u=>rw[F3.mv o u HD z]at CM;cases CM
  generalize ah M2 o (.lst [])=M3 at*;walk_at "rd";refine⟨bL (by omega) (by omega),?_⟩;rw[w6];refine eh (λ j δ M'=>∃(v6:Option D) (bj:List (List Row)),δ=[some (.ref a),some (.int m),some (.int dp),some (.int n),some (.ref p),some (.ref o),v6]/\M' p=some (.lst (zs.map D.str))/\M' o=some (.lst (bj.map gx))/\bj.length=j/\(∀i os,bj[i]?=some os->os.length<=20/\∀r∈os,g_ n i r)/\Fl a cc M M') ⟨none,[],rfl,tO,Ru,rfl,λ i os h=>by simp at h,F4⟩ (λ j d δ M' hd h=>?_) (λ δ M' h=>?_)
  ·obtain⟨v6,bj,rfl,h1,h2,h3,h4,h5⟩:=h;obtain⟨hj,rfl⟩:=bQ hd;walk_at "rd";refine⟨⟨rfl,_,h2⟩,?_⟩;walk_at "rd";refine⟨a,cc,o,bj,n,dp,rfl,h5.aI,HD,h2,by omega,by omega,h4,λ os M5 g1 g2 g3=>?_⟩;have h2:=g3.mv _ _ HD h2;have h1:=g3.mv _ _ tN h1;walk_at "rd";refine cA h2 (by rw[B5];exact q8 (show bj.length<=12 by omega) (by decide)) ?_;walk_at "rd";refine⟨_,bj++[os],rfl,by rw[aj UZ];exact h1,by rw[af,B7];rfl,by rw[p6,k4,h3],wG h4 g1 g2,Fl.own (h5.trans g3) hF Rm⟩
  ·obtain⟨v6,bj,rfl,h1,h2,h3,h4,h5⟩:=h;rw[aM]at h3;walk_at "rd";refine⟨bL (by omega) (by omega),?_⟩;rw[w6];refine cM (xs:=List.range n) (enc:=DX) (λ i=>mB (zs.getD i (Str.ofString ""),bj.getD i [])) (by simp;omega) (λ i x N hx hN=>?_) ?_
   ·have hi:=(g9.mp hx).1;have O2:x=i:=by rw[l9 (by simpa using hi)]at hx;exact(B0 hx).symm
    subst O2;rw[x6]at hi;walk_at "rd";refine bo h1 (d:=.str (zs.getD x (Str.ofString ""))) (by rw[D4];exact aR (by rw[u9,i5 (by omega),c7,i5 (by omega)];rfl)) ?_;walk_at "rd";refine bo h2 (d:=gx (bj.getD x [])) (by rw[D4];exact aR (by rw[u9,i5 (by omega),c7,i5 (by omega)];rfl)) ?_;walk_at "rd";exact⟨by show 2<=sizeLine;decide,hN⟩
   ·rw[qI hz h3];walk_at "rd";exact az (k n _ _ (by omega) (by omega) (xq (by omega) hz h3 h4) (λ h hh=>by
     have hh:=(of_mem_zip (a:=h.1) (b:=h.2) hh).2;obtain⟨i,hi⟩:=getElem?_of_mem hh;exact(h4 i h.2 hi).1) h5)
end
def ID:fb:=λ ds M Q=>∃(a c:Addr) (m:Nat),ds=[.ref a,.int m]/\Flow M a c/\1<=m/\m<=12/\∀(n:Nat) (g:List fH) (s:Addr) (sz:Cs) (M':Mem),1<=n->n<=m->vM n g->sz.length=n->(∀x∈sz,x < 5)->M s=none->M' s=some (.lst (sz.map nD))->Fl a c M M'->Q (.tup [sr g,.ref s]) M'
structure Nm(a c p s o:Addr)(zs:List Str)(jl:List Int)(bj:List (List Row))(M M':Mem):Prop where
 fl:Fl a c M M'
 np:M' p=some (.lst (zs.map D.str))
 sz:M' s=some (.lst (jl.map D.int))
 op:M' o=some (.lst (bj.map gx))
structure Nn(a p s o:Addr)(M:Mem):Prop where
 pa:p≠a
 sa:s≠a
 oa:o≠a
 ps:p≠s
 po:p≠o
 so:s≠o
 ms:M s=none
 mo:M o=none
section
variable {a c p s o q r:Addr}{zs:List Str}{jl:List Int}{bj:List (List Row)}{M M' M2:Mem}{x:MO}
theorem Nm.on (h:Nm a c p s o zs jl bj M M')(k:Nn a p s o M)(g:Fl a c M' M2):Nm a c p s o zs jl bj M M2:=⟨h.fl.trans g,g.mv _ _ k.pa h.np,g.mv _ _ k.sa h.sz,g.mv _ _ k.oa h.op⟩
theorem Nm.new (h:Nm a c p s o zs jl bj M M')(k:Nn a p s o M)(hq:M' q=none):Nm a c p s o zs jl bj M (ah M' q x):=h.on k (Fl.put h.fl.aI hq)
theorem Nm.free (h:Nm a c p s o zs jl bj M M')(hq:M' q=none):q≠a/\p≠q/\s≠q/\o≠q/\M q=none:=by
 have qa:=(h.fl.aI.ne hq).1;refine⟨qa,a_ h.np hq,a_ h.sz hq,a_ h.op hq,?_⟩;cases z:M q with
 |none=>rfl
 |some u=>rw[h.fl.mv q u qa z]at hq;cases hq
theorem Nm.own (h:Nm a c p s o zs jl bj M M')(hF:Flow M a c)(hr:r≠a/\p≠r/\s≠r/\o≠r/\M r=none):Nm a c p s o zs jl bj M (ah M' r x):=
 ⟨Fl.own h.fl hF hr.2.2.2.2,by rw[aj hr.2.1];exact h.np,by rw[aj hr.2.2.1];exact h.sz,by rw[aj hr.2.2.2.1];exact h.op⟩
end
theorem rR:∀{l:List Int},(∀x∈l,0<=x)->(l.map Int.toNat).map nD=l.map D.int
 |[],_=>rfl
 |x::l,h=>by have h0:=h x o8;rw[C9,C9,C9,rR λ y hy=>h y (k9 _ hy)];show D.int (x.toNat:Int)::_=_;rw[show((x.toNat:Nat):Int)=x by omega]
section
variable {P:Program}{w:World}{K:K2}{mg:Str->Option Value}{base:Heap}
theorem bX:aO ["_law_flow_here","_law_most","_law_many","_law_names_here","_law_sizes","_law_options_here","_law_h","_law_size","_law_rows","_law_one","_law_some"] ["_law_flow_here","_law_most"] (ay (top 14)):=⟨rfl,rfl,rfl,by decide+kernel,rfl,by decide+kernel,by decide+kernel⟩
theorem LO{f:Addr}{fd:FuncData}(F:f_ K "_law_nim" "_law_nim" (top 14) f fd)(T:iE K mg)(ar:bT P w K mg base 1 "_law_pick" ["_law_flow_here","_law_many"] eN)(gC:bT P w K mg base 3 "_law_names" ["_law_flow_here","_law_many"] oY)(fO:bT P w K mg base 1 "_law_counts" ["_law_heaps","_law_many"] lI)(eQ:bT P w K mg base 4 "_law_in_order" ["_law_sums"] oZ):bZ P w K mg base fc 5 f fd ["_law_flow_here","_law_most"] (cx K ID):=by
 refine iS F bX (λ ds M Q h=>?_) (λ c_ A outer s H E ds M Q hr h=>?_)
 ·obtain⟨a,cc,m,rfl,_⟩:=h;rfl
 ·obtain⟨a,cc,m,rfl,hF,cb,hm,k⟩:=h;refine⟨_,(ae (au (i:=2) bX.nd rfl (Or.inr rfl) (aZ bp ai (aF ar (hr.mono (by decide)) (by rfl) (aa (ao 0) (aa (ao 1) ab)))))
 (ae (au (i:=3) bX.nd rfl (Or.inr rfl) (aF gC (hr.mono (by decide)) (by rfl) (aa (ao 0) (aa (ao 2) ab))))
 (ae (au (i:=4) bX.nd rfl (Or.inr rfl) (bC ab))
 (ae (au (i:=5) bX.nd rfl (Or.inr rfl) (bC ab))
 (ae (cD B1 rfl (aN rfl T.range (aa (ao 2) ab)) (bu (i:=6) bX.nd rfl (Or.inl rfl))
 (ae (au (i:=7) bX.nd rfl (Or.inl rfl) (aA (Ju rfl) (by rfl) T.min (by decide+kernel) (aa ai (aa (aF ar (hr.mono (by decide)) (by rfl) (aa (ao 0) (aa (aZ bp ai (JD rfl (by rfl) T.max (ao 4))) ab))) ab))))
 (ae (au (i:=8) bX.nd rfl (Or.inl rfl) (aZ eZ (bC (aa (bC ab) ab)) (bI mQ (by rfl) T.int (by decide+kernel) (aa (fS uM (ao 7) ai (aH _)) ab))))
 (ae (cD B1 rfl (aN rfl T.range (aa (ao 7) ab)) (bu (i:=9) bX.nd rfl (Or.inr rfl))
 (ae (cY (i:=10) bX.nd rfl (Or.inl rfl) (tgs:=["_law_g"]) (fr:=[9,4]) ⟨aS (by kernel_rfl),rfl,(λ _ _ h=>h),(aN rfl T.range (aa (ao 6) ab)),(aG (λ _ _ _ _ _=>(aD (i:=0) (show(["_law_g","_law_one","_law_sizes"]:List Str).Nodup by decide+kernel) rfl (Or.inl rfl))) (by decide)),(λ _ _ _ _ _=>(gJ (aK (cu hr.units) (aV aL (ao 2) (ao 0) (λ _ _=>rfl)) (ao 1) (aH _)))),(λ _ _ _ _ _=>(bC (aa (ao 0) ab)))⟩)
 (ak (bV (oR (aK (OI hr.units) (ao 10) (bC ab) (aH _)) (kx (zZ (aK uM (ao 9) ai (aH _)) (tX (aK (cu hr.units) (aF ar (hr.mono (by decide)) (by rfl) (aa (ao 0) (aa ai ab))) ai (aH _)))).pt)).pt
 (ak (bB (cI i7 i4 i6 bb (ao 8) (aa (aV aL (ao 10) (aF ar (hr.mono (by decide)) (by rfl) (aa (ao 0) (aa (aA bN (by rfl) T.len (by decide+kernel) (aa (ao 10) ab)) ab))) (λ _ _=>rfl)) ab))))
 bf))))
 (ae (bB (cI i7 i4 i6 bb (ao 4) (aa (ao 7) ab)))
 (ak (bB (cI i7 i4 i6 bb (ao 5) (aa (aF eQ (hr.mono (by decide)) (by rfl) (aa (dq (tgs:=["_law_row"]) (fr:=[2]) ⟨aS (by kernel_rfl),rfl,(λ _ _ h=>h),(bK (ao 8)),(aG (λ _ _ _ _ _=>(aD (i:=0) (show(["_law_row","_law_many"]:List Str).Nodup by decide+kernel) rfl (Or.inl rfl))) (by decide)),(λ _ _ _ _ _=>aP),(λ _ _ _ _ _=>(aF fO (hr.mono (by decide)) (by rfl) (aa (ao 0) (aa (ao 1) ab))))⟩) ab)) ab)))))))))
 (ak (aQ (cE (aa (dX bx bU (by rfl) T.tuple (by decide+kernel) (tgs:=["_law_h"]) (fr:=[3,5]) ⟨aS (by kernel_rfl),rfl,(λ _ _ h=>h),(aN rfl T.range (aa (ao 2) ab)),(aG (λ _ _ _ _ _=>(aD (i:=0) (show(["_law_h","_law_names_here","_law_options_here"]:List Str).Nodup by decide+kernel) rfl (Or.inl rfl))) (by decide)),(λ _ _ _ _ _=>aP),(λ _ _ _ _ _=>(cE (aa (aV aL (ao 1) (ao 0) (λ _ _=>rfl)) (aa (aV aL (ao 2) (ao 0) (λ _ _=>rfl)) ab))))⟩) (aa (ao 4) ab)))))))))),?_⟩
  walk_at "rd";refine⟨a,cc,m,rfl,hF,by omega,by omega,λ d o h0 h1 oF=>?_⟩;have F1:Fl a cc M _:=Fl.pick oF;generalize ah M a o=M1 at*;obtain⟨n,en⟩:∃n:Nat,1+d=(n:Int):=⟨(1+d).toNat,by omega⟩;walk_at "rd";rw[en];refine⟨a,cc,n,rfl,F1.aI,by omega,λ p zs M2 hz hp tO F2=>?_⟩;have F3:=F1.trans F2;have tN:=(F1.aI.ne hp).1;walk_at "rd";refine⟨by decide,λ s hs=>?_⟩;have UR:=(F3.aI.ne hs).1;have F4:=F3.trans (Fl.put (o:=.lst []) F3.aI hs);have S_:M s=none:=by
   cases z:M s with
   |none=>rfl
   |some u=>rw[F3.mv s u UR z]at hs;cases hs
  have HB:=a_ tO hs;have tO:ah M2 s (.lst []) p=some (.lst (zs.map D.str)):=by rw[aj HB];exact tO
  have TN:ah M2 s (.lst []) s=some (.lst (([]:List Int).map D.int)):=af;generalize ah M2 s (.lst [])=M3 at*;walk_at "rd";refine⟨by decide,λ o ho=>?_⟩;have HD:=(F4.aI.ne ho).1;have Rm:M o=none:=by
   cases z:M o with
   |none=>rfl
   |some u=>rw[F4.mv o u HD z]at ho;cases ho
  have CM:=a_ tO ho;have Ri:=a_ TN ho;have NN:Nn a p s o M:=⟨tN,UR,HD,HB,CM,Ri,S_,Rm⟩;have N0:Nm a cc p s o zs [] [] M (ah M3 o (.lst [])):=⟨F4.trans (Fl.put F4.aI ho),by rw[aj CM];exact tO,by rw[aj Ri];exact TN,af⟩;generalize ah M3 o (.lst [])=M4 at*;walk_at "rd";refine⟨bL (by omega) (by omega),?_⟩;rw[w6];refine eh (λ j δ M'=>∃(v6 v7 v8 v9 v10:Option D) (jl:List Int) (bj:List (List Row)),δ=[some (.ref a),some (.int m),some (.int n),some (.ref p),some (.ref s),some (.ref o),v6,v7,v8,v9,v10]/\Nm a cc p s o zs jl bj M M'/\jl.length=j/\(∀x∈jl,0<=x/\x<=4)/\bj.length=j/\(∀i os,bj[i]?=some os->os.length<=20/\∀r∈os,g_ n i r)) ⟨none,none,none,none,none,[],[],rfl,N0,rfl,(λ x h=>by cases h),rfl,(λ i os h=>by simp at h)⟩ (λ j d δ M' hd h=>?_) (λ δ M' h=>?_)
  ·obtain⟨v6,v7,v8,v9,v10,jl,bj,rfl,N1,Ea,hsz,u_,xg⟩:=h;obtain⟨hj,rfl⟩:=bQ hd;have YJ:=wO (b:=4) (by decide) λ x hx=>(hsz x hx).2;have Wz:=rW λ x hx=>(hsz x hx).1;have TN:=N1.sz;walk_at "rd";generalize gY 0 jl=mx at*;refine⟨a,cc,2+mx,rfl,N1.fl.aI,by omega,by omega,λ d1 o1 Vq Vp xj=>?_⟩;have N1:=N1.on NN (Fl.pick xj);generalize ah M' a o1=M5 at*;walk_at "rd";have S7:0<=(if d1 < 4 then d1 else 4)/\(if d1 < 4 then d1 else 4)<=4:=by split <;> omega
   generalize(if d1 < 4 then d1 else 4)=z at*;refine⟨by decide,λ p0 mY=>?_⟩;have f0:=N1.free mY;have N1:=N1.new NN mY (x:=.lst []);have g0:ah M5 p0 (.lst []) p0=some (.lst (([]:List Int).map D.int)):=af;generalize ah M5 p0 (.lst [])=M6 at*;walk_at "rd";refine⟨by show 1<=sizeLine;decide,λ p1 mz=>?_⟩;have g1:=a_ g0 mz;have N1:=N1.new NN mz (x:=.lst [.ref p0]);have g0:ah M6 p1 (.lst [.ref p0]) p0=some (.lst (([]:List Int).map D.int)):=by rw[aj g1];exact g0
   have g1:ah M6 p1 (.lst [.ref p0]) p1=some (.lst [.ref p0]):=af;generalize ah M6 p1 (.lst [.ref p0])=M7 at*;walk_at "rd";have ht:(0:Int)<=(if decide (0 < z)=true then 1 else 0)/\(if decide (0 < z)=true then(1:Int)else 0)<=1:=by split <;> omega
   generalize(if decide (0 < z)=true then(1:Int)else 0)=t at*;refine AX g1 (by omega) (by omega) λ r hr=>?_;have fr:=N1.free hr;have N1:=N1.new NN hr (x:=.lst (List.replicate t.toNat (.ref p0)));have gr:ah M7 r (.lst (List.replicate t.toNat (.ref p0))) r=some (.lst ((List.replicate t.toNat p0).map D.ref)):=by rw[af,map_replicate]
   have R0:cQ a j (ah M7 r (.lst (List.replicate t.toNat (.ref p0)))) (List.replicate t.toNat p0):=λ q hq=>by rw[eq_of_mem_replicate hq];exact⟨f0.1,[],by rw[aj (a_ g0 hr)];exact g0,by decide,λ x h=>by cases h⟩
   have f1:∀q∈List.replicate t.toNat p0,q≠s:=λ q hq=>by rw[eq_of_mem_replicate hq];exact J6 f0.2.2.1
   have l0:(List.replicate t.toNat p0).length<=1:=by rw[k7];omega
   generalize List.replicate t.toNat p0=qs at*;generalize ah M7 r (.lst (List.replicate t.toNat (.ref p0)))=M8 at*;walk_at "rd";refine⟨bL (by omega) (by omega),?_⟩;refine eh (λ i δ M'=>∃(v9 v10:Option D) (qs:List Addr),δ=[some (.ref a),some (.int m),some (.int n),some (.ref p),some (.ref s),some (.ref o),some (.int (0+(j:Nat))),some (.int z),some (.ref r),v9,v10]/\Nm a cc p s o zs jl bj M M'/\M' r=some (.lst (qs.map D.ref))/\cQ a j M' qs/\(∀q∈qs,q≠s)/\qs.length<=1+i) ⟨v9,v10,qs,rfl,N1,gr,R0,f1,l0⟩ (λ i d δ M' hd h=>?_) (λ δ M' h=>?_)
   ·obtain⟨v9,v10,qs,rfl,N1,gr,R1,f1,l1⟩:=h;obtain⟨hi,rfl⟩:=bQ hd;walk_at "rd";refine⟨bL (by omega) (by omega),?_⟩;rw[show(0+(j:Int)).toNat=j by omega];refine fP (λ i acc M'=>∃gs:List Addr,acc=gs.map D.ref/\Nm a cc p s o zs jl bj M M'/\M' r=some (.lst (qs.map D.ref))/\cQ a j M' qs/\cQ a j M' gs/\(∀q∈gs,q≠r/\q≠s)/\gs.length<=i) ⟨[],rfl,N1,gr,R1,cQ.nil,(λ q h=>by cases h),G5 _⟩ (λ i acc M' hi h=>?_) (λ y d acc M' hd h=>?_) (λ acc M' h=>?_)
    ·obtain⟨gs,rfl,N2,g2,R2,S2,Ed,l2⟩:=h;rw[aM]at hi;rw[B5];exact small (by omega)
    ·obtain⟨gs,rfl,N2,g2,R2,S2,Ed,l2⟩:=h;obtain⟨hg,rfl⟩:=bQ hd;walk_at "rd";refine bo N2.sz (d:=.int (jl.getD y 0)) (by rw[D4];exact gG (by omega)) ?_;walk_at "rd";refine aJ (λ _=>?_) (λ _=>?_)
     ·walk_at "rd";refine⟨by show 1<=sizeLine;decide,λ q hq=>⟨gs++[q],by rw[B7];rfl,N2.new NN hq,by rw[aj (a_ g2 hq)];exact g2,R2.new hq,(S2.new hq).add (N2.free hq).1 (hs:=[(y:Int)]) ?_ (by show 1<=4;decide) (λ x hx=>?_),λ x hx=>?_,by rw[p6,k4];omega⟩⟩
      ·rw[af,D4];rfl
      ·rw[r6.mp hx];omega
      ·rcases B6.mp hx with e|e
       ·exact Ed x e
       ·rw[r6.mp e];exact⟨J6 (a_ g2 hq),J6 (N2.free hq).2.2.1⟩
     ·exact⟨gs,rfl,N2,g2,R2,S2,Ed,by omega⟩
    ·obtain⟨gs,rfl,N2,g2,R2,S2,Ed,l2⟩:=h;rw[aM]at l2;intro t ht;have S6:=(N2.free ht).1;have N3:=N2.new NN ht (x:=.lst (gs.map D.ref));have g3:ah M' t (.lst (gs.map D.ref)) r=some (.lst (qs.map D.ref)):=by rw[aj (a_ g2 ht)];exact g2
     have R3:=R2.new ht (o:=.lst (gs.map D.ref));have S3:=S2.new ht (o:=.lst (gs.map D.ref));have gt:ah M' t (.lst (gs.map D.ref)) t=some (.lst (gs.map D.ref)):=af;generalize ah M' t (.lst (gs.map D.ref))=M8 at*;walk_at "rd";refine⟨by decide,λ u hu=>?_⟩;have N4:=N3.new NN hu (x:=.lst []);have g4:ah M8 u (.lst []) r=some (.lst (qs.map D.ref)):=by rw[aj (a_ g3 hu)];exact g3
     have R4:=R3.new hu (o:=.lst []);have S4:=S3.new hu (o:=.lst []);have gt:ah M8 u (.lst []) t=some (.lst (gs.map D.ref)):=by rw[aj (a_ gt hu)];exact gt
     refine Kq gt af (λ q hq=>let⟨_,hs,h,_⟩:=S4 q hq;⟨hs,h⟩) ?_;generalize ah M8 u (.lst [])=M9 at*;cases gs with
     |nil=>walk_at "rd";exact⟨_,_,qs,rfl,N4,g4,R4,f1,by omega⟩
     |cons q0 gs=>
      walk_at "rd";refine aJ (λ _=>?_) (λ _=>?_)
      ·walk_at "rd";refine⟨⟨rfl,_,g4⟩,?_⟩;walk_at "rd";rw[B5];refine⟨a,cc,((q0::gs).length:Nat),rfl,N4.fl.aI,by rw[y4];omega,by omega,λ d2 o2 NF Qc PB=>?_⟩;have P6:=Fl.pick PB;have N4:=N4.on NN P6;have R4:=R4.keep P6.mv;have S4:=S4.keep P6.mv;have g4:=P6.mv _ _ fr.1 g4;have gt:=P6.mv _ _ S6 gt;generalize ah M9 a o2=Uj at*;obtain⟨y,rfl⟩:∃y:Nat,d2=(y:Int):=⟨d2.toNat,by omega⟩;have hy:y < (q0::gs).length:=by omega
       have hm:(q0::gs)[y]∈q0::gs:=A1 hy;obtain⟨qa,hs,hq,hh,hx⟩:=S4 _ hm;have O_:=Ed _ hm;refine bo gt (d:=.ref (q0::gs)[y]) (aR (by rw[u9,i5 hy];rfl)) ?_;generalize(q0::gs)[y]=q at*;walk_at "rd";refine cA g4 (by rw[B5];exact q8 (show qs.length<=100 by omega) (by decide)) ?_;walk_at "rd";exact⟨_,_,qs++[q],rfl,N4.own hF fr,by rw[af,B7];rfl,(R4.put g4).add qa (by rw[aj O_.1];exact hq) hh hx,(λ x hx=>(B6.mp hx).elim (f1 x) λ e=>by rw[r6.mp e];exact O_.2),by rw[p6,k4];omega⟩
      ·walk_at "rd";refine⟨a,cc,2,rfl,N4.fl.aI,by decide,by decide,λ d3 o3 Y0 YZ Xh=>?_⟩;have P7:=Fl.pick Xh;have N4:=N4.on NN P7;have R4:=R4.keep P7.mv;have S4:=S4.keep P7.mv;have g4:=P7.mv _ _ fr.1 g4;have gt:=P7.mv _ _ S6 gt;generalize ah M9 a o3=M9 at*;walk_at "rd";refine aJ (λ _=>?_) (λ _=>?_)
       ·walk_at "rd";refine⟨⟨rfl,_,g4⟩,?_⟩;walk_at "rd";rw[B5];refine⟨a,cc,((q0::gs).length:Nat),rfl,N4.fl.aI,by rw[y4];omega,by omega,λ d2 o2 NF Qc PB=>?_⟩;have P6:=Fl.pick PB;have N4:=N4.on NN P6;have R4:=R4.keep P6.mv;have S4:=S4.keep P6.mv;have g4:=P6.mv _ _ fr.1 g4;have gt:=P6.mv _ _ S6 gt;generalize ah M9 a o2=Uj at*;obtain⟨y,rfl⟩:∃y:Nat,d2=(y:Int):=⟨d2.toNat,by omega⟩;have hy:y < (q0::gs).length:=by omega
        have hm:(q0::gs)[y]∈q0::gs:=A1 hy;obtain⟨qa,hs,hq,hh,hx⟩:=S4 _ hm;have O_:=Ed _ hm;refine bo gt (d:=.ref (q0::gs)[y]) (aR (by rw[u9,i5 hy];rfl)) ?_;generalize(q0::gs)[y]=q at*;walk_at "rd";refine cA g4 (by rw[B5];exact q8 (show qs.length<=100 by omega) (by decide)) ?_;walk_at "rd";exact⟨_,_,qs++[q],rfl,N4.own hF fr,by rw[af,B7];rfl,(R4.put g4).add qa (by rw[aj O_.1];exact hq) hh hx,(λ x hx=>(B6.mp hx).elim (f1 x) λ e=>by rw[r6.mp e];exact O_.2),by rw[p6,k4];omega⟩
       ·walk_at "rd";exact⟨_,_,qs,rfl,N4,g4,R4,f1,by omega⟩
   ·obtain⟨v9,v10,qs,rfl,N1,gr,R1,f1,l1⟩:=h;rw[aM]at l1;walk_at "rd";refine⟨⟨rfl,_,N1.sz⟩,?_⟩;walk_at "rd";refine cA N1.sz (by rw[B5];exact q8 (show jl.length<=100 by omega) (by decide)) ?_;have N2:Nm a cc p s o zs (jl++[z]) bj M (ah M' s (.lst (jl.map D.int++[.int z]))):=⟨Fl.own N1.fl hF S_,by rw[aj HB];exact N1.np,by rw[af,B7];rfl,by rw[aj (J6 Ri)];exact N1.op⟩;have R2:cQ a j (ah M' s (.lst (jl.map D.int++[.int z]))) qs:=λ q hq=>by obtain⟨qa,hs,h,h2⟩:=R1 q hq;exact⟨qa,hs,by rw[aj (f1 q hq)];exact h,h2⟩
    have gr:ah M' s (.lst (jl.map D.int++[.int z])) r=some (.lst (qs.map D.ref)):=by rw[aj (J6 fr.2.2.1)];exact gr
    generalize ah M' s (.lst (jl.map D.int++[.int z]))=M9 at*;walk_at "rd";refine⟨⟨rfl,_,N2.op⟩,?_⟩;walk_at "rd";refine xI (ds:=qs.map D.ref) (λ i acc M'=>M'=M9/\∃os:List Row,acc=os.map row/\os.length<=i/\∀r∈os,g_ n j r) ⟨rfl,[],rfl,G5 _,λ r h=>by cases h⟩ (λ i acc M' hi h=>?_) (λ i acc M' hi h=>?_) (λ i d acc M' hd h=>?_) (λ acc M' h=>?_)
    ·obtain⟨rfl,_⟩:=h;exact gr
    ·obtain⟨rfl,os,rfl,o1,_⟩:=h;rw[B5]at hi ⊢;exact small (by omega)
    ·obtain⟨rfl,os,rfl,o1,o2⟩:=h;rw[u9]at hd;cases e:qs[i]? with
     |none=>rw[e]at hd;cases hd
     |some q=>
      rw[e]at hd;cases hd;obtain⟨my,hs,HI,hh,hx⟩:=R2 q (l4 e);walk_at "rd";refine⟨q,hs,n,rfl,HI,by omega,rfl,os++[jE hs n],by rw[B7];rfl,by rw[p6,k4];omega,λ r hr=>?_⟩;rcases B6.mp hr with z|z
      ·exact o2 r z
      ·rw[r6.mp z];exact rM hh hx
    ·obtain⟨rfl,os,rfl,o1,o2⟩:=h;rw[B5]at o1;intro p2 ik;have N3:=N2.new NN ik (x:=.lst (os.map row));walk_at "rd";refine⟨_,os,rfl,.inr ⟨p2,rfl,af⟩,by omega,λ r hr=>by rw[(o2 r hr).len];omega,λ out ho Wv=>?_⟩;generalize ah M' p2 (.lst (os.map row))=Y4 at*;walk_at "rd";refine cA N3.op (by rw[B5];exact q8 (show bj.length<=100 by omega) (by decide)) ?_;walk_at "rd";refine⟨_,_,_,_,_,jl++[z],bj++[out],rfl,⟨Fl.own N3.fl hF Rm,by rw[aj CM];exact N3.np,by rw[aj Ri];exact N3.sz,by rw[af,B7];rfl⟩,by rw[p6,k4,Ea],λ x hx=>?_,by rw[p6,k4,u_],wG xg (by omega) λ r hr=>by rw[u_];exact o2 r (ho r hr)⟩;rcases B6.mp hx with e|e
     ·exact hsz x e
     ·rw[r6.mp e];exact S7
  ·obtain⟨v6,v7,v8,v9,v10,jl,bj,rfl,N1,Ea,hsz,u_,xg⟩:=h;rw[aM]at u_;walk_at "rd";refine⟨bL (by omega) (by omega),?_⟩;rw[w6];refine cM (xs:=List.range n) (enc:=DX) (λ i=>mB (zs.getD i (Str.ofString ""),bj.getD i [])) (by simp;omega) (λ i x N hx hN=>?_) ?_
   ·have hi:=(g9.mp hx).1;have O2:x=i:=by rw[l9 (by simpa using hi)]at hx;exact(B0 hx).symm
    subst O2;rw[x6]at hi;walk_at "rd";refine bo N1.np (d:=.str (zs.getD x (Str.ofString ""))) (by rw[D4];exact aR (by rw[u9,i5 (by omega),c7,i5 (by omega)];rfl)) ?_;walk_at "rd";refine bo N1.op (d:=gx (bj.getD x [])) (by rw[D4];exact aR (by rw[u9,i5 (by omega),c7,i5 (by omega)];rfl)) ?_;walk_at "rd";exact⟨by show 2<=sizeLine;decide,hN⟩
   ·rw[qI hz u_];walk_at "rd";exact⟨by show 2<=sizeLine;decide,az (k n _ _ (jl.map Int.toNat) _ (by omega) (by omega) (xq (by omega) hz u_ xg) (by rw[B5,Ea,aM]) (λ x hx=>by obtain⟨y,hy,rfl⟩:=D7.mp hx;have:=hsz y hy;omega) S_ (by rw[N1.sz,rR λ x hx=>(hsz x hx).1]) N1.fl)⟩
end
abbrev nI(v:Nat):Int:=v
abbrev nd(v:Nat):D:=.int (v:Int)
def Au:fb:=λ ds M Q=>∃(p:Addr) (vs:List Nat),ds=[.ref p]/\M p=some (.lst (vs.map nd))/\vs.length<=1000/\Q (.int (Nq (vs.map nI))) M
theorem Hx(z:Nat)(zs:List Nat):inD (.int z) (zs.map nd)=some (decide ((z:Int)∈zs.map nI)):=by
 have h1:∀zs:List Nat,hV (zs.map nd)=some (zs.map λ v=>V.int (nI v)):=λ zs=>by
  induction zs with
  |nil=>rfl
  |cons y zs ih=>rw[C9,C9];unfold hV;rw[ih];rfl
 have h2:CA (.int z) (zs.map λ v=>V.int (nI v))=decide ((z:Int)∈zs.map nI):=by
  induction zs with
  |nil=>rfl
  |cons y zs ih=>unfold CA at ih ⊢;rw[C9,any_cons,ih,C9];show(decide ((y:Int)=z)||_)=_;rw[A5,Bool.or_eq_true,w5,w5,w5,D1];exact⟨λ h=>h.elim (λ e=>.inl e.symm) .inr,λ h=>h.elim (λ e=>.inl e.symm) .inr⟩
 unfold inD;rw[h1];show some (CA (.int z) _)=_;rw[h2]
def IC:fb:=λ ds M Q=>∃(n:Nat) (g:List fH),ds=[sr g]/\vM n g/\∀(p:Addr) (M':Mem),M p=none->M' p=some (.lst ((jY g n).map nd))->Ext M M'->Q (.ref p) M'
def Ar:fb:=λ ds M Q=>∃(p:Addr) (vs:List Nat) (as:Row),ds=[.ref p,row as]/\M p=some (.lst (vs.map nd))/\as.length<=vs.length/\as.length<=1000/\Q (.int (xd as vs)) M
theorem zm{cs:List Int}{vs:List Nat}{i:Nat}{x:Int×Nat}(h:(cs.zip vs)[i]?=some x):((cs.zip vs).take (i+1)).foldl xV 0=xV (((cs.zip vs).take i).foldl xV 0) x:=by rw[take_one h,foldl_append];rfl
theorem HP{as:Row}{vs:List Nat}(hl:as.length<=vs.length){i:Nat}{d:D}(h:(dJ (as.map D.int))[i]?=some d):∃x:Int×Nat,(as.zip vs)[i]?=some x/\d=.tup [.int (i:Int),.int x.1]/\vs[i]?=some x.2:=by
 obtain⟨hi,rfl⟩:=kT h;rw[B5]at hi;refine⟨(as[i],vs[i]'(by omega)),?_,?_,?_⟩
 ·rw[i5 (by rw[length_zip];omega)];simp
 ·simp[c7,hi]
 ·rw[i5]
section
variable {P:Program}{w:World}{K:K2}{mg:Str->Option Value}{base:Heap}
theorem dZ:aO ["_law_values","_law_found"] ["_law_values"] (ay (top 16)):=⟨rfl,rfl,rfl,by decide+kernel,rfl,by decide+kernel,by decide+kernel⟩
theorem BK{f:Addr}{fd:FuncData}(F:f_ K "_law_left_out" "_law_left_out" (top 16) f fd)(T:iE K mg):bZ P w K mg base fc 1 f fd ["_law_values"] (cx K Au):=by
 refine iS F dZ (λ ds M Q h=>?_) (λ c_ A outer s H E ds M Q hr h=>?_)
 ·obtain⟨p,vs,rfl,_⟩:=h;rfl
 ·obtain⟨p,vs,rfl,hM,hl,k⟩:=h;refine⟨_,(ae (au (i:=1) dZ.nd rfl (Or.inl rfl) ai)
 (ae (cR B1 (aK (wK hr.units) (ao 1) (ao 0) rfl)
 (ak (au (i:=1) dZ.nd rfl (Or.inl rfl) (aZ bp (ao 1) ai))))
 (ak (aQ (ao 1))))),?_⟩
  walk_at "rx";refine cU ⟨λ m δ M'=>M'=M/\∃j:Nat,δ=[some (.ref p),some (.int j)]/\m=vs.length+1 - j/\∀i:Nat,i < j->(i:Int)∈vs.map nI,⟨_,rfl,0,rfl,rfl,λ i h=>absurd h (by omega)⟩,?_⟩;rintro m δ M' ⟨rfl,j,rfl,rfl,hj⟩;walk_at "rx";refine wu hM (Hx j vs) ?_;refine gO (λ qG=>?_) (λ qG=>?_)
  ·have qG:(j:Int)∈vs.map nI:=by simpa using qG
   have Po:∀i:Nat,i < j+1->(i:Int)∈vs.map nI:=λ i hi=>by
    by_cases e:i < j
    ·exact hj i e
    ·have:i=j:=by omega
     subst this;exact qG
   have hle:=uO Po;rw[B5]at hle;refine⟨λ δ' M2=>M2=M'/\δ'=[some (.ref p),some (.int ((j+1:Nat):Int))],?_,?_⟩
   ·rintro δ' M2 ⟨rfl,rfl⟩;exact⟨vs.length+1 - (j+1),by omega,rfl,j+1,rfl,rfl,Po⟩
   ·walk_at "rx";exact⟨rfl,rfl⟩
  ·have qG:(j:Int)∉vs.map nI:=by simpa using qG
   walk_at "rx";rw[(BW _).uniq ⟨qG,hj⟩]at k;exact az k
theorem cT:aO ["_law_values","_law_counts_here","_law_found","_law_h","_law_n"] ["_law_values","_law_counts_here"] (ay (top 17)):=⟨rfl,rfl,rfl,by decide+kernel,rfl,by decide+kernel,by decide+kernel⟩
theorem GI{f:Addr}{fd:FuncData}(F:f_ K "_law_number" "_law_number" (top 17) f fd)(T:iE K mg):bZ P w K mg base fc 1 f fd ["_law_values","_law_counts_here"] (cx K Ar):=by
 refine iS F cT (λ ds M Q h=>?_) (λ c_ A outer s H E ds M Q hr h=>?_)
 ·obtain⟨p,vs,as,rfl,_⟩:=h;rfl
 ·obtain⟨p,vs,as,rfl,hM,hv,hl,k⟩:=h;refine⟨_,(ae (au (i:=2) cT.nd rfl (Or.inl rfl) ai)
 (ae (cD B1 rfl (gL rfl T.enumerate (aa (ao 1) ab)) (jh (n:=2) rfl (cq (bu (i:=3) cT.nd rfl (Or.inl rfl)) (cq (bu (i:=4) cT.nd rfl (Or.inl rfl)) gM)))
 (ak (bV (aK (cu hr.units) (aZ fm (ao 4) ai) ai (aH _))
 (ak (au (i:=2) cT.nd rfl (Or.inl rfl) (aZ BP (ao 2) (aV aL (ao 0) (ao 3) (λ _ _=>rfl)))))
 bf)))
 (ak (aQ (ao 2))))),?_⟩
  unfold row;walk_at "rx";refine eh (λ i δ M'=>M'=M/\∃v3 v4:Option D,δ=[some (.ref p),some (row as),some (.int (((as.zip vs).take i).foldl xV 0:Nat)),v3,v4]) ⟨rfl,none,none,rfl⟩ (λ i d δ M' hd h=>?_) (λ δ M' h=>?_)
  ·obtain⟨rfl,v3,v4,rfl⟩:=h;obtain⟨x,e,rfl,e2⟩:=HP hv hd;have st:=zm e;walk_at "rx";refine aJ (λ ho=>?_) (λ ho=>?_)
   ·have st:((as.zip vs).take (i+1)).foldl xV 0=((as.zip vs).take i).foldl xV 0^^^x.2:=by rw[st];unfold xV;rw[J8 ho]
    walk_at "rx";refine bo hM (d:=nd x.2) (aR (by rw[u9,e2];rfl)) ?_;walk_at "rx";refine⟨rfl,some (.int (i:Int)),some (.int x.1),?_⟩;rw[st,<- iy];rfl
   ·have st:((as.zip vs).take (i+1)).foldl xV 0=((as.zip vs).take i).foldl xV 0:=by rw[st];unfold xV;rw[J9 ho]
    walk_at "rx";refine⟨rfl,some (.int (i:Int)),some (.int x.1),?_⟩;rw[st];rfl
  ·obtain⟨rfl,v3,v4,rfl⟩:=h;rw[cL,B5,take_of_length_le (by rw[length_zip];omega),NJ];walk_at "rx";exact az k
theorem dw:aO ["_law_game_here","_law_values","_law_name_here","_law_options_here"] ["_law_game_here"] (ay (top 18)):=⟨rfl,rfl,rfl,by decide+kernel,rfl,by decide+kernel,by decide+kernel⟩
theorem GJ{f:Addr}{fd:FuncData}(F:f_ K "_law_numbers" "_law_numbers" (top 18) f fd)(T:iE K mg)(mO:bT P w K mg base 1 "_law_left_out" ["_law_values"] Au)(p_:bT P w K mg base 1 "_law_number" ["_law_values","_law_counts_here"] Ar):bZ P w K mg base fc 2 f fd ["_law_game_here"] (cx K IC):=by
 refine iS F dw (λ ds M Q h=>?_) (λ c_ A outer s H E ds M Q hr h=>?_)
 ·obtain⟨n,g,rfl,_⟩:=h;rfl
 ·obtain⟨n,g,rfl,G,k⟩:=h;have hfew:=G.cH;refine⟨_,(ae (au (i:=1) dw.nd rfl (Or.inr rfl) (bC ab))
 (ae (cD B1 rfl (bK (ao 0)) (jh (n:=2) rfl (cq (bu (i:=2) dw.nd rfl (Or.inl rfl)) (cq (bu (i:=3) dw.nd rfl (Or.inl rfl)) gM)))
 (ak (bB (cI i7 i4 i6 bb (ao 1) (aa (aF mO (hr.mono (by decide)) (by rfl) (aa (dq (tgs:=["_law_counts_here"]) (fr:=[1]) ⟨aS (by kernel_rfl),rfl,(λ _ _ h=>h),(bK (ao 3)),(aG (λ _ _ _ _ _=>(aD (i:=0) (show(["_law_counts_here","_law_values"]:List Str).Nodup by decide+kernel) rfl (Or.inl rfl))) (by decide)),(λ _ _ _ _ _=>aP),(λ _ _ _ _ _=>(aF p_ (hr.mono (by decide)) (by rfl) (aa (ao 1) (aa (iH qZ (ao 0) iG (iF (aA bN (by rfl) T.len (by decide+kernel) (aa (ao 1) ab)))) ab))))⟩) ab)) ab)))))
 (ak (aQ (ao 1))))),?_⟩
  walk_at "rx";intro p hp;unfold sr;walk_at "rx";refine eh (λ i δ M'=>∃(v1 v2:Option D),δ=[some (sr g),some (.ref p),v1,v2]/\M' p=some (.lst ((jY g i).map nd))/\Ext M M') ⟨none,none,rfl,af,yT (λ b o e=>e) hp _⟩ (λ i d δ M' hd h=>?_) (λ δ M' h=>?_)
  ·obtain⟨v1,v2,rfl,h3,hE⟩:=h;rw[u9]at hd;have hi:i < g.length:=by refine y6 λ z=>?_;rw[k8 z]at hd;cases hd
   have iW:d=mB (g.getD i mY):=by rw[i5 hi]at hd;rw[c7,i5 hi];exact(B0 hd).symm
   subst iW;have qG:i < n:=by rw[<- G.len];exact hi
   obtain⟨ho,CH⟩:=G.at qG;have step:jY g (i+1)=jY g i++[Nq ((g.getD i mY).2.map λ o=>(xd o (jY g i):Int))]:=rfl;generalize g.getD i mY=hp at*;obtain⟨nm,os⟩:=hp;have ho:os.length<=63:=ho;have CH:∀r∈os,r.length=n:=CH;unfold mB;walk_at "rx";refine⟨⟨rfl,_,h3⟩,?_⟩;walk_at "rx";refine cM (xs:=os) (enc:=row) (λ o=>nd (xd o (jY g i))) (by omega) (λ j o N ho hN=>?_) ?_
   ·walk_at "rx";refine rj (by omega) ?_;have hz:=CH o (l4 ho);have e:D.tup ((o.map D.int).take (((jY g i).map nd).length:Int).toNat)=row (o.take (jY g i).length):=by rw[B5,w6];unfold row;rw[map_take]
    rw[e];refine⟨p,jY g i,o.take (jY g i).length,rfl,h3,by rw[A0];omega,by rw[A0];omega,?_⟩;rw[vQ];exact hN
   ·intro q hq;have qE:=a_ h3 hq;walk_at "rx";refine⟨q,os.map λ o=>xd o (jY g i),rfl,by rw[af,D8];rfl,by rw[B5];omega,?_⟩;rw[D8];walk_at "rx";refine cA (by rw[aj qE];exact h3) (by rw[B5,fM];exact q8 (show i<=1000 by omega) (by decide)) ?_;walk_at "rx";refine⟨_,_,rfl,?_,(hE.new hq _).own hp⟩;rw[af,step,B7];rfl
  ·obtain⟨v1,v2,rfl,h3,hE⟩:=h;rw[B5,G.len]at h3;walk_at "rx";exact az (k p _ hp h3 hE)
end
def IF:fb:=λ ds M Q=>∃(v lo w:Nat),ds=[.int v,.int lo,.int w]/\0 < w/\Q (.int (cnt v lo w)) M
def IA(B H:Nat):fb:=λ ds M Q=>∃(f c:Addr),ds=[.ref f]/\Flow M f c/\∀(m h:Nat) (rows:List Row) (ls:Row) (M':Mem),km m h rows->m<=B->h<=H->f' m ls->Fl f c M M'->Q (cS rows ls) M'
section
variable {P:Program}{w:World}{K:K2}{mg:Str->Option Value}{base:Heap}
theorem lN:aO ["_law_value","_law_low","_law_wide"] ["_law_value","_law_low","_law_wide"] (ay (top 6)):=⟨rfl,rfl,rfl,by decide+kernel,rfl,by decide+kernel,by decide+kernel⟩
theorem LR{f:Addr}{fd:FuncData}(F:f_ K "_law_counted" "_law_counted" (top 6) f fd)(T:iE K mg):bZ P w K mg base fc 1 f fd ["_law_value","_law_low","_law_wide"] (cx K IF):=by
 refine iS F lN (λ ds M Q h=>?_) (λ c_ A outer s H E ds M Q hr h=>?_)
 ·obtain⟨v,lo,w,rfl,_⟩:=h;rfl
 ·obtain⟨v,lo,w,rfl,hw,k⟩:=h;refine⟨_,(ae (bV (aK lZ (ao 0) (aZ bp (ao 1) (ao 2)) (aH _))
 (ak (aQ (ao 0)))
 bf)
 (ak (aQ (aZ bp (ao 1) (aZ fm (aZ rN (ao 0) (ao 1)) (ao 2)))))),?_⟩
  walk_at "rx";refine aJ (λ hl=>?_) (λ hl=>?_)
  ·walk_at "rx";unfold cnt at k;rw[J8 (by omega)]at k;exact az k
  ·have Jd:(0:Int) < w:=by omega
   walk_at "rx";unfold cnt at k;rw[J9 (by omega)]at k;rw[show(lo:Int)+((v:Int) - (lo:Int)) % (w:Int)=((lo+(v - lo) % w:Nat):Int) by
    rw[Int.natCast_add,Int.natCast_emod,Int.natCast_sub (by omega)]]
   exact az k
end
def ug:fb:=λ ds M Q=>∃(f c:Addr) (n:Nat),ds=[.ref f,.int n]/\Flow M f c/\n<=6/\∀(m:Nat) (rows:List Row) (ls:Row) (M':Mem),km m n rows->m<=16->f' m ls->Fl f c M M'->Q (cS rows ls) M'
section
variable {P:Program}{w:World}{K:K2}{mg:Str->Option Value}{base:Heap}
theorem aW:aO ["_law_flow_here","_law_many","_law_counters","_law_weights","_law_states","_law_rows","_law_row","_law_h","_law_couples","_law_then"] ["_law_flow_here","_law_many"] (ay (top 7)):=⟨rfl,rfl,rfl,by decide+kernel,rfl,by decide+kernel,by decide+kernel⟩
theorem GQ{f:Addr}{fd:FuncData}(F:f_ K "_law_any_table" "_law_any_table" (top 7) f fd)(T:iE K mg)(ar:bT P w K mg base 1 "_law_pick" ["_law_flow_here","_law_many"] eN)(nJ:bT P w K mg base 1 "_law_counted" ["_law_value","_law_low","_law_wide"] IF):bZ P w K mg base fc 2 f fd ["_law_flow_here","_law_many"] (cx K ug):=by
 refine iS F aW (λ ds M Q h=>?_) (λ c_ A outer s H E ds M Q hr h=>?_)
 ·obtain⟨f,c,n,rfl,_⟩:=h;rfl
 ·obtain⟨f,cc,n,rfl,hF,hn,k⟩:=h;refine⟨_,(ae (au (i:=2) aW.nd rfl (Or.inr rfl) (bC (aa (cE (aa (aF ar (hr.mono (by decide)) (by rfl) (aa (ao 0) (aa ai ab))) (aa (aZ bp ai (aF ar (hr.mono (by decide)) (by rfl) (aa (ao 0) (aa ai ab)))) ab))) ab)))
 (ae (bV (aK (cu hr.units) (aF ar (hr.mono (by decide)) (by rfl) (aa (ao 0) (aa ai ab))) ai (aH _))
 (ak (au (i:=2) aW.nd rfl (Or.inr rfl) (dq (tgs:=["_law_k"]) (fr:=[0]) ⟨aS (by kernel_rfl),rfl,(λ _ _ h=>h),(aN rfl T.range (aa ai ab)),(aG (λ _ _ _ _ _=>(aD (i:=0) (show(["_law_k","_law_flow_here"]:List Str).Nodup by decide+kernel) rfl (Or.inl rfl))) (by decide)),(λ _ _ _ _ _=>aP),(λ _ _ _ _ _=>(cE (aa (aF ar (hr.mono (by decide)) (by rfl) (aa (ao 1) (aa ai ab))) (aa (aZ bp ai (aF ar (hr.mono (by decide)) (by rfl) (aa (ao 1) (aa ai ab)))) ab))))⟩)))
 bf)
 (ae (cY (i:=3) aW.nd rfl (Or.inl rfl) (tgs:=["_law_h"]) (fr:=[0,2]) ⟨aS (by kernel_rfl),rfl,(λ _ _ h=>h),(aN rfl T.range (aa (ao 1) ab)),(aG (λ _ _ _ _ _=>(aD (i:=0) (show(["_law_h","_law_flow_here","_law_counters"]:List Str).Nodup by decide+kernel) rfl (Or.inl rfl))) (by decide)),(λ _ _ _ _ _=>aP),(λ _ _ _ _ _=>(dq (tgs:=["_law_counter"]) (fr:=[1]) ⟨aS (by kernel_rfl),rfl,(λ _ _ h=>h),(bK (ao 2)),(aG (λ _ _ _ _ _=>(aD (i:=0) (show(["_law_counter","_law_flow_here"]:List Str).Nodup by decide+kernel) rfl (Or.inl rfl))) (by decide)),(λ _ _ _ _ _=>aP),(λ _ _ _ _ _=>(aF ar (hr.mono (by decide)) (by rfl) (aa (ao 1) (aa ai ab))))⟩))⟩)
 (ae (au (i:=4) aW.nd rfl (Or.inl rfl) (bC (aa (aZ eZ (cE (aa ai ab)) (aA bN (by rfl) T.len (by decide+kernel) (aa (ao 2) ab))) ab)))
 (ae (au (i:=5) aW.nd rfl (Or.inl rfl) (bC ab))
 (ae (cR B1 (aK lZ (aA bN (by rfl) T.len (by decide+kernel) (aa (ao 5) ab)) (aA bN (by rfl) T.len (by decide+kernel) (aa (ao 4) ab)) (aH _))
 (ae (au (i:=6) aW.nd rfl (Or.inl rfl) (bC ab))
 (ae (cD B1 rfl (aN rfl T.range (aa (ao 1) ab)) (bu (i:=7) aW.nd rfl (Or.inl rfl))
 (ae (au (i:=8) aW.nd rfl (Or.inl rfl) (JF rfl (by rfl) T.list (by rfl) T.zip (aa (aV aL (ao 4) (aA bN (by rfl) T.len (by decide+kernel) (aa (ao 5) ab)) (λ _ _=>rfl)) (aa (aV aL (ao 3) (ao 7) (λ _ _=>rfl)) (aa (ao 2) ab)))))
 (ae (au (i:=9) aW.nd rfl (Or.inl rfl) (dX bx bU (by rfl) T.tuple (by decide+kernel) (tgs:=["_law_value","_law_weight","_law_pair"]) (fr:=[]) ⟨aS (by kernel_rfl),rfl,(λ _ _ h=>h),(bK (ao 8)),(z_ (λ _ _ _ _ _=>(lW rfl (cV (aD (i:=0) (show(["_law_value","_law_weight","_law_pair"]:List Str).Nodup by decide+kernel) rfl (Or.inl rfl)) (cV (aD (i:=1) (show(["_law_value","_law_weight","_law_pair"]:List Str).Nodup by decide+kernel) rfl (Or.inl rfl)) (cV (aD (i:=2) (show(["_law_value","_law_weight","_law_pair"]:List Str).Nodup by decide+kernel) rfl (Or.inl rfl)) iQ))))) (by decide) (by decide) (by decide)),(λ _ _ _ _ _=>aP),(λ _ _ _ _ _=>(aF nJ (hr.mono (by decide)) (by rfl) (aa (aZ bp (ao 0) (ao 1)) (aa (aV aL (ao 2) ai (λ _ _=>rfl)) (aa (aV aL (ao 2) ai (λ _ _=>rfl)) ab)))))⟩))
 (ae (bV (aK (gy hr.units) (ao 9) (ao 4) rfl)
 (ak (bB (cI i7 i4 i6 bb (ao 4) (aa (ao 9) ab))))
 bf)
 (ak (bB (cI i7 i4 i6 bb (ao 6) (aa (cI i7 PySem.F.slot_list_index PySem.F.type_list_index (eD hr.units) (ao 4) (aa (ao 9) ab)) ab))))))))
 (ak (bB (cI i7 i4 i6 bb (ao 5) (aa (bI bx (by rfl) T.tuple (by decide+kernel) (aa (ao 6) ab)) ab)))))))
 (ak (aQ (cE (aa (bI bx (by rfl) T.tuple (by decide+kernel) (aa (ao 5) ab)) (aa (dX bx bU (by rfl) T.tuple (by decide+kernel) (tgs:=["_law_k"]) (fr:=[0]) ⟨aS (by kernel_rfl),rfl,(λ _ _ h=>h),(aN rfl T.range (aa (aA bN (by rfl) T.len (by decide+kernel) (aa (ao 5) ab)) ab)),(aG (λ _ _ _ _ _=>(aD (i:=0) (show(["_law_k","_law_flow_here"]:List Str).Nodup by decide+kernel) rfl (Or.inl rfl))) (by decide)),(λ _ _ _ _ _=>(gJ (aK (cu hr.units) (aF ar (hr.mono (by decide)) (by rfl) (aa (ao 1) (aa ai ab))) ai (aH _)))),(λ _ _ _ _ _=>(ao 0))⟩) ab))))))))))),?_⟩
  refine dO (λ δ' M'=>∃(pc:Addr) (cs:List (Nat×Nat)),δ'=[some (.ref f),some (.int n),some (.ref pc),none,none,none,none,none,none,none]/\jS cs/\M' pc=some (.lst (cs.map pD))/\pc≠f/\Fl f cc M M') (λ N hN=>?_) ?_
  ·walk_at "rx";refine⟨f,cc,4,rfl,hF,by decide,by decide,λ d1 o1 Eg NB oF=>?_⟩;have F1:Fl f cc M _:=Fl.pick oF;generalize ah M f o1=M1 at*;walk_at "rx";refine⟨f,cc,4,rfl,F1.aI,by decide,by decide,λ d2 o2 Vh Vg xo=>?_⟩;have F2:=F1.trans (Fl.pick xo);generalize ah M1 f o2=M2 at*;walk_at "rx";intro p hp;refine hN _ _ ⟨p,[(d1.toNat,(1+d2).toNat)],rfl,.inl ⟨_,_,rfl,by omega,by omega,by omega⟩,?_,(F2.aI.ne hp).1,F2.trans (Fl.put F2.aI hp)⟩;rw[af];show _=some (MO.lst [.tup [.int (d1.toNat:Int),.int ((1+d2).toNat:Int)]]);rw[show((d1.toNat:Nat):Int)=d1 by omega,show(((1+d2).toNat:Nat):Int)=1+d2 by omega]
  rintro δ' M' ⟨pc,cs,rfl,hc,qF,dj,F2⟩;refine dO (λ δ' M'=>∃(pc:Addr) (cs:List (Nat×Nat)),δ'=[some (.ref f),some (.int n),some (.ref pc),none,none,none,none,none,none,none]/\jS cs/\M' pc=some (.lst (cs.map pD))/\pc≠f/\Fl f cc M M') (λ N hN=>?_) ?_
  ·walk_at "rx";refine⟨f,cc,2,rfl,F2.aI,by decide,by decide,λ d1 o1 Eg NB oF=>?_⟩;have P1:=Fl.pick oF;have F3:=F2.trans P1;have qF:=P1.mv _ _ dj qF;generalize ah M' f o1=M3 at*;walk_at "rx";refine aJ (λ _=>?_) (λ _=>?_)
   ·walk_at "rx";refine⟨bL (by omega) (by omega),?_⟩;rw[eI];refine ir pD (λ ys M'=>Fl f cc M M'/\∀y∈ys,y.1<=2/\1<=y.2/\y.2<=2) (by decide) ⟨F3,λ y h=>by cases h⟩ (λ i x ys M' N hx hl hI hN=>?_) (λ cs M4 hl hI=>?_)
    ·walk_at "rx";refine⟨f,cc,3,rfl,hI.1.aI,by decide,by decide,λ d1 o1 Eg NB oF=>?_⟩;have F4:=hI.1.trans (Fl.pick oF);generalize ah M' f o1=M5 at*;walk_at "rx";refine⟨f,cc,2,rfl,F4.aI,by decide,by decide,λ d2 o2 Vh Vg xo=>?_⟩;have F5:=F4.trans (Fl.pick xo);generalize ah M5 f o2=M6 at*;walk_at "rx";have:=hN (d1.toNat,(1+d2).toNat) M6 ⟨F5,λ y hy=>?_⟩
     ·unfold pD at this;dsimp only at this;rw[show((d1.toNat:Nat):Int)=d1 by omega,show(((1+d2).toNat:Nat):Int)=1+d2 by omega]at this;exact this
     ·rcases B6.mp hy with e|e
      ·exact hI.2 y e
      ·rw[r6.mp e];dsimp only;omega
    ·obtain⟨F4,h4⟩:=hI;intro p hp;walk_at "rx";have hl:cs.length=2:=hl;obtain⟨a,b,rfl⟩:∃a b,cs=[a,b]:=by
      match cs,hl with
      |[a,b],_=>exact⟨a,b,rfl⟩
     have ha:=h4 a (by simp);have hb:=h4 b (by simp);exact hN _ _ ⟨p,[a,b],rfl,.inr ⟨_,_,_,_,rfl,ha.1,ha.2.1,ha.2.2,hb.1,hb.2.1,hb.2.2⟩,af,(F4.aI.ne hp).1,F4.trans (Fl.put F4.aI hp)⟩
   ·walk_at "rx";exact hN _ _ ⟨pc,cs,rfl,hc,qF,dj,F3⟩
  clear qF dj F2 hc M' pc cs;rintro δ' M1 ⟨pc,cs,rfl,hc,qF,dj,F1⟩;have YQ:=hc.box;walk_at "rx";refine⟨bL (by omega) (by omega),?_⟩;rw[w6,eI];refine ir (β:=Addr×Cs) (λ y=>.ref y.1) (λ ys M'=>Fl f cc M M'/\M' pc=some (.lst (cs.map pD))/\∀y∈ys,y.1≠f/\M' y.1=some (.lst (y.2.map nD))/\y.2.length=cs.length) (by rw[x6];omega) ⟨F1,qF,λ y h=>by cases h⟩ (λ i x ys M' N hx hl hI hN=>?_) (λ ys M4 hl hI=>?_)
  ·obtain⟨F2,qF,qD⟩:=hI;walk_at "rx";refine sU pD nD (λ zs M'=>Fl f cc M M'/\M' pc=some (.lst (cs.map pD))/\∀y∈ys,y.1≠f/\M' y.1=some (.lst (y.2.map nD))/\y.2.length=cs.length) (by omega) ⟨F2,qF,qD⟩ (λ _ _ h=>h.2.1) (λ i x zs M' N hx hl hI hN=>?_) (λ zs M4 hl hI=>?_)
   ·obtain⟨F3,qF,qD⟩:=hI;walk_at "rx";refine⟨f,cc,3,rfl,F3.aI,by decide,by decide,λ d o h0 h1 C'=>?_⟩;have P:=Fl.pick C';have:=hN d.toNat _ ⟨F3.trans P,P.mv _ _ dj qF,λ y hy=>⟨(qD y hy).1,P.mv _ _ (qD y hy).1 (qD y hy).2.1,(qD y hy).2.2⟩⟩;unfold nD at this;rw[show((d.toNat:Nat):Int)=d by omega]at this;exact this
   ·obtain⟨F3,qF,qD⟩:=hI;intro p hp;refine hN (p,zs) _ ⟨F3.trans (Fl.put F3.aI hp),by rw[aj (a_ qF hp)];exact qF,λ y hy=>?_⟩;rcases B6.mp hy with e|e
    ·have:=qD y e;exact⟨this.1,by rw[aj (a_ this.2.1 hp)];exact this.2.1,this.2.2⟩
    ·rw[r6.mp e];exact⟨(F3.aI.ne hp).1,af,hl⟩
  ·obtain⟨F4,qF,qD⟩:=hI;rw[x6]at hl;intro uB CK;have F5:=F4.trans (Fl.put (o:=.lst (ys.map λ y=>.ref y.1)) F4.aI CK);have qF:ah M4 uB (.lst (ys.map λ y=>.ref y.1)) pc=some (.lst (cs.map pD)):=by rw[aj (a_ qF CK)];exact qF
   have qD:∀y∈ys,ah M4 uB (.lst (ys.map λ y=>.ref y.1)) y.1=some (.lst (y.2.map nD))/\y.2.length=cs.length:=λ y hy=>⟨by rw[aj (a_ (qD y hy).2.1 CK)];exact(qD y hy).2.1,(qD y hy).2.2⟩;have O3:ah M4 uB (.lst (ys.map λ y=>.ref y.1)) uB=some (.lst (ys.map λ y=>.ref y.1)):=af;generalize ah M4 uB (.lst (ys.map λ y=>.ref y.1))=M5 at*;have el:(ys.map (·.2)).length=n:=by rw[B5];exact hl
   have C:=hc.tP (ws:=ys.map (·.2)) λ w hw=>by obtain⟨y,hy,rfl⟩:=D7.mp hw;exact(qD y hy).2
   rw[el]at C;have hz:xU cs.length∈qq cs:=vN hc.pos;have hU:∀i s,i < n->s.length=cs.length->stC cs ((ys.map (·.2)).getD i []) s∈qq cs:=λ i s hi hs=>wb hc.pos (by rw[c7,u9,i5 (by omega)];exact(qD _ (A1 _)).2) hs;generalize Vf:(λ i s=>stC cs ((ys.map (·.2)).getD i []) s)=F at C;walk_at "rx";rw[B5];refine rm (by omega) (by omega) ?_;rw[w6];walk_at "rx";intro p hp;walk_at "rx";intro q hq;have X0:Sx Eh F (xU cs.length) n (qq cs) p q [xU cs.length] [] M5 (ah (ah M5 p (.lst [.tup (List.replicate cs.length (.int 0))])) q (.lst [])):=by have qE:p≠q:=a_ (show ah M5 p (.lst [.tup (List.replicate cs.length (.int 0))]) p=some _ from af) hq;refine⟨Ext.new (Ext.new Ext.rfl hp _) hq _,hp,Ext.free (Ext.new Ext.rfl hp _) hq,qE,?_,af,nQ.start hz,by simp⟩;rw[aj qE,af];show _=some (MO.lst [Eh (xU cs.length)]);unfold Eh xU;rw[map_replicate];rfl
   generalize ah (ah M5 p (.lst [.tup (List.replicate cs.length (.int 0))])) q (.lst [])=M6 at*;walk_at "rx";refine cU ⟨λ m δ M'=>∃(v6 v7 v8 v9:Option D) (aX:List Cs) (rows:List Row),δ=[some (.ref f),some (.int n),some (.ref pc),some (.ref uB),some (.ref p),some (.ref q),v6,v7,v8,v9]/\Sx Eh F (xU cs.length) n (qq cs) p q aX rows M5 M'/\m=20 - rows.length,⟨_,none,none,none,none,_,[],rfl,X0,rfl⟩,?_⟩;rintro m δ M' ⟨v6,v7,v8,v9,aX,rows,rfl,X,rfl⟩;have hfew:=X.cH;have hst:=X.st;have mX:=X.nk;walk_at "rx";rw[B5,B5];refine aJ (λ eR=>?_) (λ Nv=>?_)
   ·obtain⟨s,hs⟩:∃s,aX[rows.length]?=some s:=⟨_,i5 (by omega)⟩;have Ea:s.length=cs.length:=(X.ex.FG s (l4 hs)).ok C (by simp[xU]);refine⟨λ δ' oQ=>∃(v6 v7 v8 v9:Option D) (aX:List Cs) (r:Row),δ'=[some (.ref f),some (.int n),some (.ref pc),some (.ref uB),some (.ref p),some (.ref q),v6,v7,v8,v9]/\Sx Eh F (xU cs.length) n (qq cs) p q aX (rows++[r]) M5 oQ,?_,?_⟩
    ·rintro δ' oQ ⟨v6,v7,v8,v9,aX,r,rfl,X⟩;exact⟨_,by rw[p6,k4];omega,v6,v7,v8,v9,aX,_,rfl,X,rfl⟩
    ·walk_at "rx";intro pw CL;have fw:=X.free CL;have X1:=X.new CL (.lst []);have Mp:ah M' pw (.lst []) pw=some (.lst (([]:Row).map D.int)):=af;generalize ah M' pw (.lst [])=M7 at*;walk_at "rx";refine⟨bL (by omega) (by omega),?_⟩;rw[w6];refine eh (λ i δ M8=>∃(v7 v8 v9:Option D) (aX:List Cs) (r:Row),δ=[some (.ref f),some (.int n),some (.ref pc),some (.ref uB),some (.ref p),some (.ref q),some (.ref pw),v7,v8,v9]/\Sx Eh F (xU cs.length) n (qq cs) p q aX rows M5 M8/\M8 pw=some (.lst (r.map D.int))/\cC F aX s i r/\aX[rows.length]?=some s) ⟨v7,v8,v9,aX,[],rfl,X1,Mp,cC.nil _ _ _,hs⟩ (λ i d δ M8 hd h=>?_) (λ δ M8 h=>?_)
     ·obtain⟨v7,v8,v9,aX,r,rfl,X,hw,hr,hs⟩:=h;obtain⟨hi,rfl⟩:=bQ hd;obtain⟨y,hy⟩:∃y,ys[i]?=some y:=⟨_,i5 (by omega)⟩;have Mo:=qD y (l4 hy);have eF:F i s=stC cs y.2 s:=by rw[<- Vf];show stC cs ((ys.map (·.2)).getD i []) s=_;rw[c7,u9,hy];rfl
      have My:F i s∈qq cs:=by rw[<- Vf];exact hU i s hi Ea
      have tz:=vU (ws:=y.2) (s:=s) Mo.2 Ea;have hst:=X.st;have mX:=X.nk;walk_at "rx";rw[B5];refine bo X.st (d:=Eh s) (aR (by rw[u9,hs];rfl)) ?_;walk_at "rx";refine bo (X.ext _ _ O3) (d:=.ref y.1) (by rw[D4];exact aR (by rw[u9,hy];rfl)) ?_;walk_at "rx";refine⟨Eh s,.ref y.1,.ref pc,s.map nD,y.2.map nD,cs.map pD,cs.length,rfl,rfl,du (X.ext _ _ Mo.1),du (X.ext _ _ qF),by rw[B5];exact Ea,by rw[B5];exact Mo.2,by rw[B5],by omega,by omega,λ pt UU=>?_⟩;rw[tz.1];have hw:ah M8 pt (.lst ((ub cs y.2 s).map Ad)) pw=some (.lst (r.map D.int)):=by rw[aj (a_ hw UU)];exact hw
      have X:=X.new UU (.lst ((ub cs y.2 s).map Ad));have ht:ah M8 pt (.lst ((ub cs y.2 s).map Ad)) pt=some (.lst ((ub cs y.2 s).map Ad)):=af;generalize ah M8 pt (.lst ((ub cs y.2 s).map Ad))=M9 at*;walk_at "rx";have YD:=vW (cs:=cs) (ws:=y.2) (s:=s);refine dR Ad (λ t=>nD (cnt (t.1+t.2.1) t.2.2.1 t.2.2.2)) (by omega) ht (λ j t N hj hN=>?_) ?_
      ·obtain⟨a,b,lo,w⟩:=t;have hm:=hc.pos _ (vV (l4 hj));unfold Ad pD;walk_at "rx";exact⟨a+b,lo,w,rfl,hm,hN⟩
      ·have e9:(ub cs y.2 s).map (λ t=>nD (cnt (t.1+t.2.1) t.2.2.1 t.2.2.2))=(F i s).map nD:=by rw[eF,tz.2,D8];rfl
       rw[e9];refine dB ?_;have MB:(1:Nat)<=60:=by decide
       have Mq:(qq cs).length<=300:=by omega
       have CW:n<=12:=by omega
       with_reducible refine ky pZ MB X Mq CW fw hw hr hs hi My ?_ ?_ ?_ (λ fI r' M' X' Jd CI jf=>?_)
       ·rfl
       ·rfl
       ·rfl
       ·exact⟨_,_,_,fI,r',rfl,X',Jd,CI,jf⟩
     ·obtain⟨v7,v8,v9,aX,r,rfl,X,hw,hr,hs⟩:=h;rw[aM]at hr;have hfew:=X.cH;have mX:=X.nk;walk_at "rx";refine⟨⟨rfl,_,mX⟩,?_⟩;walk_at "rx";refine bP hw ?_;walk_at "rx";refine cA mX (by rw[B5];exact q8 (show rows.length<=300 by omega) (by decide)) ?_;exact⟨_,_,_,_,aX,r,rfl,X.next hs hr⟩
   ·have el:rows.length=aX.length:=by have:=X.le;omega
    have TG:=X.ex.tb C (by simp[xU]) el (by omega) (by omega);have F6:=F5.trans (jC X.ext F5.aI);have Xp:rows.length<=16:=by omega
    walk_at "rx";refine bP mX ?_;walk_at "rx";rw[B5];refine⟨bL (by omega) (by omega),?_⟩;rw[w6];refine fP (λ i acc M7=>∃ls:Row,acc=ls.map D.int/\f' i ls/\Fl f cc M M7) ⟨[],rfl,f'.nil 0,F6⟩ (λ i acc M7 hi h=>?_) (λ i d acc M7 hd h=>?_) (λ acc M7 h=>?_)
    ·obtain⟨ls,rfl,L,_⟩:=h;rw[aM]at hi;have:=L.cH;rw[B5];exact small (by omega)
    ·obtain⟨ls,rfl,L,F7⟩:=h;obtain⟨hi,rfl⟩:=bQ hd;walk_at "rx";refine⟨f,cc,2,rfl,F7.aI,by decide,by decide,λ d o _ _ C'=>?_⟩;have F8:=F7.trans (Fl.pick C');generalize ah M7 f o=M8 at*;walk_at "rx";refine aJ (λ _=>?_) (λ _=>?_)
     ·walk_at "rx";exact⟨ls++[(i:Int)],by rw[B7,D4];rfl,L.add,F8⟩
     ·exact⟨ls,rfl,L.up,F8⟩
    ·obtain⟨ls,rfl,L,F7⟩:=h;rw[aM]at L;walk_at "rx";exact az (k _ rows ls _ TG Xp L F7)
end
def Ao:fb:=λ ds M Q=>∃(a:Addr) (sz:Cs) (l:Str),ds=[.ref a,.str l]/\M a=some (.lst (sz.map nD))/\(∀x∈sz,x < 5)/\sz.length<=6/\∀(m:Nat) (rows:List Row) (ls:Row) (M':Mem),km m sz.length rows->m<=16->f' m ls->Ext M M'->Q (cS rows ls) M'
section
variable {P:Program}{w:World}{K:K2}{mg:Str->Option Value}{base:Heap}
theorem bh:aO ["_law_sizes","_law_last","_law_states","_law_rows","_law_losing","_law_row","_law_size","_law_number_here","_law_great","_law_then"] ["_law_sizes","_law_last"] (ay (top 8)):=⟨rfl,rfl,rfl,by decide+kernel,rfl,by decide+kernel,by decide+kernel⟩
theorem GF{f:Addr}{fd:FuncData}(F:f_ K "_law_nim_table" "_law_nim_table" (top 8) f fd)(T:iE K mg):bZ P w K mg base fc 1 f fd ["_law_sizes","_law_last"] (cx K Ao):=by
 refine iS F bh (λ ds M Q h=>?_) (λ c_ A outer s H E ds M Q hr h=>?_)
 ·obtain⟨a,sz,l,rfl,_⟩:=h;rfl
 ·obtain⟨a,sz,l,rfl,ha,h5,h6,k⟩:=h;obtain⟨L,eL,hL⟩:∃L:Nat,(if decide (l=Str.ofString "loses")=true then(1:Int)else 0)=(L:Int)/\L<=1:=by
   by_cases z:l=Str.ofString "loses"
   ·exact⟨1,by simp[z],by omega⟩
   ·exact⟨0,by simp[z],by omega⟩
  have C:=EB (h:=sz.length) hL h5;have hz:((0,0):Nat×Nat)∈DL:=wN.mpr ⟨by decide,by decide⟩;have Jj:DL.length=16:=by decide
  refine⟨_,(ae (au (i:=2) bh.nd rfl (Or.inl rfl) (bC (aa (cE (aa ai (aa ai ab))) ab)))
 (ae (au (i:=3) bh.nd rfl (Or.inl rfl) (bC ab))
 (ae (cR B1 (aK lZ (aA bN (by rfl) T.len (by decide+kernel) (aa (ao 3) ab)) (aA bN (by rfl) T.len (by decide+kernel) (aa (ao 2) ab)) (aH _))
 (ae (gc (aV aL (ao 2) (aA bN (by rfl) T.len (by decide+kernel) (aa (ao 3) ab)) (λ _ _=>rfl)) (jh (n:=2) rfl (cq (bu (i:=7) bh.nd rfl (Or.inl rfl)) (cq (bu (i:=8) bh.nd rfl (Or.inl rfl)) gM))))
 (ae (au (i:=5) bh.nd rfl (Or.inl rfl) (bC ab))
 (ae (cD B1 rfl (bK (ao 0)) (bu (i:=6) bh.nd rfl (Or.inl rfl))
 (ae (au (i:=9) bh.nd rfl (Or.inl rfl) (cE (aa (aZ BP (ao 7) (ao 6)) (aa (aZ eZ (aA (Qi rfl) (by rfl) T.max (by decide+kernel) (aa (ao 8) (aa (bI mQ (by rfl) T.int (by decide+kernel) (aa (fS uM (ao 6) ai (aH _)) ab)) ab))) (bI mQ (by rfl) T.int (by decide+kernel) (aa (fS (cu hr.units) (ao 1) gf (aH _)) ab))) ab))))
 (ae (bV (aK (gy hr.units) (ao 9) (ao 2) rfl)
 (ak (bB (cI i7 i4 i6 bb (ao 2) (aa (ao 9) ab))))
 bf)
 (ak (bB (cI i7 i4 i6 bb (ao 5) (aa (cI i7 PySem.F.slot_list_index PySem.F.type_list_index (eD hr.units) (ao 2) (aa (ao 9) ab)) ab)))))))
 (ak (bB (cI i7 i4 i6 bb (ao 3) (aa (bI bx (by rfl) T.tuple (by decide+kernel) (aa (ao 5) ab)) ab))))))))
 (ae (cY (i:=4) bh.nd rfl (Or.inl rfl) (tgs:=["_law_k","_law_state"]) (fr:=[1]) ⟨aS (by kernel_rfl),rfl,(λ _ _ h=>h),(gL rfl T.enumerate (aa (ao 2) ab)),(ll (λ _ _ _ _ _=>(lW rfl (cV (aD (i:=0) (show(["_law_k","_law_state","_law_last"]:List Str).Nodup by decide+kernel) rfl (Or.inl rfl)) (cV (aD (i:=1) (show(["_law_k","_law_state","_law_last"]:List Str).Nodup by decide+kernel) rfl (Or.inl rfl)) iQ)))) (by decide) (by decide)),(λ _ _ _ _ _=>(gJ (aK (cu hr.units) (aV aL (ao 1) ai (λ _ _=>rfl)) (bI mQ (by rfl) T.int (by decide+kernel) (aa (w_and (fS (cu hr.units) (ao 2) gf (aH _)) (qL (fS (cu hr.units) (aV aL (ao 1) ai (λ _ _=>rfl)) ai (aH _)))) ab)) (aH _)))),(λ _ _ _ _ _=>(ao 0))⟩)
 (ak (aQ (cE (aa (bI bx (by rfl) T.tuple (by decide+kernel) (aa (ao 3) ab)) (aa (bI bx (by rfl) T.tuple (by decide+kernel) (aa (ao 4) ab)) ab))))))))),?_⟩
  walk_at "rx";intro p hp;walk_at "rx";intro q hq;have X0:Sx pD (stN L sz) (0,0) sz.length DL p q [(0,0)] [] M (ah (ah M p (.lst [.tup [.int 0,.int 0]])) q (.lst [])):=by have qE:p≠q:=a_ (show ah M p (.lst [.tup [.int 0,.int 0]]) p=some _ from af) hq;refine⟨Ext.new (Ext.new Ext.rfl hp _) hq _,hp,Ext.free (Ext.new Ext.rfl hp _) hq,qE,?_,af,nQ.start hz,by simp⟩;rw[aj qE,af];rfl
  generalize ah (ah M p (.lst [.tup [.int 0,.int 0]])) q (.lst [])=M6 at*;walk_at "rx";refine cU ⟨λ m δ M'=>∃(v5 v6 v7 v8 v9:Option D) (aX:List (Nat×Nat)) (rows:List Row),δ=[some (.ref a),some (.str l),some (.ref p),some (.ref q),none,v5,v6,v7,v8,v9]/\Sx pD (stN L sz) (0,0) sz.length DL p q aX rows M M'/\m=20 - rows.length,⟨_,none,none,none,none,none,_,[],rfl,X0,rfl⟩,?_⟩;rintro m δ M' ⟨v5,v6,v7,v8,v9,aX,rows,rfl,X,rfl⟩;have hfew:=X.cH;rw[Jj]at hfew;have hst:=X.st;have mX:=X.nk;walk_at "rx";rw[B5,B5];refine aJ (λ eR=>?_) (λ Nv=>?_)
  ·obtain⟨s,hs⟩:∃s,aX[rows.length]?=some s:=⟨_,i5 (by omega)⟩;have Je:s∈DL:=X.ex.sub s (l4 hs);refine⟨λ δ' oQ=>∃(v5 v6 v7 v8 v9:Option D) (aX:List (Nat×Nat)) (r:Row),δ'=[some (.ref a),some (.str l),some (.ref p),some (.ref q),none,v5,v6,v7,v8,v9]/\Sx pD (stN L sz) (0,0) sz.length DL p q aX (rows++[r]) M oQ,?_,?_⟩
   ·rintro δ' oQ ⟨v5,v6,v7,v8,v9,aX,r,rfl,X⟩;exact⟨_,by rw[p6,k4];omega,v5,v6,v7,v8,v9,aX,_,rfl,X,rfl⟩
   ·walk_at "rx";rw[B5];refine bo X.st (d:=.tup [.int (s.1:Int),.int (s.2:Int)]) (aR (by rw[u9,hs];rfl)) ?_;walk_at "rx";intro pw CL;have fw:=X.free CL;have X1:=X.new CL (.lst []);have Mp:ah M' pw (.lst []) pw=some (.lst (([]:Row).map D.int)):=af;generalize ah M' pw (.lst [])=M7 at*;have W9:=X1.ext _ _ ha;walk_at "rx";refine sx (ds:=sz.map nD) (λ i δ M8=>∃(v6 v9:Option D) (aX:List (Nat×Nat)) (r:Row),δ=[some (.ref a),some (.str l),some (.ref p),some (.ref q),none,some (.ref pw),v6,some (.int (s.1:Int)),some (.int (s.2:Int)),v9]/\Sx pD (stN L sz) (0,0) sz.length DL p q aX rows M M8/\M8 pw=some (.lst (r.map D.int))/\cC (stN L sz) aX s i r/\aX[rows.length]?=some s) ⟨v6,v9,aX,[],rfl,X1,Mp,cC.nil _ _ _,hs⟩ (λ i δ M8 _ h=>?_) (λ i d δ M8 hd h=>?_) (λ δ M8 h=>?_)
    ·obtain⟨_,_,_,_,_,X,_⟩:=h;exact X.ext _ _ ha
    ·obtain⟨v6,v9,aX,r,rfl,X,hw,hr,hs⟩:=h;rw[u9]at hd;obtain⟨y,hy,rfl⟩:=Option.map_eq_some_iff.mp hd;have CU:i < sz.length:=(g9.mp hy).1;have ey:sz.getD i 0=y:=by rw[c7,hy];rfl
     have e1:max (s.2:Int) (if decide (1 < (y:Int))=true then 1 else 0)=((max s.2 (if 1 < y then 1 else 0):Nat):Int):=by
      by_cases z:1 < y
      ·rw[J8 z,J8 (by rw[decide_eq_true_iff];omega)];omega
      ·rw[J9 z,J9 (by rw[decide_eq_true_iff];omega)];omega
     walk_at "rx";rw[e1];rw[show(if decide (l="loses")=true then(1:Int)else 0)=(L:Int)from eL];have h0:((max s.2 (if 1 < y then 1 else 0):Nat):Int)*(L:Int)=((max s.2 (if 1 < y then 1 else 0)*L:Nat):Int):=by rw[Int.natCast_mul]
     refine gu (vw (by omega) (by omega)) ?_;rw[h0,iy];refine jv ⟨by show 2<=sizeLine;decide,dB ?_⟩;have MB:(1:Nat)<=60:=by decide
     have Mq:DL.length<=300:=by rw[Jj];decide
     have CW:sz.length<=12:=by omega
     have My:=C.cl s i CU Je
     with_reducible refine ky Dp MB X Mq CW fw hw hr hs CU My ?_ ?_ ?_ (λ fI r' M' X' Jd CI jf=>?_)
     ·show some (some (pD (s.1^^^y,max s.2 (if 1 < y then 1 else 0)*L)))=some (some (pD (stN L sz i s)));unfold stN;rw[ey]
     ·rfl
     ·rfl
     ·exact⟨_,_,fI,r',rfl,X',Jd,CI,jf⟩
    ·obtain⟨v6,v9,aX,r,rfl,X,hw,hr,hs⟩:=h;rw[B5]at hr;have hfew:=X.cH;rw[Jj]at hfew;have mX:=X.nk;walk_at "rx";refine⟨⟨rfl,_,mX⟩,?_⟩;walk_at "rx";refine bP hw ?_;walk_at "rx";refine cA mX (by rw[B5];exact q8 (show rows.length<=300 by omega) (by decide)) ?_;exact⟨_,_,_,_,_,aX,r,rfl,X.next hs hr⟩
  ·have el:rows.length=aX.length:=by have:=X.le;omega
   have TG:=X.ex.tb C hz el (by omega) (by omega);walk_at "rx";refine DF (ds:=dJ (aX.map pD)) (λ i acc M7=>M7=M'/\∃ls:Row,acc=ls.map D.int/\f' i ls) ⟨rfl,[],rfl,f'.nil 0⟩ (λ i acc M7 _ h=>?_) (λ i acc M7 hi h=>?_) (λ i d acc M7 hd h=>?_) (λ acc M7 h=>?_)
   ·obtain⟨rfl,_⟩:=h;show hX (.ref p) M7=_;unfold hX;rw[du hst];rfl
   ·obtain⟨rfl,ls,rfl,L⟩:=h;rw[cL,B5]at hi;have:=L.cH;rw[B5];exact small (by omega)
   ·obtain⟨rfl,ls,rfl,L⟩:=h;obtain⟨hi,rfl⟩:=kT hd;rw[B5]at hi;obtain⟨x,hx⟩:∃x,aX[i]?=some x:=⟨_,i5 hi⟩;rw[show(aX.map pD).getD i .bM=.tup [.int (x.1:Int),.int (x.2:Int)] by rw[c7,u9,hx];rfl];have y1:∃B_:Row,ls.map D.int++[.int (i:Int)]=B_.map D.int/\f' (i+1) B_:=⟨ls++[(i:Int)],by rw[B7];rfl,L.add⟩;have y2:∃B_:Row,ls.map D.int=B_.map D.int/\f' (i+1) B_:=⟨ls,rfl,L.up⟩;walk_at "rx";refine aJ (λ _=>?_) (λ _=>?_)
    ·walk_at "rx";refine aJ (λ _=>?_) (λ _=>?_)
     ·walk_at "rx";exact⟨rfl,y1⟩
     ·exact⟨rfl,y2⟩
    ·walk_at "rx";refine aJ (λ _=>?_) (λ _=>?_)
     ·walk_at "rx";exact⟨rfl,y1⟩
     ·exact⟨rfl,y2⟩
   ·obtain⟨rfl,ls,rfl,L⟩:=h;rw[cL,B5]at L;intro pl hpl;walk_at "rx";refine bP (by rw[aj (a_ mX hpl)];exact mX) ?_;walk_at "rx";refine bP af ?_;walk_at "rx";exact az (k _ rows ls _ TG (by omega) (by rw[el];exact L) (X.ext.new hpl _))
end
def wg:fb:=λ ds M Q=>∃(f c:Addr) (m h:Nat) (rows:List Row) (ls:Row),ds=[.ref f,cS rows ls]/\Flow M f c/\km m h rows/\m<=10/\h<=6/\(∀(m:Nat) (rows:List Row) (ls:Row) (M':Mem),km m h rows->m<=30->f' m ls->Fl f c M M'->Q (cS rows ls) M')
theorem NX{m h:Nat}{rows:List Row}(G:Tb m h rows):eW (rows.map row) 0=some (.tup ((rows.getD 0 []).map D.int))/\(rows.getD 0 []).length=h:=by
 have h0:0 < rows.length:=by rw[G.len];exact G.pos
 rw[c7,i5 h0];exact⟨aR (j:=0) (by rw[u9,i5 h0];rfl),(G.row _ (A1 h0)).1⟩
section
variable {P:Program}{w:World}{K:K2}{mg:Str->Option Value}{base:Heap}
theorem bE:aO ["_law_flow_here","_law_table","_law_many","_law_wide","_law_weights","_law_states","_law_rows","_law_row","_law_h","_law_thing","_law_count","_law_then"] ["_law_flow_here","_law_table"] (ay (top 23)):=⟨rfl,rfl,rfl,by decide+kernel,rfl,by decide+kernel,by decide+kernel⟩
theorem BO{f:Addr}{fd:FuncData}(F:f_ K "_law_blown" "_law_blown" (top 23) f fd)(T:iE K mg)(ar:bT P w K mg base 1 "_law_pick" ["_law_flow_here","_law_many"] eN):bZ P w K mg base fc 2 f fd ["_law_flow_here","_law_table"] (cx K wg):=by
 refine iS F bE (λ ds M Q h=>?_) (λ c_ A outer s H E ds M Q hr h=>?_)
 ·obtain⟨f,c,m,h,rows,ls,rfl,_⟩:=h;rfl
 ·obtain⟨f,cc,m,h,ff,JM,rfl,hF,G,hm,hh,k⟩:=h;have O9:=NX G.tb;have zg:cS ff JM=.tup [.tup (ff.map row),row JM]:=rfl;rw[zg];refine⟨_,(ae (au (i:=2) bE.nd rfl (Or.inl rfl) (aA bN (by rfl) T.len (by decide+kernel) (aa (aV aL (aV aL (ao 1) ai (λ _ _=>rfl)) ai (λ _ _=>rfl)) ab)))
 (ae (au (i:=3) bE.nd rfl (Or.inr rfl) (aZ bp ai (aF ar (hr.mono (by decide)) (by rfl) (aa (ao 0) (aa ai ab)))))
 (ae (cY (i:=4) bE.nd rfl (Or.inl rfl) (tgs:=["_law_h"]) (fr:=[0,3]) ⟨aS (by kernel_rfl),rfl,(λ _ _ h=>h),(aN rfl T.range (aa (ao 2) ab)),(aG (λ _ _ _ _ _=>(aD (i:=0) (show(["_law_h","_law_flow_here","_law_wide"]:List Str).Nodup by decide+kernel) rfl (Or.inl rfl))) (by decide)),(λ _ _ _ _ _=>aP),(λ _ _ _ _ _=>(aF ar (hr.mono (by decide)) (by rfl) (aa (ao 1) (aa (ao 2) ab))))⟩)
 (ae (au (i:=5) bE.nd rfl (Or.inl rfl) (bC (aa (cE (aa ai (aa ai ab))) ab)))
 (ae (au (i:=6) bE.nd rfl (Or.inl rfl) (bC ab))
 (ae (cR B1 (aK lZ (aA bN (by rfl) T.len (by decide+kernel) (aa (ao 6) ab)) (aA bN (by rfl) T.len (by decide+kernel) (aa (ao 5) ab)) (aH _))
 (ae (gc (aV aL (ao 5) (aA bN (by rfl) T.len (by decide+kernel) (aa (ao 6) ab)) (λ _ _=>rfl)) (jh (n:=2) rfl (cq (bu (i:=9) bE.nd rfl (Or.inl rfl)) (cq (bu (i:=10) bE.nd rfl (Or.inl rfl)) gM))))
 (ae (au (i:=7) bE.nd rfl (Or.inl rfl) (bC ab))
 (ae (cD B1 rfl (aN rfl T.range (aa (ao 2) ab)) (bu (i:=8) bE.nd rfl (Or.inl rfl))
 (ae (au (i:=11) bE.nd rfl (Or.inl rfl) (cE (aa (aV aL (aV aL (aV aL (ao 1) ai (λ _ _=>rfl)) (ao 9) (λ _ _=>rfl)) (ao 8) (λ _ _=>rfl)) (aa (aZ fm (aZ bp (ao 10) (aV aL (ao 4) (ao 8) (λ _ _=>rfl))) (ao 3)) ab))))
 (ae (bV (aK (gy hr.units) (ao 11) (ao 5) rfl)
 (ak (bB (cI i7 i4 i6 bb (ao 5) (aa (ao 11) ab))))
 bf)
 (ak (bB (cI i7 i4 i6 bb (ao 7) (aa (cI i7 PySem.F.slot_list_index PySem.F.type_list_index (eD hr.units) (ao 5) (aa (ao 11) ab)) ab)))))))
 (ak (bB (cI i7 i4 i6 bb (ao 6) (aa (bI bx (by rfl) T.tuple (by decide+kernel) (aa (ao 7) ab)) ab))))))))
 (ak (aQ (cE (aa (bI bx (by rfl) T.tuple (by decide+kernel) (aa (ao 6) ab)) (aa (dX bx bU (by rfl) T.tuple (by decide+kernel) (tgs:=["_law_k","_law_state"]) (fr:=[1]) ⟨aS (by kernel_rfl),rfl,(λ _ _ h=>h),(gL rfl T.enumerate (aa (ao 5) ab)),(ll (λ _ _ _ _ _=>(lW rfl (cV (aD (i:=0) (show(["_law_k","_law_state","_law_table"]:List Str).Nodup by decide+kernel) rfl (Or.inl rfl)) (cV (aD (i:=1) (show(["_law_k","_law_state","_law_table"]:List Str).Nodup by decide+kernel) rfl (Or.inl rfl)) iQ)))) (by decide) (by decide)),(λ _ _ _ _ _=>(gJ (aK (wK hr.units) (aV aL (ao 1) ai (λ _ _=>rfl)) (aV aL (ao 2) ai (λ _ _=>rfl)) rfl))),(λ _ _ _ _ _=>(ao 0))⟩) ab))))))))))),?_⟩
  walk_at "rx";refine dN O9.1 ?_;walk_at "rx";rw[B5,O9.2];refine⟨f,cc,2,rfl,hF,by decide,by decide,λ d1 o1 Eg NB oF=>?_⟩;have F1:Fl f cc M _:=Fl.pick oF;generalize ah M f o1=M1 at*;obtain⟨w,ew⟩:∃n:Nat,2+d1=(n:Int):=⟨(2+d1).toNat,by omega⟩;walk_at "rx";rw[ew];refine⟨bL (by omega) (by omega),?_⟩;rw[w6,eI];refine ir nD (λ ys M'=>Fl f cc M M') (by rw[x6];omega) F1 (λ i x ys M' N hx hl hI hN=>?_) (λ ws M4 hl F4=>?_)
  ·walk_at "rx";refine⟨f,cc,w,rfl,hI.aI,by omega,by omega,λ d o h0 h1 C'=>?_⟩;obtain⟨y,rfl⟩:∃n:Nat,d=(n:Int):=⟨d.toNat,by omega⟩;exact hN y _ (hI.trans (Fl.pick C'))
  rw[x6]at hl;intro uB CK;have F5:=F4.trans (Fl.put (o:=.lst (ws.map nD)) F4.aI CK);have O3:ah M4 uB (.lst (ws.map nD)) uB=some (.lst (ws.map nD)):=af;generalize ah M4 uB (.lst (ws.map nD))=M5 at*;have UO:0 < w:=by omega
  have C:=EC (ws:=ws) G UO;have hz:((0,0):Nat×Nat)∈zD m w:=kJ.mpr ⟨G.tb.pos,UO⟩;have Jj:(zD m w).length<=30:=by rw[H_];exact D9 (Nat.mul_le_mul hm (show w<=3 by omega)) (by decide)
  walk_at "rx";intro p hp;walk_at "rx";intro q hq;have X0:Sx pD (Nh ff w ws) (0,0) h (zD m w) p q [(0,0)] [] M5 (ah (ah M5 p (.lst [.tup [.int 0,.int 0]])) q (.lst [])):=by have qE:p≠q:=a_ (show ah M5 p (.lst [.tup [.int 0,.int 0]]) p=some _ from af) hq;refine⟨Ext.new (Ext.new Ext.rfl hp _) hq _,hp,Ext.free (Ext.new Ext.rfl hp _) hq,qE,?_,af,nQ.start hz,by simp⟩;rw[aj qE,af];rfl
  generalize ah (ah M5 p (.lst [.tup [.int 0,.int 0]])) q (.lst [])=M6 at*;walk_at "rx";refine cU ⟨λ m' δ M'=>∃(v7 v8 v9 v10 v11:Option D) (aX:List (Nat×Nat)) (rows:List Row),δ=[some (.ref f),some (.tup [.tup (ff.map row),row JM]),some (.int h),some (.int w),some (.ref uB),some (.ref p),some (.ref q),v7,v8,v9,v10,v11]/\Sx pD (Nh ff w ws) (0,0) h (zD m w) p q aX rows M5 M'/\m'=40 - rows.length,⟨_,none,none,none,none,none,_,[],rfl,X0,rfl⟩,?_⟩;rintro m' δ M' ⟨v7,v8,v9,v10,v11,aX,rows,rfl,X,rfl⟩;have hfew:=X.cH;have hst:=X.st;have mX:=X.nk;walk_at "rx";rw[B5,B5];refine aJ (λ eR=>?_) (λ Nv=>?_)
  ·obtain⟨s,hs⟩:∃s,aX[rows.length]?=some s:=⟨_,i5 (by omega)⟩;have Je:s∈zD m w:=X.ex.sub s (l4 hs);have mw:=(kJ.mp Je).1;refine⟨λ δ' oQ=>∃(v7 v8 v9 v10 v11:Option D) (aX:List (Nat×Nat)) (r:Row),δ'=[some (.ref f),some (.tup [.tup (ff.map row),row JM]),some (.int h),some (.int w),some (.ref uB),some (.ref p),some (.ref q),v7,v8,v9,v10,v11]/\Sx pD (Nh ff w ws) (0,0) h (zD m w) p q aX (rows++[r]) M5 oQ,?_,?_⟩
   ·rintro δ' oQ ⟨v7,v8,v9,v10,v11,aX,r,rfl,X⟩;exact⟨_,by rw[p6,k4];omega,v7,v8,v9,v10,v11,aX,_,rfl,X,rfl⟩
   ·walk_at "rx";rw[B5];refine bo X.st (d:=.tup [.int (s.1:Int),.int (s.2:Int)]) (aR (by rw[u9,hs];rfl)) ?_;walk_at "rx";intro pw CL;have fw:=X.free CL;have X1:=X.new CL (.lst []);have Mp:ah M' pw (.lst []) pw=some (.lst (([]:Row).map D.int)):=af;generalize ah M' pw (.lst [])=M7 at*;walk_at "rx";refine⟨bL (by omega) (by omega),?_⟩;rw[w6];refine eh (λ i δ M8=>∃(v8 v11:Option D) (aX:List (Nat×Nat)) (r:Row),δ=[some (.ref f),some (.tup [.tup (ff.map row),row JM]),some (.int h),some (.int w),some (.ref uB),some (.ref p),some (.ref q),some (.ref pw),v8,some (.int (s.1:Int)),some (.int (s.2:Int)),v11]/\Sx pD (Nh ff w ws) (0,0) h (zD m w) p q aX rows M5 M8/\M8 pw=some (.lst (r.map D.int))/\cC (Nh ff w ws) aX s i r/\aX[rows.length]?=some s) ⟨v8,v11,aX,[],rfl,X1,Mp,cC.nil _ _ _,hs⟩ (λ i d δ M8 hd h=>?_) (λ δ M8 h=>?_)
    ·obtain⟨v8,v11,aX,r,rfl,X,hw,hr,hs⟩:=h;obtain⟨hi,rfl⟩:=bQ hd;have ta:=JP G.tb mw hi;walk_at "rx";refine dN (d:=.tup ((ff.getD s.1 []).map D.int)) ta.1 ?_;walk_at "rx";rw[D4];refine dN ta.2 ?_;walk_at "rx";refine bo (X.ext _ _ O3) (d:=.int (ws.getD i 0:Nat)) (aR (by rw[u9,i5 (by omega),c7,i5 (by omega)];rfl)) ?_;have SW:(0:Int) < (w:Int):=by omega
     refine rq (ju rfl (uu SW (jv ⟨by show 2<=sizeLine;decide,dB ?_⟩)));have MB:(1:Nat)<=60:=by decide
     have Mq:(zD m w).length<=300:=by omega
     have CW:h<=12:=by omega
     have My:=C.cl s i hi Je
     with_reducible refine ky Dp MB X Mq CW fw hw hr hs hi My ?_ ?_ ?_ (λ fI r' M' X' Jd CI jf=>?_)
     ·show some (some (D.tup [.int (cG ff i s.1:Nat),.int (((s.2:Int)+(ws.getD i 0:Nat)) % (w:Int))]))=some (some (D.tup [.int (cG ff i s.1:Nat),.int (((s.2+ws.getD i 0) % w:Nat):Int)]));rw[Int.natCast_emod,Int.natCast_add]
     ·rfl
     ·rfl
     ·exact⟨_,_,fI,r',rfl,X',Jd,CI,jf⟩
    ·obtain⟨v8,v11,aX,r,rfl,X,hw,hr,hs⟩:=h;rw[aM]at hr;have hfew:=X.cH;have mX:=X.nk;walk_at "rx";refine⟨⟨rfl,_,mX⟩,?_⟩;walk_at "rx";refine bP hw ?_;walk_at "rx";refine cA mX (by rw[B5];exact q8 (show rows.length<=300 by omega) (by decide)) ?_;exact⟨_,_,_,_,_,aX,r,rfl,X.next hs hr⟩
  ·have el:rows.length=aX.length:=by have:=X.le;omega
   have TG:=X.ex.tb C hz el (by omega) (by omega);have F6:=F5.trans (jC X.ext F5.aI);walk_at "rx";refine bP mX ?_;walk_at "rx";refine DF (ds:=dJ (aX.map pD)) (λ i acc M7=>M7=M'/\∃ls:Row,acc=ls.map D.int/\f' i ls) ⟨rfl,[],rfl,f'.nil 0⟩ (λ i acc M7 _ h=>?_) (λ i acc M7 hi h=>?_) (λ i d acc M7 hd h=>?_) (λ acc M7 h=>?_)
   ·obtain⟨rfl,_⟩:=h;show hX (.ref p) M7=_;unfold hX;rw[du hst];rfl
   ·obtain⟨rfl,ls,rfl,L⟩:=h;rw[cL,B5]at hi;have:=L.cH;rw[B5];exact small (by omega)
   ·obtain⟨rfl,ls,rfl,L⟩:=h;obtain⟨hi,rfl⟩:=kT hd;rw[B5]at hi;obtain⟨x,hx⟩:∃x,aX[i]?=some x:=⟨_,i5 hi⟩;rw[show(aX.map pD).getD i .bM=.tup [.int (x.1:Int),.int (x.2:Int)] by rw[c7,u9,hx];rfl];have y1:∃B_:Row,ls.map D.int++[.int (i:Int)]=B_.map D.int/\f' (i+1) B_:=⟨ls++[(i:Int)],by rw[B7];rfl,L.add⟩;have y2:∃B_:Row,ls.map D.int=B_.map D.int/\f' (i+1) B_:=⟨ls,rfl,L.up⟩;walk_at "rx";refine Fv (k:=0) (b:=decide ((x.1:Int)∈JM)) (ds:=JM.map D.int) rfl (gw 0 _) (lV λ x _=>gw 0 _) (by decide) (by rw[decide_eq_true_iff];exact(pN (enc:=D.int) (λ a b z=>D.int.inj z) _).symm) ?_;refine aJ (λ _=>?_) (λ _=>?_)
    ·walk_at "rx";exact⟨rfl,y1⟩
    ·exact⟨rfl,y2⟩
   ·obtain⟨rfl,ls,rfl,L⟩:=h;rw[cL,B5]at L;walk_at "rx";exact az (k _ rows ls _ TG (by omega) (by rw[el];exact L) F6)
end
def Al:fb:=λ ds M Q=>∃(f c a:Addr) (ns:List Nat),ds=[.ref f,.ref a]/\Flow M f c/\M a=some (.lst (ns.map nD))/\ns.length<=300/\∀(p:Addr) (dG:List Nat) (M':Mem),dG.Perm ns->M p=none->M' p=some (.lst (dG.map nD))->Fl f c M M'->Q (.ref p) M'
def IB:fb:=λ ds M Q=>∃(f c:Addr) (m h:Nat) (rows:List Row) (ls:Row),ds=[.ref f,cS rows ls]/\Flow M f c/\km m h rows/\m<=60/\f' m ls/\∀(rows:List Row) (ls:Row) (M':Mem),km m h rows->f' m ls->Fl f c M M'->Q (cS rows ls) M'
section
variable {P:Program}{w:World}{K:K2}{mg:Str->Option Value}{base:Heap}
theorem dY:aO ["_law_flow_here","_law_things","_law_left","_law_told"] ["_law_flow_here","_law_things"] (ay (top 24)):=⟨rfl,rfl,rfl,by decide+kernel,rfl,by decide+kernel,by decide+kernel⟩
theorem GA{f:Addr}{fd:FuncData}(F:f_ K "_law_shuffled" "_law_shuffled" (top 24) f fd)(T:iE K mg)(ar:bT P w K mg base 1 "_law_pick" ["_law_flow_here","_law_many"] eN):bZ P w K mg base fc 2 f fd ["_law_flow_here","_law_things"] (cx K Al):=by
 refine iS F dY (λ ds M Q h=>?_) (λ c_ A outer s H E ds M Q hr h=>?_)
 ·obtain⟨f,c,a,ns,rfl,_⟩:=h;rfl
 ·obtain⟨f,cc,a,ns,rfl,hF,ha,hl,k⟩:=h;refine⟨_,(ae (au (i:=2) dY.nd rfl (Or.inl rfl) (bI DJ (by rfl) T.list (by decide+kernel) (aa (ao 1) ab)))
 (ae (au (i:=3) dY.nd rfl (Or.inl rfl) (bC ab))
 (ae (cR B1 (aK (BR hr.units) (ao 2) (bC ab) (aH _))
 (ak (bB (cI i7 i4 i6 bb (ao 3) (aa (cI i7 PySem.F.slot_list_pop PySem.F.type_list_pop OQ (ao 2) (aa (aF ar (hr.mono (by decide)) (by rfl) (aa (ao 0) (aa (aA bN (by rfl) T.len (by decide+kernel) (aa (ao 2) ab)) ab))) ab)) ab)))))
 (ak (aQ (ao 3)))))),?_⟩
  walk_at "rx";refine Bb ha λ p hp=>?_;walk_at "rx";intro q hq;have qE:p≠q:=a_ (show ah M p (.lst (ns.map nD)) p=some _ from af) hq;have Ta:M q=none:=Ext.free (Ext.new Ext.rfl hp _) hq;have pf:=(hF.ne hp).1;have qf:=(hF.ne Ta).1;have F0:Fl f cc M (ah (ah M p (.lst (ns.map nD))) q (.lst [])):=jC (Ext.new (Ext.new Ext.rfl hp _) hq _) hF;have h1:ah (ah M p (.lst (ns.map nD))) q (.lst []) p=some (.lst (ns.map nD)):=by rw[aj qE,af]
  have h2:ah (ah M p (.lst (ns.map nD))) q (.lst []) q=some (.lst (([]:List Nat).map nD)):=af;generalize ah (ah M p (.lst (ns.map nD))) q (.lst [])=M2 at*;walk_at "rx";refine cU ⟨λ m δ M'=>∃(xs ys:List Nat),δ=[some (.ref f),some (.ref a),some (.ref p),some (.ref q)]/\M' p=some (.lst (xs.map nD))/\M' q=some (.lst (ys.map nD))/\(ys++xs).Perm ns/\Fl f cc M M'/\m=xs.length,⟨_,ns,[],rfl,h1,h2,.refl _,F0,rfl⟩,?_⟩;rintro m δ M' ⟨xs,ys,rfl,h1,h2,oE,F1,rfl⟩;have hlen:=oE.length_eq;rw[p6]at hlen;walk_at "rx";intro e he;refine Fe (k:=0) (b:=decide (xs=[])) (by rw[aj (a_ h1 he)];exact h1) af (lV λ x _=>gw 0 _) (λ e he=>by cases he) (by decide) (LZ (by rw[decide_eq_true_iff])) ?_;have h1:ah M' e (.lst []) p=some (.lst (xs.map nD)):=by rw[aj (a_ h1 he)];exact h1
  have h2:ah M' e (.lst []) q=some (.lst (ys.map nD)):=by rw[aj (a_ h2 he)];exact h2
  have F1:=F1.trans (Fl.put (o:=.lst []) F1.aI he);generalize ah M' e (.lst [])=M3 at*;refine gO (λ hn=>?_) (λ hn=>?_)
  ·have hn:xs≠[]:=by simpa using hn
   have Mr:0 < xs.length:=length_pos_iff.mpr hn;refine⟨λ δ' M'=>∃(Jz Qw:List Nat),δ'=[some (.ref f),some (.ref a),some (.ref p),some (.ref q)]/\M' p=some (.lst (Jz.map nD))/\M' q=some (.lst (Qw.map nD))/\(Qw++Jz).Perm ns/\Fl f cc M M'/\Jz.length < xs.length,?_,?_⟩
   ·rintro δ' M' ⟨Jz,Qw,rfl,a1,a2,a3,a4,a5⟩;exact⟨_,a5,Jz,Qw,rfl,a1,a2,a3,a4,rfl⟩
   ·walk_at "rx";refine⟨⟨rfl,_,h2⟩,?_⟩;walk_at "rx";refine⟨⟨rfl,_,h1⟩,?_⟩;walk_at "rx";rw[B5];refine⟨f,cc,xs.length,rfl,F1.aI,by omega,by omega,λ d o h0 Eg C'=>?_⟩;have P:=Fl.pick C';have F2:=F1.trans P;have h1:=P.mv _ _ pf h1;have h2:=P.mv _ _ qf h2;generalize ah M3 f o=M4 at*;obtain⟨j,rfl⟩:∃n:Nat,d=(n:Int):=⟨d.toNat,by omega⟩;have hj:j < xs.length:=by omega
    walk_at "rx";refine AV h1 (y:=nD xs[j]) (by rw[u9,i5 hj];rfl) (by rw[B5];omega) ?_;walk_at "rx";refine cA (ds:=ys.map nD) (by rw[aj (J6 qE)];exact h2) (by rw[B5];exact q8 (show ys.length<=300 by omega) (by decide)) ?_;refine⟨xs.eraseIdx j,ys++[xs[j]],rfl,?_,?_,?_,(F2.own hF hp).own hF Ta,?_⟩
    ·rw[aj qE,af,wQ]
    ·rw[af,B7];rfl
    ·refine List.Perm.trans ?_ oE;rw[append_assoc];refine List.Perm.append_left _ ?_;exact rG hj
    ·rw[length_eraseIdx_of_lt hj];omega
  ·have hn:xs=[]:=by simpa using hn
   subst hn;rw[A6]at oE;walk_at "rx";exact az (k q ys _ oE Ta h2 F1)
theorem dv:aO ["_law_flow_here","_law_table","_law_order","_law_rows"] ["_law_flow_here","_law_table"] (ay (top 25)):=⟨rfl,rfl,rfl,by decide+kernel,rfl,by decide+kernel,by decide+kernel⟩
theorem LN{f:Addr}{fd:FuncData}(F:f_ K "_law_renumbered" "_law_renumbered" (top 25) f fd)(T:iE K mg)(mN:bT P w K mg base 2 "_law_shuffled" ["_law_flow_here","_law_things"] Al):bZ P w K mg base fc 3 f fd ["_law_flow_here","_law_table"] (cx K IB):=by
 refine iS F dv (λ ds M Q h=>?_) (λ c_ A outer s H E ds M Q hr h=>?_)
 ·obtain⟨f,c,m,h,rows,ls,rfl,_⟩:=h;rfl
 ·obtain⟨f,cc,m,h,rows,ls,rfl,hF,G,hm,L,k⟩:=h;have zg:cS rows ls=.tup [.tup (rows.map row),row ls]:=rfl;rw[zg];have Jf:=G.tb.len;have Mr:=G.tb.pos;refine⟨_,(ae (au (i:=2) dv.nd rfl (Or.inr rfl) (aZ bp (bC (aa ai ab)) (aF mN (hr.mono (by decide)) (by rfl) (aa (ao 0) (aa (JG rfl (by rfl) T.list (by rfl) T.range (aa ai (aa (aA bN (by rfl) T.len (by decide+kernel) (aa (aV aL (ao 1) ai (λ _ _=>rfl)) ab)) ab))) ab)))))
 (ae (cY (i:=3) dv.nd rfl (Or.inl rfl) (tgs:=["_law_x"]) (fr:=[2,1]) ⟨aS (by kernel_rfl),rfl,(λ _ _ h=>h),(bK (ao 2)),(aG (λ _ _ _ _ _=>(aD (i:=0) (show(["_law_x","_law_order","_law_table"]:List Str).Nodup by decide+kernel) rfl (Or.inl rfl))) (by decide)),(λ _ _ _ _ _=>aP),(λ _ _ _ _ _=>(dX bx bU (by rfl) T.tuple (by decide+kernel) (tgs:=["_law_y"]) (fr:=[1]) ⟨aS (by kernel_rfl),rfl,(λ _ _ h=>h),(bK (aV aL (aV aL (ao 2) ai (λ _ _=>rfl)) (ao 0) (λ _ _=>rfl))),(aG (λ _ _ _ _ _=>(aD (i:=0) (show(["_law_y","_law_order"]:List Str).Nodup by decide+kernel) rfl (Or.inl rfl))) (by decide)),(λ _ _ _ _ _=>aP),(λ _ _ _ _ _=>(cI i7 PySem.F.slot_list_index PySem.F.type_list_index (eD hr.units) (ao 1) (aa (ao 0) ab)))⟩))⟩)
 (ak (aQ (cE (aa (bI bx (by rfl) T.tuple (by decide+kernel) (aa (ao 3) ab)) (aa (bI bx (by rfl) T.tuple (by decide+kernel) (aa (aA (HZ rfl) (by rfl) T.sorted (by decide+kernel) (aa (dq (tgs:=["_law_x"]) (fr:=[2]) ⟨aS (by kernel_rfl),rfl,(λ _ _ h=>h),(bK (aV aL (ao 1) ai (λ _ _=>rfl))),(aG (λ _ _ _ _ _=>(aD (i:=0) (show(["_law_x","_law_order"]:List Str).Nodup by decide+kernel) rfl (Or.inl rfl))) (by decide)),(λ _ _ _ _ _=>aP),(λ _ _ _ _ _=>(cI i7 PySem.F.slot_list_index PySem.F.type_list_index (eD hr.units) (ao 1) (aa (ao 0) ab)))⟩) ab)) ab)) ab))))))),?_⟩
  walk_at "rx";intro p0 mY;have F0:=Fl.put (o:=.lst [.int 0]) hF mY;have h0:ah M p0 (.lst [.int 0]) p0=some (.lst [.int 0]):=af;have n0:=(hF.ne mY).1;generalize ah M p0 (.lst [.int 0])=M0 at*;walk_at "rx";rw[B5,Jf];refine⟨1,(m:Int),rfl,⟨by omega,by omega⟩,⟨by omega,by omega⟩,by omega,λ p1 mz=>?_⟩;have e1:cO 1 ((m:Int) - 1).toNat=((List.range (m - 1)).map (·+1)).map nD:=by unfold cO;rw[D8,show((m:Int) - 1).toNat=m - 1 by omega];refine map_congr_left λ x _=>?_;show D.int (1+(x:Int))=D.int ((x+1:Nat):Int);rw[show(1:Int)+(x:Int)=((x+1:Nat):Int) by omega]
  rw[e1];have F1:=F0.trans (Fl.put (o:=.lst (((List.range (m - 1)).map (·+1)).map nD)) F0.aI mz);have h0:ah M0 p1 (.lst (((List.range (m - 1)).map (·+1)).map nD)) p0=some (.lst [.int 0]):=by rw[aj (a_ h0 mz)];exact h0
  have h1:ah M0 p1 (.lst (((List.range (m - 1)).map (·+1)).map nD)) p1=some (.lst (((List.range (m - 1)).map (·+1)).map nD)):=af;generalize ah M0 p1 (.lst (((List.range (m - 1)).map (·+1)).map nD))=M1 at*;refine⟨f,cc,p1,_,rfl,F1.aI,h1,by simp;omega,λ p2 ns M2 oE ik h2 F2=>?_⟩;have F3:=F1.trans F2;have h0:=F2.mv _ _ n0 h0;have uZ:=BG Mr oE;have hz:(0::ns)[0]?=some 0:=rfl;have u_:(0::ns).length=m:=by rw[uZ.length_eq,x6]
  refine iM h0 h2 (by rw[B5];rw[y4]at u_;exact small (by show 1+ns.length<=10000;omega)) λ po CM=>?_;have e2:[D.int 0]++ns.map nD=(0::ns).map nD:=rfl;rw[e2];generalize 0::ns=ord at*;have F4:=F3.trans (Fl.put (o:=.lst (ord.map nD)) F3.aI CM);have ho:ah M2 po (.lst (ord.map nD)) po=some (.lst (ord.map nD)):=af;generalize ah M2 po (.lst (ord.map nD))=M3 at*;have UY:∀x∈ord,x < m:=λ x hx=>mem_range.mp (uZ.mem_iff.mp hx);walk_at "rx";refine dR nD (λ x=>row (d_ ord (rows.getD x []))) (by omega) ho (λ i x N hx hN=>?_) ?_
  ·have Rg:=UY x (l4 hx);have oD:x < rows.length:=by omega
   have Wl:eW (rows.map row) (x:Int)=some (.tup ((rows.getD x []).map D.int)):=aR (by rw[u9,i5 oD,c7,i5 oD];rfl);have Wm:(rows.getD x []).length=h/\∀y∈rows.getD x [],0<=y/\y < (m:Int):=by rw[c7,i5 oD];exact G.tb.row _ (A1 oD)
   have:=G.tb.zo;walk_at "rx";refine dN Wl ?_;walk_at "rx";refine cM (enc:=D.int) (λ y=>.int (ord.idxOf y.toNat:Nat)) (by omega) (λ j y N hy hN=>?_) ?_
   ·have Mo:=Wm.2 y (l4 hy);walk_at "rx";refine⟨⟨rfl,_,ho⟩,?_⟩;walk_at "rx";rw[show D.int y=nD y.toNat by show _=D.int (y.toNat:Int);rw[show((y.toNat:Nat):Int)=y by omega]];refine fj nD cP.inj ho (uZ.mem_iff.mpr (mem_range.mpr (by omega))) cP.pl (by decide) ?_;exact hN
   ·walk_at "rx";have e3:(rows.getD x []).map (λ y=>D.int (ord.idxOf y.toNat:Nat))=(d_ ord (rows.getD x [])).map D.int:=by unfold d_;rw[D8];rfl
    rw[e3];exact hN
  ·intro pr Rl;have F5:=F4.trans (Fl.put (o:=.lst (ord.map λ x=>row (d_ ord (rows.getD x [])))) F4.aI Rl);have ho:ah M3 pr (.lst (ord.map λ x=>row (d_ ord (rows.getD x [])))) po=some (.lst (ord.map nD)):=by rw[aj (a_ ho Rl)];exact ho
   have e4:(ord.map λ x=>row (d_ ord (rows.getD x [])))=(ord.map λ x=>d_ ord (rows.getD x [])).map row:=by rw[D8];rfl
   have CH:ah M3 pr (.lst (ord.map λ x=>row (d_ ord (rows.getD x [])))) pr=some (.lst ((ord.map λ x=>d_ ord (rows.getD x [])).map row)):=by rw[af,e4]
   generalize ah M3 pr (.lst (ord.map λ x=>row (d_ ord (rows.getD x []))))=M4 at*;have TG:km m h (ord.map λ x=>d_ ord (rows.getD x [])):=NZ G uZ hz (by rw[B5];exact u_) λ d r hd=>by rw[u9]at hd;obtain⟨x,hx,rfl⟩:=Option.map_eq_some_iff.mp hd;exact⟨x,hx,ER G uZ (UY x (l4 hx))⟩
   generalize(ord.map λ x=>d_ ord (rows.getD x []))=jM at*;have YL:=L.cH;walk_at "rx";refine bP CH ?_;walk_at "rx";refine cM (enc:=D.int) (λ y=>.int (ord.idxOf y.toNat:Nat)) (by omega) (λ j y N hy hN=>?_) ?_
   ·have Mo:=L.2 y (l4 hy);walk_at "rx";refine⟨⟨rfl,_,ho⟩,?_⟩;walk_at "rx";rw[show D.int y=nD y.toNat by show _=D.int (y.toNat:Int);rw[show((y.toNat:Nat):Int)=y by omega]];refine fj nD cP.inj ho (uZ.mem_iff.mpr (mem_range.mpr (by omega))) cP.pl (by decide) ?_;exact hN
   ·intro pl hpl;have e5:ls.map (λ y=>D.int (ord.idxOf y.toNat:Nat))=(d_ ord ls).map D.int:=by unfold d_;rw[D8];rfl
    rw[e5];have F6:=F5.trans (Fl.put (o:=.lst ((d_ ord ls).map D.int)) F5.aI hpl);have h6:ah M4 pl (.lst ((d_ ord ls).map D.int)) pl=some (.lst ((d_ ord ls).map D.int)):=af;generalize ah M4 pl (.lst ((d_ ord ls).map D.int))=M5 at*;walk_at "rx";refine yD (d_ ord ls) h6 (by unfold d_;rw[B5];omega) λ xs ps Wc O1 HB=>?_;walk_at "rx";refine bP af ?_;walk_at "rx";exact az (k jM xs _ TG (AR uZ L Wc O1) (F6.trans (Fl.put F6.aI HB)))
end
def Aq:fb:=λ ds M Q=>∃(f c:Addr) (m h:Nat) (rows:List Row) (ls:Row),ds=[.ref f,cS rows ls]/\Flow M f c/\km m h rows/\m<=60/\∀(m':Nat) (rows:List Row) (ls:Row) (M':Mem),km m' h rows->m'<=m->f' m' ls->Fl f c M M'->Q (cS rows ls) M'
theorem uq{m h:Nat}{rows:List Row}(G:Tb m h rows){x:Nat}(hx:x < m):eW (rows.map row) (x:Int)=some (.tup ((rows.getD x []).map D.int))/\(rows.getD x []).length=h/\∀y∈rows.getD x [],0<=y/\y < (m:Int):=by
 have h0:x < rows.length:=by rw[G.len];exact hx
 rw[c7,i5 h0];exact⟨aR (by rw[u9,i5 h0];rfl),G.row _ (A1 h0)⟩
theorem Ck{K:List Nat}{x:Nat}(h:x < K.length):eW (K.map nD) (x:Int)=some (nD (kd K x)):=aR (by rw[u9,oA h];rfl)
theorem NY(x:Nat):DX x=nD x:=by show D.int (0+(x:Int))=_;rw[D4]
theorem IG{n i x:Nat}(h:(List.range n)[i]?=some x):x < n:=mem_range.mp (l4 h)
section
variable {P:Program}{w:World}{K:K2}{mg:Str->Option Value}{base:Heap}
theorem bA:aO ["_law_flow_here","_law_table","_law_steps","_law_special","_law_kinds","_law_many","_law_kept","_law_rows","_law_told"] ["_law_flow_here","_law_table"] (ay (top 22)):=⟨rfl,rfl,rfl,by decide+kernel,rfl,by decide+kernel,by decide+kernel⟩
theorem GH{f:Addr}{fd:FuncData}(F:f_ K "_law_merged" "_law_merged" (top 22) f fd)(T:iE K mg)(ar:bT P w K mg base 1 "_law_pick" ["_law_flow_here","_law_many"] eN):bZ P w K mg base fc 2 f fd ["_law_flow_here","_law_table"] (cx K Aq):=by
 refine iS F bA (λ ds M Q h=>?_) (λ c_ A outer s H E ds M Q hr h=>?_)
 ·obtain⟨f,c,m,h,rows,ls,rfl,_⟩:=h;rfl
 ·obtain⟨f,cc,m,h,rows,ls,rfl,hF,G,hm,k⟩:=h;have zg:cS rows ls=.tup [.tup (rows.map row),row ls]:=rfl;rw[zg];have Jf:=G.tb.len;have Mr:=G.tb.pos;have hh:=G.tb.zo;refine⟨_,(ae (au (i:=2) bA.nd rfl (Or.inr rfl) (aV aL (ao 1) ai (λ _ _=>rfl)))
 (ae (au (i:=3) bA.nd rfl (Or.inr rfl) (aF ar (hr.mono (by decide)) (by rfl) (aa (ao 0) (aa (aA bN (by rfl) T.len (by decide+kernel) (aa (ao 2) ab)) ab))))
 (ae (au (i:=4) bA.nd rfl (Or.inr rfl) (dq (tgs:=["_law_x"]) (fr:=[3]) ⟨aS (by kernel_rfl),rfl,(λ _ _ h=>h),(aN rfl T.range (aa (aA bN (by rfl) T.len (by decide+kernel) (aa (ao 2) ab)) ab)),(aG (λ _ _ _ _ _=>(aD (i:=0) (show(["_law_x","_law_special"]:List Str).Nodup by decide+kernel) rfl (Or.inl rfl))) (by decide)),(λ _ _ _ _ _=>aP),(λ _ _ _ _ _=>(bI mQ (by rfl) T.int (by decide+kernel) (aa (fS (cu hr.units) (ao 0) (ao 1) (aH _)) ab)))⟩))
 (ae (au (i:=5) bA.nd rfl (Or.inl rfl) ai)
 (ae (cR B1 (aK lZ (ao 5) (Aa rfl (by rfl) T.len (by rfl) T.set (aa (ao 4) ab)) (aH _))
 (ae (au (i:=5) bA.nd rfl (Or.inl rfl) (Aa rfl (by rfl) T.len (by rfl) T.set (aa (ao 4) ab)))
 (ae (au (i:=8) bA.nd rfl (Or.inr rfl) (dq (tgs:=["_law_x"]) (fr:=[4,2]) ⟨aS (by kernel_rfl),rfl,(λ _ _ h=>h),(aN rfl T.range (aa (aA bN (by rfl) T.len (by decide+kernel) (aa (ao 2) ab)) ab)),(aG (λ _ _ _ _ _=>(aD (i:=0) (show(["_law_x","_law_kinds","_law_steps"]:List Str).Nodup by decide+kernel) rfl (Or.inl rfl))) (by decide)),(λ _ _ _ _ _=>aP),(λ _ _ _ _ _=>(cE (aa (aV aL (ao 1) (ao 0) (λ _ _=>rfl)) (aa (dX bx bU (by rfl) T.tuple (by decide+kernel) (tgs:=["_law_y"]) (fr:=[1]) ⟨aS (by kernel_rfl),rfl,(λ _ _ h=>h),(bK (aV aL (ao 2) (ao 0) (λ _ _=>rfl))),(aG (λ _ _ _ _ _=>(aD (i:=0) (show(["_law_y","_law_kinds"]:List Str).Nodup by decide+kernel) rfl (Or.inl rfl))) (by decide)),(λ _ _ _ _ _=>aP),(λ _ _ _ _ _=>(aV aL (ao 1) (ao 0) (λ _ _=>rfl)))⟩) ab))))⟩))
 (ak (au (i:=4) bA.nd rfl (Or.inr rfl) (dq (tgs:=["_law_one"]) (fr:=[8]) ⟨aS (by kernel_rfl),rfl,(λ _ _ h=>h),(bK (ao 8)),(aG (λ _ _ _ _ _=>(aD (i:=0) (show(["_law_one","_law_told"]:List Str).Nodup by decide+kernel) rfl (Or.inl rfl))) (by decide)),(λ _ _ _ _ _=>aP),(λ _ _ _ _ _=>(cI i7 PySem.F.slot_list_index PySem.F.type_list_index (eD hr.units) (ao 1) (aa (ao 0) ab)))⟩))))))
 (ae (au (i:=6) bA.nd rfl (Or.inr rfl) (JC rfl (by rfl) T.sorted (by rfl) T.set (aa (ao 4) ab)))
 (ae (au (i:=7) bA.nd rfl (Or.inl rfl) (dX bx bU (by rfl) T.tuple (by decide+kernel) (tgs:=["_law_x"]) (fr:=[6,4,2]) ⟨aS (by kernel_rfl),rfl,(λ _ _ h=>h),(bK (ao 6)),(aG (λ _ _ _ _ _=>(aD (i:=0) (show(["_law_x","_law_kept","_law_kinds","_law_steps"]:List Str).Nodup by decide+kernel) rfl (Or.inl rfl))) (by decide)),(λ _ _ _ _ _=>aP),(λ _ _ _ _ _=>(dX bx bU (by rfl) T.tuple (by decide+kernel) (tgs:=["_law_y"]) (fr:=[1,2]) ⟨aS (by kernel_rfl),rfl,(λ _ _ h=>h),(bK (aV aL (ao 3) (ao 0) (λ _ _=>rfl))),(aG (λ _ _ _ _ _=>(aD (i:=0) (show(["_law_y","_law_kept","_law_kinds"]:List Str).Nodup by decide+kernel) rfl (Or.inl rfl))) (by decide)),(λ _ _ _ _ _=>aP),(λ _ _ _ _ _=>(cI i7 PySem.F.slot_list_index PySem.F.type_list_index (eD hr.units) (ao 1) (aa (aV aL (ao 2) (ao 0) (λ _ _=>rfl)) ab)))⟩))⟩))
 (ak (aQ (cE (aa (ao 7) (aa (dX bx bU (by rfl) T.tuple (by decide+kernel) (tgs:=["_law_k"]) (fr:=[0]) ⟨aS (by kernel_rfl),rfl,(λ _ _ h=>h),(aN rfl T.range (aa (aA bN (by rfl) T.len (by decide+kernel) (aa (ao 6) ab)) ab)),(aG (λ _ _ _ _ _=>(aD (i:=0) (show(["_law_k","_law_flow_here"]:List Str).Nodup by decide+kernel) rfl (Or.inl rfl))) (by decide)),(λ _ _ _ _ _=>(gJ (aK (cu hr.units) (aF ar (hr.mono (by decide)) (by rfl) (aa (ao 1) (aa ai ab))) ai (aH _)))),(λ _ _ _ _ _=>(ao 0))⟩) ab)))))))))))),?_⟩
  walk_at "rx";rw[B5,Jf];refine⟨f,cc,m,rfl,hF,by omega,by omega,λ d o h0 h1 C'=>?_⟩;have F1:Fl f cc M _:=Fl.pick C';generalize ah M f o=M1 at*;walk_at "rx";rw[B5,Jf];refine⟨bL (by omega) (by omega),?_⟩;rw[w6,eI];refine cM (xs:=List.range m) (enc:=DX) (λ x=>nD (if decide ((x:Int)=d)=true then 1 else 0)) (by rw[x6];omega) (λ i x N hx hN=>?_) ?_
  ·walk_at "rx";rw[D4];have e:nD (if decide ((x:Int)=d)=true then 1 else 0)=D.int (if decide ((x:Int)=d)=true then 1 else 0):=by split <;> rfl
   rw[<- e];exact hN
  intro p hp;have e0:(List.range m).map (λ x:Nat=>nD (if decide ((x:Int)=d)=true then 1 else 0))=((List.range m).map λ x:Nat=>if decide ((x:Int)=d)=true then 1 else 0).map nD:=by rw[D8];rfl
  rw[e0];have l0:((List.range m).map λ x:Nat=>if decide ((x:Int)=d)=true then 1 else 0).length=m:=by rw[B5,x6]
  generalize((List.range m).map λ x:Nat=>if decide ((x:Int)=d)=true then 1 else 0)=K0 at*;have F2:=F1.trans (Fl.put (o:=.lst (K0.map nD)) F1.aI hp);have h2:ah M1 p (.lst (K0.map nD)) p=some (.lst (K0.map nD)):=af;have nf:=(F1.aI.ne hp).1;generalize ah M1 p (.lst (K0.map nD))=M2 at*;walk_at "rx";refine cU ⟨λ me δ M'=>∃(p:Addr) (K:List Nat) (mn:Nat) (v8:Option D),δ=[some (.ref f),some (.tup [.tup (rows.map row),row ls]),some (.tup (rows.map row)),some (.int d),some (.ref p),some (.int mn),none,none,v8]/\M' p=some (.lst (K.map nD))/\K.length=m/\p≠f/\Fl f cc M M'/\(mn=0\/∃(K1:List Nat) (ks:List Int),Once ks (K1.map kI)/\K1.length=m/\mn=ks.length/\K=gQ (yo m rows K1))/\me=m+1 - mn,⟨_,p,K0,0,none,rfl,h2,l0,nf,F2,.inl rfl,rfl⟩,?_⟩;clear F2 h2 nf hp p l0 e0 K0 M2;rintro me δ M2 ⟨p,K,mn,v8,rfl,h2,lK,nf,F2,old,rfl⟩;have lk:(K.map kI).length < 64:=by rw[B5];omega
  have hK:M2 p=some (.lst ((K.map kI).map D.int)):=by rw[h2,Ja]
  walk_at "rx";refine⟨p,K.map kI,rfl,hK,lk,λ ks ho=>?_⟩;walk_at "rx";refine aJ (λ eR=>?_) (λ Nv=>?_)
  ·have fk:=ho.cH;rw[B5]at fk;refine⟨λ δ' M'=>∃(p2:Addr) (v8:Option D) (ks:List Int),δ'=[some (.ref f),some (.tup [.tup (rows.map row),row ls]),some (.tup (rows.map row)),some (.int d),some (.ref p2),some (.int (ks.length:Nat)),none,none,v8]/\M' p2=some (.lst ((gQ (yo m rows K)).map nD))/\p2≠f/\Fl f cc M M'/\Once ks (K.map kI),?_,?_⟩
   ·rintro δ' M' ⟨p2,v8,OU,rfl,g1,g2,g3,g4⟩;have:=BI ho g4;exact⟨_,by omega,p2,_,_,_,rfl,g1,by rw[pI,oT],g2,g3,.inr ⟨K,OU,g4,lK,rfl,rfl⟩,rfl⟩
   walk_at "rx";refine⟨p,K.map kI,rfl,hK,lk,λ OU CO=>?_⟩;walk_at "rx";rw[B5,Jf];refine⟨bL (by omega) (by omega),?_⟩;rw[w6,eI];refine cM (xs:=List.range m) (enc:=DX) (λ x=>DW (kd K x,(rows.getD x []).map λ y=>kd K y.toNat)) (by rw[x6];omega) (λ i x N hx hN=>?_) ?_
   ·have hx:=IG hx;obtain⟨r1,r2,r3⟩:=uq G.tb hx;walk_at "rx";rw[NY];refine bo h2 (Ck (by omega)) ?_;walk_at "rx";refine dN r1 ?_;walk_at "rx";refine cM (enc:=D.int) (λ y=>nD (kd K y.toNat)) (by omega) (λ j y N hy hN=>?_) ?_
    ·have hy:=r3 y (l4 hy);walk_at "rx";refine bo h2 (d:=nD (kd K y.toNat)) ?_ hN;have:=Ck (K:=K) (x:=y.toNat) (by omega)
     rwa [show((y.toNat:Nat):Int)=y by omega]at this
    ·walk_at "rx";have e:(rows.getD x []).map (λ y=>nD (kd K y.toNat))=((rows.getD x []).map λ y=>kd K y.toNat).map nD:=by rw[D8];rfl
     rw[e];exact hN
   intro q hq;have e1:(List.range m).map (λ x=>DW (kd K x,(rows.getD x []).map λ y=>kd K y.toNat))=(yo m rows K).map DW:=by unfold yo;rw[D8];rfl
   rw[e1];have lT:=oT m rows K;generalize yo m rows K=T at*;have F3:=F2.trans (Fl.put (o:=.lst (T.map DW)) F2.aI hq);have h3:ah M2 q (.lst (T.map DW)) q=some (.lst (T.map DW)):=af;generalize ah M2 q (.lst (T.map DW))=M3 at*;walk_at "rx";refine dR DW (λ t=>nD (Rb T t)) (by omega) h3 (λ i t N ht hN=>?_) ?_
   ·walk_at "rx";refine⟨⟨rfl,_,h3⟩,?_⟩;walk_at "rx";exact fj DW xu.inj h3 (l4 ht) xu.pl (by decide) hN
   ·intro p2 ik;walk_at "rx";have e2:T.map (λ t=>nD (Rb T t))=(gQ T).map nD:=by unfold gQ;rw[D8];rfl
    rw[e2];exact⟨p2,_,OU,rfl,af,(F3.aI.ne ik).1,F3.trans (Fl.put F3.aI ik),CO⟩
  ·have pk:=BH ho (by omega);obtain⟨K1,V4,o1,l1,e1,eK⟩:∃(K1:List Nat) (ks:List Int),Once ks (K1.map kI)/\K1.length=m/\mn=ks.length/\K=gQ (yo m rows K1):=by
    rcases old with e|e
    ·omega
    ·exact e
   have kn:Jx m h rows K:=by rw[eK];rw[eK]at ho;exact Mb G l1 o1 ho (by omega)
   clear old e1 eK o1 l1 K1 V4;walk_at "rx";refine⟨p,K.map kI,rfl,hK,lk,λ ns p3 asc mem Eb=>?_⟩;obtain⟨kept,rfl,asc,mem⟩:=Ho asc mem;rw[<- Ja];have F3:=F2.trans (Fl.put (o:=.lst (kept.map nD)) F2.aI Eb);have h3:ah M2 p3 (.lst (kept.map nD)) p3=some (.lst (kept.map nD)):=af;have h2:ah M2 p3 (.lst (kept.map nD)) p=some (.lst (K.map nD)):=by rw[aj (a_ h2 Eb)];exact h2
   generalize ah M2 p3 (.lst (kept.map nD))=M3 at*;have TG:=kn.tb G asc mem;have kb:∀x∈kept,x < m:=λ x hx=>by obtain⟨i,hi⟩:=getElem?_of_mem ((mem x).mp hx);have lt:=(g9.mp hi).1;rw[oA lt]at hi;cases hi;exact kn.lt _ (by omega)
   have kf:=Ie asc kb;walk_at "rx";refine dR nD (λ x=>row (D_ K kept (rows.getD x []))) (by omega) h3 (λ i x N hx hN=>?_) ?_
   ·obtain⟨r1,r2,r3⟩:=uq G.tb (kb x (l4 hx));walk_at "rx";refine dN r1 ?_;walk_at "rx";refine cM (enc:=D.int) (λ y=>.int (kept.idxOf (kd K y.toNat):Nat)) (by omega) (λ j y N hy hN=>?_) ?_
    ·have hy:=r3 y (l4 hy);walk_at "rx";refine⟨⟨rfl,_,h3⟩,?_⟩;walk_at "rx";refine bo h2 (d:=nD (kd K y.toNat)) ?_ ?_
     ·have:=Ck (K:=K) (x:=y.toNat) (by omega)
      rwa [show((y.toNat:Nat):Int)=y by omega]at this
     walk_at "rx";exact fj nD cP.inj h3 ((mem _).mpr (kd_mem (by omega))) cP.pl (by decide) hN
    ·walk_at "rx";have e:(rows.getD x []).map (λ y=>D.int (kept.idxOf (kd K y.toNat):Nat))=(D_ K kept (rows.getD x [])).map D.int:=by unfold D_;rw[D8];rfl
     rw[e];exact hN
   walk_at "rx";have e4:(kept.map λ x=>row (D_ K kept (rows.getD x [])))=(kept.map λ x=>D_ K kept (rows.getD x [])).map row:=by rw[D8];rfl
   rw[e4];generalize(kept.map λ x=>D_ K kept (rows.getD x []))=jM at*;rw[B5];refine⟨bL (by omega) (by omega),?_⟩;rw[w6];refine fP (λ i acc M7=>∃ls:Row,acc=ls.map D.int/\f' i ls/\Fl f cc M M7) ⟨[],rfl,f'.nil 0,F3⟩ (λ i acc M7 hi h=>?_) (λ i d acc M7 hd h=>?_) (λ acc M7 h=>?_)
   ·obtain⟨ls,rfl,L,_⟩:=h;rw[aM]at hi;have:=L.cH;rw[B5];exact small (by omega)
   ·obtain⟨ls,rfl,L,F7⟩:=h;obtain⟨hi,rfl⟩:=bQ hd;walk_at "rx";refine⟨f,cc,2,rfl,F7.aI,by decide,by decide,λ d o _ _ C'=>?_⟩;have F8:=F7.trans (Fl.pick C');generalize ah M7 f o=M8 at*;walk_at "rx";refine aJ (λ _=>?_) (λ _=>?_)
    ·walk_at "rx";exact⟨ls++[(i:Int)],by rw[B7,D4];rfl,L.add,F8⟩
    ·exact⟨ls,rfl,L.up,F8⟩
   ·obtain⟨ls,rfl,L,F7⟩:=h;rw[aM]at L;walk_at "rx";exact az (k _ jM ls _ TG kf L F7)
end
def An:fb:=λ ds M Q=>∃(a:Addr) (vs:Cs),ds=[.ref a]/\M a=some (.lst (vs.map nD))/\(∀x∈vs,x < 32)/\vs.length<=12/\∀(m:Nat) (rows:List Row) (ls:Row) (M':Mem),km m vs.length rows->m<=32->f' m ls->Ext M M'->Q (cS rows ls) M'
def Iy(vs:Cs)(i s:Nat):Nat:=s^^^vs.getD i 0
theorem EA{h:Nat}{vs:Cs}(hs:∀x∈vs,x < 32):Jy (λ s=>s∈List.range 32) h (Iy vs):=by
 have hz:∀i,vs.getD i 0 < 32:=λ i=>by
  rw[c7];cases e:vs[i]? with
  |none=>decide
  |some v=>exact hs v (l4 e)
 refine⟨λ s i _ hs=>?_,λ s i j _ _ _=>?_⟩
 ·exact mem_range.mpr (Nat.xor_lt_two_pow (n:=5) (mem_range.mp hs) (hz i))
 ·show s^^^_^^^_=s^^^_^^^_;rw[C7,C7,Nat.xor_comm (vs.getD j 0)]
section
variable {P:Program}{w:World}{K:K2}{mg:Str->Option Value}{base:Heap}
theorem bF:aO ["_law_values","_law_states","_law_rows","_law_row","_law_number_here","_law_then"] ["_law_values"] (ay (top 15)):=⟨rfl,rfl,rfl,by decide+kernel,rfl,by decide+kernel,by decide+kernel⟩
theorem GD{f:Addr}{fd:FuncData}(F:f_ K "_law_number_table" "_law_number_table" (top 15) f fd)(T:iE K mg):bZ P w K mg base fc 1 f fd ["_law_values"] (cx K An):=by
 refine iS F bF (λ ds M Q h=>?_) (λ c_ A outer s H E ds M Q hr h=>?_)
 ·obtain⟨a,vs,rfl,_⟩:=h;rfl
 ·obtain⟨a,vs,rfl,ha,h5,h6,k⟩:=h;have C:=EA (h:=vs.length) h5;have hz:0∈List.range 32:=by decide
  have Jj:(List.range 32).length=32:=by decide
  refine⟨_,(ae (au (i:=1) bF.nd rfl (Or.inl rfl) (bC (aa ai ab)))
 (ae (au (i:=2) bF.nd rfl (Or.inl rfl) (bC ab))
 (ae (cR B1 (aK lZ (aA bN (by rfl) T.len (by decide+kernel) (aa (ao 2) ab)) (aA bN (by rfl) T.len (by decide+kernel) (aa (ao 1) ab)) (aH _))
 (ae (au (i:=3) bF.nd rfl (Or.inl rfl) (bC ab))
 (ae (cD B1 rfl (bK (ao 0)) (bu (i:=4) bF.nd rfl (Or.inl rfl))
 (ae (au (i:=5) bF.nd rfl (Or.inl rfl) (aZ BP (aV aL (ao 1) (aA bN (by rfl) T.len (by decide+kernel) (aa (ao 2) ab)) (λ _ _=>rfl)) (ao 4)))
 (ae (bV (aK (gy hr.units) (ao 5) (ao 1) rfl)
 (ak (bB (cI i7 i4 i6 bb (ao 1) (aa (ao 5) ab))))
 bf)
 (ak (bB (cI i7 i4 i6 bb (ao 3) (aa (cI i7 PySem.F.slot_list_index PySem.F.type_list_index (eD hr.units) (ao 1) (aa (ao 5) ab)) ab)))))))
 (ak (bB (cI i7 i4 i6 bb (ao 2) (aa (bI bx (by rfl) T.tuple (by decide+kernel) (aa (ao 3) ab)) ab)))))))
 (ak (aQ (cE (aa (bI bx (by rfl) T.tuple (by decide+kernel) (aa (ao 2) ab)) (aa (cE (aa ai ab)) ab)))))))),?_⟩
  walk_at "rx";intro p hp;walk_at "rx";intro q hq;have X0:Sx nD (Iy vs) 0 vs.length (List.range 32) p q [0] [] M (ah (ah M p (.lst [.int 0])) q (.lst [])):=by have qE:p≠q:=a_ (show ah M p (.lst [.int 0]) p=some _ from af) hq;refine⟨Ext.new (Ext.new Ext.rfl hp _) hq _,hp,Ext.free (Ext.new Ext.rfl hp _) hq,qE,?_,af,nQ.start hz,by simp⟩;rw[aj qE,af];rfl
  generalize ah (ah M p (.lst [.int 0])) q (.lst [])=M6 at*;walk_at "rx";refine cU ⟨λ m δ M'=>∃(v3 v4 v5:Option D) (aX:List Nat) (rows:List Row),δ=[some (.ref a),some (.ref p),some (.ref q),v3,v4,v5]/\Sx nD (Iy vs) 0 vs.length (List.range 32) p q aX rows M M'/\m=40 - rows.length,⟨_,none,none,none,_,[],rfl,X0,rfl⟩,?_⟩;rintro m δ M' ⟨v3,v4,v5,aX,rows,rfl,X,rfl⟩;have hfew:=X.cH;rw[Jj]at hfew;have hst:=X.st;have mX:=X.nk;walk_at "rx";rw[B5,B5];refine aJ (λ eR=>?_) (λ Nv=>?_)
  ·obtain⟨s,hs⟩:∃s,aX[rows.length]?=some s:=⟨_,i5 (by omega)⟩;have Je:s∈List.range 32:=X.ex.sub s (l4 hs);refine⟨λ δ' oQ=>∃(v3 v4 v5:Option D) (aX:List Nat) (r:Row),δ'=[some (.ref a),some (.ref p),some (.ref q),v3,v4,v5]/\Sx nD (Iy vs) 0 vs.length (List.range 32) p q aX (rows++[r]) M oQ,?_,?_⟩
   ·rintro δ' oQ ⟨v3,v4,v5,aX,r,rfl,X⟩;exact⟨_,by rw[p6,k4];omega,v3,v4,v5,aX,_,rfl,X,rfl⟩
   ·walk_at "rx";intro pw CL;have fw:=X.free CL;have X1:=X.new CL (.lst []);have Mp:ah M' pw (.lst []) pw=some (.lst (([]:Row).map D.int)):=af;generalize ah M' pw (.lst [])=M7 at*;have W9:=X1.ext _ _ ha;walk_at "rx";refine sx (ds:=vs.map nD) (λ i δ M8=>∃(v4 v5:Option D) (aX:List Nat) (r:Row),δ=[some (.ref a),some (.ref p),some (.ref q),some (.ref pw),v4,v5]/\Sx nD (Iy vs) 0 vs.length (List.range 32) p q aX rows M M8/\M8 pw=some (.lst (r.map D.int))/\cC (Iy vs) aX s i r/\aX[rows.length]?=some s) ⟨v4,v5,aX,[],rfl,X1,Mp,cC.nil _ _ _,hs⟩ (λ i δ M8 _ h=>?_) (λ i d δ M8 hd h=>?_) (λ δ M8 h=>?_)
    ·obtain⟨_,_,_,_,_,X,_⟩:=h;exact X.ext _ _ ha
    ·obtain⟨v4,v5,aX,r,rfl,X,hw,hr,hs⟩:=h;rw[u9]at hd;obtain⟨y,hy,rfl⟩:=Option.map_eq_some_iff.mp hd;have CU:i < vs.length:=(g9.mp hy).1;have ey:vs.getD i 0=y:=by rw[c7,hy];rfl
     have hst:=X.st;have mX:=X.nk;walk_at "rx";rw[B5];refine bo X.st (d:=.int (s:Int)) (aR (by rw[u9,hs];rfl)) ?_
     with_reducible refine ju rfl ?_
     with_reducible refine II ?_
     rw[iy];refine dB ?_;have MB:(0:Nat)<=60:=by decide
     have Mq:(List.range 32).length<=300:=by rw[Jj];decide
     have My:=C.cl s i CU Je
     with_reducible refine ky cP MB X Mq h6 fw hw hr hs CU My ?_ ?_ ?_ (λ fI r' M' X' Jd CI jf=>?_)
     ·show some (some (nD (s^^^y)))=some (some (nD (Iy vs i s)));unfold Iy;rw[ey]
     ·rfl
     ·rfl
     ·exact⟨_,_,fI,r',rfl,X',Jd,CI,jf⟩
    ·obtain⟨v4,v5,aX,r,rfl,X,hw,hr,hs⟩:=h;rw[B5]at hr;have hfew:=X.cH;rw[Jj]at hfew;have mX:=X.nk;walk_at "rx";refine⟨⟨rfl,_,mX⟩,?_⟩;walk_at "rx";refine bP hw ?_;walk_at "rx";refine cA mX (by rw[B5];exact q8 (show rows.length<=300 by omega) (by decide)) ?_;exact⟨_,_,_,aX,r,rfl,X.next hs hr⟩
  ·have el:rows.length=aX.length:=by have:=X.le;omega
   have TG:=X.ex.tb C hz el (by omega) h6;walk_at "rx";refine bP mX ?_;walk_at "rx";exact az (k _ rows [0] _ TG (by omega) ⟨by simp,λ x hx=>by rw[r6.mp hx];have:=TG.tb.pos;omega⟩ X.ext)
end
theorem LX{n:Nat}{g:List fH}(G:vM n g)(h:∀z∈g,z.2.length<=20):∀x∈jY g n,x < 32:=λ x hx=>by
 obtain⟨i,hi⟩:=getElem?_of_mem hx;have lt:=(g9.mp hi).1;rw[fM]at lt;have e:=ON (g:=g) lt;rw[c7,hi]at e;have e:x=_:=e;have:=uO (λ j hj=>(BW ((g.getD i mY).2.map λ o=>(xd o (jY g i):Int))).2 j hj);rw[B5]at this;have hz:=h (g.getD i mY) (by
  rw[c7,i5 (by rw[G.len];exact lt)];exact A1 _)
 omega
section
variable {P:Program}{w:World}{K:K2}{mg:Str->Option Value}{base:Heap}
theorem ba:aO ["_law_flow_here","_law_form","_law_table"] ["_law_flow_here"] (ay (top 26)):=⟨rfl,rfl,rfl,by decide+kernel,rfl,by decide+kernel,by decide+kernel⟩
theorem BN{f:Addr}{fd:FuncData}(F:f_ K "_law_drawn_table" "_law_drawn_table" (top 26) f fd)(T:iE K mg)(ar:bT P w K mg base 1 "_law_pick" ["_law_flow_here","_law_many"] eN)(eA:bT P w K mg base 2 "_law_any_table" ["_law_flow_here","_law_many"] ug)(ke:bT P w K mg base 1 "_law_nim_table" ["_law_sizes","_law_last"] Ao)(zq:bT P w K mg base 5 "_law_nim" ["_law_flow_here","_law_most"] ID)(ip:bT P w K mg base 1 "_law_number_table" ["_law_values"] An)(nG:bT P w K mg base 2 "_law_numbers" ["_law_game_here"] IC)(vo:bT P w K mg base 6 "_law_game" ["_law_flow_here","_law_most","_law_deep"] Ay)(qc:bT P w K mg base 2 "_law_merged" ["_law_flow_here","_law_table"] Aq)(sL:bT P w K mg base 2 "_law_blown" ["_law_flow_here","_law_table"] wg)(jD:bT P w K mg base 3 "_law_renumbered" ["_law_flow_here","_law_table"] IB):bZ P w K mg base fc 7 f fd ["_law_flow_here"] (cx K (IA 32 6)):=by
 refine iS F ba (λ ds M Q h=>?_) (λ c_ A outer s H E ds M Q hr h=>?_)
 ·obtain⟨f,c,rfl,_⟩:=h;rfl
 ·obtain⟨f,cc,rfl,hF,k⟩:=h;refine⟨_,(ae (au (i:=1) ba.nd rfl (Or.inl rfl) (aF ar (hr.mono (by decide)) (by rfl) (aa (ao 0) (aa ai ab))))
 (ae (au (i:=2) ba.nd rfl (Or.inl rfl) (aF eA (hr.mono (by decide)) (by rfl) (aa (ao 0) (aa (aF ar (hr.mono (by decide)) (by rfl) (aa (ao 0) (aa ai ab))) ab))))
 (ae (bV (aK (cu hr.units) (ao 1) ai (aH _))
 (ak (au (i:=2) ba.nd rfl (Or.inl rfl) (aF ke (hr.mono (by decide)) (by rfl) (aa (aV aL (aF zq (hr.mono (by decide)) (by rfl) (aa (ao 0) (aa ai ab))) ai (λ _ _=>rfl)) (aa (aV aL (bC (aa gf (aa gf ab))) (aF ar (hr.mono (by decide)) (by rfl) (aa (ao 0) (aa ai ab))) (λ _ _=>rfl)) ab)))))
 bf)
 (ae (bV (aK (cu hr.units) (ao 1) ai (aH _))
 (ak (au (i:=2) ba.nd rfl (Or.inl rfl) (aF ip (hr.mono (by decide)) (by rfl) (aa (aF nG (hr.mono (by decide)) (by rfl) (aa (aF vo (hr.mono (by decide)) (by rfl) (aa (ao 0) (aa ai (aa ai ab)))) ab)) ab))))
 bf)
 (ae (bV (aK uM (ao 1) ai (aH _))
 (ak (au (i:=2) ba.nd rfl (Or.inl rfl) (aF qc (hr.mono (by decide)) (by rfl) (aa (ao 0) (aa (ao 2) ab)))))
 bf)
 (ae (bV (oR (aK lZ (aA bN (by rfl) T.len (by decide+kernel) (aa (aV aL (ao 2) ai (λ _ _=>rfl)) ab)) ai (aH _)) (kx (aK (cu hr.units) (aF ar (hr.mono (by decide)) (by rfl) (aa (ao 0) (aa ai ab))) ai (aH _)))).pt
 (ak (au (i:=2) ba.nd rfl (Or.inl rfl) (aF sL (hr.mono (by decide)) (by rfl) (aa (ao 0) (aa (ao 2) ab)))))
 bf)
 (ae (bV (aK (cu hr.units) (aF ar (hr.mono (by decide)) (by rfl) (aa (ao 0) (aa ai ab))) ai (aH _))
 (ak (au (i:=2) ba.nd rfl (Or.inl rfl) (aF jD (hr.mono (by decide)) (by rfl) (aa (ao 0) (aa (ao 2) ab)))))
 bf)
 (ak (aQ (ao 2)))))))))),?_⟩
  walk_at "rx";refine⟨f,cc,6,rfl,hF,by decide,by decide,λ d1 o1 Eg NB oF=>?_⟩;have F1:Fl f cc M _:=Fl.pick oF;generalize ah M f o1=M1 at*;walk_at "rx";refine⟨f,cc,7,rfl,F1.aI,by decide,by decide,λ d2 o2 Vh Vg xo=>?_⟩;have F2:=F1.trans (Fl.pick xo);generalize ah M1 f o2=M2 at*;obtain⟨n,rfl⟩:∃n:Nat,d2=(n:Int):=⟨d2.toNat,by omega⟩;walk_at "rx";refine⟨f,cc,n,rfl,F2.aI,by omega,λ m rows ls M3 G hm L Vx=>?_⟩;have F3:=F2.trans Vx;clear Vx;refine dB ?_
  with_reducible refine dO (λ δ' M'=>∃(m h:Nat) (rows:List Row) (ls:Row),δ'=[some (.ref f),some (.int d1),some (cS rows ls)]/\km m h rows/\m<=32/\h<=6/\f' m ls/\Fl f cc M M') (λ N hN=>?_) ?_
  ·walk_at "rx";refine aJ (λ _=>?_) (λ _=>?_)
   ·walk_at "rx";refine⟨f,cc,6,rfl,F3.aI,by decide,by decide,λ n g s sz M4 n1 n6 Gm sl s5 CG hs F4=>?_⟩;have F4:=F3.trans F4;walk_at "rx";intro pl hpl;have h8:ah M4 pl (.lst [.str "loses",.str "wins"]) pl=some (.lst [.str "loses",.str "wins"]):=af;have h7:ah M4 pl (.lst [.str "loses",.str "wins"]) s=some (.lst (sz.map nD)):=by rw[aj (a_ hs hpl)];exact hs
    have F8:=F4.trans (Fl.put (o:=.lst [.str "loses",.str "wins"]) F4.aI hpl);have nl:=(F4.aI.ne hpl).1;have ns:=(F3.aI.ne CG).1;generalize ah M4 pl (.lst [.str "loses",.str "wins"])=M8 at*;walk_at "rx";refine⟨f,cc,2,rfl,F8.aI,by decide,by decide,λ d9 o9 YW YV Xg=>?_⟩;have P:=Fl.pick Xg;have F9:=F8.trans P;have h7:=P.mv _ _ ns h7;have h8:=P.mv _ _ nl h8;generalize ah M8 f o9=M9 at*;obtain⟨l,Tr⟩:∃l:Str,eW [D.str "loses",D.str "wins"] d9=some (.str l):=by
     rcases(show d9=0\/d9=1 by omega)with rfl|rfl
     ·exact⟨_,rfl⟩
     ·exact⟨_,rfl⟩
    refine bo h8 Tr ?_;walk_at "rx";refine⟨s,sz,l,rfl,h7,s5,by omega,λ m rows ls M' G hm L hE=>?_⟩;refine dB ?_;exact hN _ _ ⟨m,_,rows,ls,rfl,G,by omega,by omega,L,F9.trans (jC hE F9.aI)⟩
   ·exact hN _ _ ⟨m,n,rows,ls,rfl,G,by omega,by omega,L,F3⟩
  clear L hm G rows ls m F3 M3;rintro δ' M3 ⟨m,h,rows,ls,rfl,G,hm,hh,L,F3⟩
  with_reducible refine dO (λ δ' M'=>∃(m h:Nat) (rows:List Row) (ls:Row),δ'=[some (.ref f),some (.int d1),some (cS rows ls)]/\km m h rows/\m<=32/\h<=6/\f' m ls/\Fl f cc M M') (λ N hN=>?_) ?_
  ·walk_at "rx";refine aJ (λ _=>?_) (λ _=>?_)
   ·walk_at "rx";refine⟨f,cc,5,5,rfl,F3.aI,by decide,by decide,λ n g M4 n1 n5 Gm cH F4=>?_⟩;have F4:=F3.trans F4;walk_at "rx";refine⟨n,g,rfl,Gm,λ p M5 hp h5 hE=>?_⟩;have F5:=F4.trans (jC hE F4.aI);walk_at "rx";refine⟨p,jY g n,rfl,h5,LX Gm cH,by rw[fM];omega,λ m rows ls M' G hm L hE=>?_⟩;refine dB ?_;exact hN _ _ ⟨m,_,rows,ls,rfl,G,hm,by rw[fM];omega,L,F5.trans (jC hE F5.aI)⟩
   ·exact hN _ _ ⟨m,h,rows,ls,rfl,G,hm,hh,L,F3⟩
  clear L hm G rows ls m F3 M3 hh h;rintro δ' M3 ⟨m,h,rows,ls,rfl,G,hm,hh,L,F3⟩
  with_reducible refine dO (λ δ' M'=>∃(m h:Nat) (rows:List Row) (ls:Row),δ'=[some (.ref f),some (.int d1),some (cS rows ls)]/\km m h rows/\m<=32/\h<=6/\f' m ls/\Fl f cc M M') (λ N hN=>?_) ?_
  ·walk_at "rx";refine aJ (λ _=>?_) (λ _=>?_)
   ·walk_at "rx";refine⟨f,cc,m,h,rows,ls,rfl,F3.aI,G,by omega,λ m' rows ls M4 G fu L F4=>?_⟩;refine dB ?_;exact hN _ _ ⟨m',h,rows,ls,rfl,G,by omega,hh,L,F3.trans F4⟩
   ·exact hN _ _ ⟨m,h,rows,ls,rfl,G,hm,hh,L,F3⟩
  clear L hm G rows ls m F3 M3 hh h;rintro δ' M3 ⟨m,h,rows,ls,rfl,G,hm,hh,L,F3⟩
  with_reducible refine dO (λ δ' M'=>∃(m h:Nat) (rows:List Row) (ls:Row),δ'=[some (.ref f),some (.int d1),some (cS rows ls)]/\km m h rows/\m<=32/\h<=6/\f' m ls/\Fl f cc M M') (λ N hN=>?_) ?_
  ·have Jf:=G.tb.len;have Pb:∀M',Fl f cc M M'->N [some (.ref f),some (.int d1),some (cS rows ls)] M':=λ M' F'=>hN _ _ ⟨m,h,rows,ls,rfl,G,hm,hh,L,F'⟩;have zg:cS rows ls=.tup [.tup (rows.map row),row ls]:=rfl;rw[zg]at Pb ⊢;walk_at "rx";rw[B5,Jf];refine aJ (λ WJ=>?_) (λ _=>?_)
   ·walk_at "rx";refine⟨f,cc,2,rfl,F3.aI,by decide,by decide,λ d5 o5 Xl Xk xj=>?_⟩;have F5:=F3.trans (Fl.pick xj);generalize ah M3 f o5=M5 at*;walk_at "rx";refine aJ (λ _=>?_) (λ _=>?_)
    ·walk_at "rx";refine⟨f,cc,m,h,rows,ls,rfl,F5.aI,G,by omega,by omega,λ m rows ls M6 G hm L F6=>?_⟩;refine dB ?_;exact hN _ _ ⟨m,h,rows,ls,rfl,G,by omega,hh,L,F5.trans F6⟩
    ·walk_at "rx";exact Pb _ F5
   ·walk_at "rx";exact Pb _ F3
  clear L hm G rows ls m F3 M3 hh h;rintro δ' M3 ⟨m,h,rows,ls,rfl,G,hm,hh,L,F3⟩;walk_at "rx";refine⟨f,cc,2,rfl,F3.aI,by decide,by decide,λ d5 o5 Xl Xk xj=>?_⟩;have F5:=F3.trans (Fl.pick xj);generalize ah M3 f o5=M5 at*;walk_at "rx";refine aJ (λ _=>?_) (λ _=>?_)
  ·walk_at "rx";refine⟨f,cc,m,h,rows,ls,rfl,F5.aI,G,by omega,L,λ rows ls M6 G L F6=>?_⟩;walk_at "rx";exact az (k m h rows ls _ G hm hh L (F5.trans F6))
  ·walk_at "rx";exact az (k m h rows ls _ G hm hh L F5)
end
section
variable {P:Program}{w:World}{K:K2}{mg:Str->Option Value}{base:Heap}
theorem cK:aO ["_law_flow_here","_law_many","_law_found","_law_h","_law_form"] ["_law_flow_here","_law_many"] (ay (top 27)):=⟨rfl,rfl,rfl,by decide+kernel,rfl,by decide+kernel,by decide+kernel⟩
theorem BM{f:Addr}{fd:FuncData}(F:f_ K "_law_great_sum" "_law_great_sum" (top 27) f fd)(T:iE K mg)(ar:bT P w K mg base 1 "_law_pick" ["_law_flow_here","_law_many"] eN):bZ P w K mg base fc 2 f fd ["_law_flow_here","_law_many"] (cx K wd):=by
 refine iS F cK (λ ds M Q h=>?_) (λ c_ A outer s H E ds M Q hr h=>?_)
 ·obtain⟨a,cc,b,rfl,_⟩:=h;rfl
 ·obtain⟨a,cc,n,rfl,hF,hz,k⟩:=h;refine⟨_,(ae (au (i:=2) cK.nd rfl (Or.inl rfl) (bC ab))
 (ae (cD B1 rfl (aN rfl T.range (aa (ao 1) ab)) (bu (i:=3) cK.nd rfl (Or.inl rfl))
 (ae (au (i:=4) cK.nd rfl (Or.inl rfl) (aF ar (hr.mono (by decide)) (by rfl) (aa (ao 0) (aa ai ab))))
 (ak (bB (cI i7 i4 i6 bb (ao 2) (aa (aV aL (bC (aa ai (aa ai (aa (aF ar (hr.mono (by decide)) (by rfl) (aa (ao 0) (aa ai ab))) (aa (aF ar (hr.mono (by decide)) (by rfl) (aa (ao 0) (aa (aZ wJ ai ai) ab))) (aa (aZ rN (aZ wJ ai ai) (aF ar (hr.mono (by decide)) (by rfl) (aa (ao 0) (aa (aZ wJ ai ai) ab)))) ab)))))) (ao 4) (λ _ _=>rfl)) ab))))))
 (ak (aQ (bI bx (by rfl) T.tuple (by decide+kernel) (aa (ao 2) ab)))))),?_⟩
  walk_at "rd";refine⟨by decide,λ p hp=>?_⟩;have tN:=(hF.ne hp).1;walk_at "rd";refine⟨bL (by omega) (by omega),?_⟩;rw[w6];refine eh (λ i δ M'=>∃(v1 v2:Option D) (ms:List Int),δ=[some (.ref a),some (.int n),some (.ref p),v1,v2]/\(ms.length=i/\∀x∈ms,0<=x/\x<=10^30)/\M' p=some (.lst (ms.map D.int))/\Fl a cc M M') ⟨none,none,[],rfl,⟨rfl,λ x h=>by cases h⟩,af,Fl.put hF hp⟩ (λ i d δ M' hd h=>?_) (λ δ M' h=>?_)
  ·obtain⟨v1,v2,ms,rfl,⟨h2,Ti⟩,h3,F1⟩:=h;obtain⟨hi,rfl⟩:=bQ hd;walk_at "rd";refine⟨a,cc,5,rfl,F1.aI,by decide,by decide,λ d1 o1 a0 a1 oF=>?_⟩;have F2:=F1.trans (Fl.pick oF);walk_at "rd";refine⟨⟨rfl,_,by rw[aj tN];exact h3⟩,?_⟩;walk_at "rd";refine⟨a,cc,6,rfl,oF,by decide,by decide,λ d2 o2 b0 b1 xo=>?_⟩;have F3:=F2.trans (Fl.pick xo);walk_at "rd";refine Fw ⟨by decide,by decide,by decide⟩ ?_;walk_at "rd";refine⟨a,cc,_,rfl,xo,by decide,by decide,λ d3 o3 c0 c1 xk=>?_⟩;have F4:=F3.trans (Fl.pick xk);walk_at "rd";refine Fw ⟨by decide,by decide,by decide⟩ ?_;walk_at "rd";refine Fw ⟨by decide,by decide,by decide⟩ ?_;walk_at "rd";refine⟨a,cc,_,rfl,xk,by decide,by decide,λ d4 o4 e0 e1 Rv=>?_⟩;have F5:=F4.trans (Fl.pick Rv);walk_at "rd";refine⟨small (by show 5<=10000;decide),λ q hq=>?_⟩;have NA:ah (ah (ah (ah M' a o1) a o2) a o3) a o4 p=some (.lst (ms.map D.int)):=by rw[aj tN,aj tN,aj tN,aj tN];exact h3
   have Wq:p≠q:=λ z=>by subst z;rw[NA]at hq;cases hq
   generalize ah (ah (ah (ah M' a o1) a o2) a o3) a o4=M5 at*;walk_at "rd";obtain⟨x,Rg,hx⟩:=DN (ns:=[0,1,d2,d3,_]) a0 (by show d1 < 5;exact a1);refine bo af hx ?_;walk_at "rd";refine cA (by rw[aj Wq];exact NA) (by rw[B5];exact q8 (show ms.length<=1000 by omega) (by decide)) ?_;walk_at "rd";refine⟨_,_,ms++[x],rfl,⟨by simp[h2],λ y hy=>?_⟩,by rw[af,B7];rfl,(F5.trans (Fl.put Rv hq)).own hF hp⟩;rcases B6.mp hy with q|q
   ·exact Ti y q
   ·have e:y=x:=by simpa using q
    subst e;have t6:(10:Int)^(6:Int).toNat=1000000:=by decide
    have VJ:(10:Int)^(30:Int).toNat=1000000000000000000000000000000:=by decide
    have R6:(10:Int)^30=1000000000000000000000000000000:=by decide
    rw[t6]at c1 e1;rw[VJ]at Rg;rw[R6];simp only[D1,not_mem_nil,or_false]at Rg;rcases Rg with z|z|z|z|z <;> omega
  ·obtain⟨v1,v2,ms,rfl,⟨h2,Ti⟩,h3,F1⟩:=h;rw[aM]at h2;walk_at "rd";exact bP h3 (az (k ms _ h2 Ti F1))
end
def Ax:fb:=λ ds M Q=>∃(m h:Nat) (rows:List Row) (x i n:Nat),ds=[.tup (rows.map row),.int x,.int i,.int n]/\Tb m h rows/\x < m/\i < h/\∀M',Ext M M'->Q (.int (fT (cG rows i) n x:Nat)) M'
def Iz:fb:=λ ds M Q=>∃(m h:Nat) (rows:List Row) (ls cs:Row),ds=[cS rows ls,row cs]/\Tb m h rows/\cs.length=h/\(∀x∈cs,0<=x)/\∀M',Ext M M'->Q (.int (tL rows 0 0 cs:Nat)) M'
theorem Kf{m h:Nat}{rows:List Row}(G:Tb m h rows){x i:Nat}(hx:x < m)(hi:i < h):eW ((rows.getD x []).map D.int) (i:Int)=some (nD (cG rows i x)):=by obtain⟨e1,e2,e3⟩:=G.at hx hi;refine aR ?_;rw[u9,i5 (by omega)];rw[c7 (l:=rows.getD x []),i5 (by omega)]at e2;exact J5 (λ z=>some (D.int z)) e2
theorem sE{cs:Row}{i:Nat}{d:D}(h:(dJ (cs.map D.int))[i]?=some d):i < cs.length/\cs[i]?=some (cs.getD i 0)/\cs.take (i+1)=cs.take i++[cs.getD i 0]/\d=.tup [.int (i:Int),.int (cs.getD i 0)]:=by
 obtain⟨hi,e⟩:=kT h;rw[B5]at hi;have e1:cs[i]?=some (cs.getD i 0):=by rw[c7,i5 hi];rfl
 refine⟨hi,e1,by rw[take_add_one,e1];rfl,?_⟩;rw[e,c7,u9,e1];rfl
def qB(f:Nat->Nat)(x k:Nat):List Nat:=(List.range k).map λ j=>fT f j x
theorem uC{f:Nat->Nat}{x k j:Nat}(h:j < k):(qB f x k)[j]?=some (fT f j x):=by unfold qB;rw[u9,l9 h];rfl
theorem iO(f:Nat->Nat)(x k:Nat):(qB f x k).length=k:=by simp[qB]
theorem rD(f:Nat->Nat)(x k:Nat):qB f x (k+1)=qB f x k++[fT f k x]:=by unfold qB;rw[range_succ,B7];rfl
section
variable {P:Program}{w:World}{K:K2}{mg:Str->Option Value}{base:Heap}
theorem fJ:aO ["steps","thing","heap","many","path","start"] ["steps","thing","heap","many"] (ay (top 1)):=⟨rfl,rfl,rfl,by decide+kernel,rfl,by decide+kernel,by decide+kernel⟩
theorem GN{f:Addr}{fd:FuncData}(F:f_ K "gone_by" "gone_by" (top 1) f fd)(T:iE K mg):bZ P w K mg base fc 1 f fd ["steps","thing","heap","many"] (cx K Ax):=by
 refine iS F fJ (λ ds M Q h=>?_) (λ c_ A outer s H E ds M Q hr h=>?_)
 ·obtain⟨m,h,rows,x,i,n,rfl,_⟩:=h;rfl
 ·obtain⟨m,h,rows,x,i,n,rfl,G,hx,hi,k⟩:=h;have hm:=G.cH;refine⟨_,(ae (au (i:=4) fJ.nd rfl (Or.inl rfl) (bC ab))
 (ae (cR B1 (aK (gy hr.units) (ao 1) (ao 4) rfl)
 (ae (bB (cI i7 i4 i6 bb (ao 4) (aa (ao 1) ab)))
 (ak (au (i:=1) fJ.nd rfl (Or.inl rfl) (aV aL (aV aL (ao 0) (ao 1) (λ _ _=>rfl)) (ao 2) (λ _ _=>rfl))))))
 (ae (bV (aK lZ (ao 3) (aA bN (by rfl) T.len (by decide+kernel) (aa (ao 4) ab)) (aH _))
 (ak (aQ (aV aL (ao 4) (ao 3) (λ _ _=>rfl))))
 bf)
 (ae (au (i:=5) fJ.nd rfl (Or.inl rfl) (cI i7 PySem.F.slot_list_index PySem.F.type_list_index (eD hr.units) (ao 4) (aa (ao 1) ab)))
 (ak (aQ (aV aL (ao 4) (aZ bp (ao 5) (aZ fm (aZ rN (ao 3) (ao 5)) (aZ rN (aA bN (by rfl) T.len (by decide+kernel) (aa (ao 4) ab)) (ao 5)))) (λ _ _=>rfl)))))))),?_⟩
  walk_at "rx";intro p hp;have E1:Ext M (ah M p (.lst [])):=Ext.new Ext.rfl hp _;have h1:ah M p (.lst []) p=some (.lst ((qB (cG rows i) x 0).map nD)):=af;generalize ah M p (.lst [])=M1 at*;walk_at "rx";have fl:=uV (G.uf hi);refine cU ⟨λ me δ M'=>∃j:Nat,δ=[some (.tup (rows.map row)),some (.int (fT (cG rows i) j x:Nat)),some (.int i),some (.int n),some (.ref p),none]/\M' p=some (.lst ((qB (cG rows i) x j).map nD))/\(qB (cG rows i) x j).Nodup/\Ext M M'/\me=m+1 - j,⟨_,0,rfl,h1,nodup_nil,E1,rfl⟩,?_⟩;clear E1 h1 M1;rintro me δ M1 ⟨j,rfl,h1,nd,E1,rfl⟩;have jm:j<=m:=by
   have:=List.Nodup.length_le_of_subset nd (l₂:=List.range m) λ y hy=>by obtain⟨a,_,rfl⟩:=D7.mp hy;exact mem_range.mpr (fl a x hx)
   rwa [iO,x6]at this
  walk_at "rx";refine lR (k:=0) (b:=decide (fT (cG rows i) j x∈qB (cG rows i) x j)) (ds:=(qB (cG rows i) x j).map nD) (du h1) (cP.pl _) (lV λ x _=>cP.pl x) (by decide) (by rw[decide_eq_true_iff];exact(pN cP.inj _).symm) ?_;refine gO (λ hn=>?_) (λ hn=>?_)
  ·have hn:fT (cG rows i) j x∉qB (cG rows i) x j:=by simpa using hn
   have V0:(qB (cG rows i) x (j+1)).Nodup:=by rw[rD];exact nodup_append.mpr ⟨nd,by simp,λ a ha b hb z=>hn (by rw[<- r6.mp hb,<- z];exact ha)⟩
   refine⟨λ δ' M'=>δ'=[some (.tup (rows.map row)),some (.int (fT (cG rows i) (j+1) x:Nat)),some (.int i),some (.int n),some (.ref p),none]/\M' p=some (.lst ((qB (cG rows i) x (j+1)).map nD))/\Ext M M',?_,?_⟩
   ·rintro δ' M' ⟨rfl,a1,a2⟩;exact⟨_,by omega,j+1,rfl,a1,V0,a2,rfl⟩
   obtain⟨r1,r2,r3⟩:=uq G (fl j x hx);walk_at "rx";refine⟨⟨rfl,_,h1⟩,?_⟩;walk_at "rx";refine cA h1 (by rw[B5,iO];exact q8 (show j<=300 by omega) (by decide)) ?_;walk_at "rx";refine dN r1 ?_;walk_at "rx";refine dN (Kf G (fl j x hx) hi) ?_;walk_at "rx";refine⟨?_,by rw[af,rD,B7];rfl,E1.own hp⟩;rw[Cu];rfl
  ·have hn:fT (cG rows i) j x∈qB (cG rows i) x j:=by simpa using hn
   walk_at "rx";rw[B5,iO];refine aJ (λ eR=>?_) (λ Nv=>?_)
   ·walk_at "rx";refine bo h1 (aR (by rw[u9,uC (by omega)];rfl)) ?_;exact az (k _ E1)
   ·have ha:=ij hn;have la:=(g9.mp ha).1;rw[iO]at la;walk_at "rx";refine⟨⟨rfl,_,h1⟩,?_⟩;walk_at "rx";refine fj nD cP.inj h1 hn cP.pl (by decide) ?_;generalize(qB (cG rows i) x j).idxOf (fT (cG rows i) j x)=a at*;rw[uC la]at ha;have er:=zc la (B0 ha).symm (n:=n) (by omega);walk_at "rx";rw[B5,iO];have em:((n:Int) - (a:Int)) % ((j:Int) - (a:Int))=(((n - a) % (j - a):Nat):Int):=by rw[show(n:Int) - (a:Int)=((n - a:Nat):Int) by omega,show(j:Int) - (a:Int)=((j - a:Nat):Int) by omega];exact(Int.natCast_emod _ _).symm
    have lb:=Nat.mod_lt (n - a) (show 0 < j - a by omega);generalize hb:(n - a) % (j - a)=b at*;refine uu (by omega) ?_;rw[em];walk_at "rx";refine bo h1 (d:=nD (fT (cG rows i) (a+b) x)) ?_ ?_
    ·have:=aR (xs:=(qB (cG rows i) x j).map nD) (j:=a+b) (v:=nD (fT (cG rows i) (a+b) x)) (by rw[u9,uC (by omega)];rfl)
     rwa [show((a+b:Nat):Int)=(a:Int)+(b:Int) by omega]at this
    ·rw[er];exact az (k _ E1)
theorem dU:aO ["table","counts","thing","heap","many"] ["table","counts"] (ay (top 2)):=⟨rfl,rfl,rfl,by decide+kernel,rfl,by decide+kernel,by decide+kernel⟩
theorem LM{f:Addr}{fd:FuncData}(F:f_ K "thing_of" "thing_of" (top 2) f fd)(T:iE K mg)(zt:bT P w K mg base 1 "gone_by" ["steps","thing","heap","many"] Ax):bZ P w K mg base fc 2 f fd ["table","counts"] (cx K Iz):=by
 refine iS F dU (λ ds M Q h=>?_) (λ c_ A outer s H E ds M Q hr h=>?_)
 ·obtain⟨m,h,rows,ls,cs,rfl,_⟩:=h;rfl
 ·obtain⟨m,h,rows,ls,cs,rfl,G,hc,hp,k⟩:=h;have zg:cS rows ls=.tup [.tup (rows.map row),row ls]:=rfl;rw[zg];have hh:=G.zo;refine⟨_,(ae (au (i:=2) dU.nd rfl (Or.inl rfl) ai)
 (ae (cD B1 rfl (gL rfl T.enumerate (aa (ao 1) ab)) (jh (n:=2) rfl (cq (bu (i:=3) dU.nd rfl (Or.inl rfl)) (cq (bu (i:=4) dU.nd rfl (Or.inl rfl)) gM)))
 (ak (au (i:=2) dU.nd rfl (Or.inl rfl) (aF zt (hr.mono (by decide)) (by rfl) (aa (aV aL (ao 0) ai (λ _ _=>rfl)) (aa (ao 2) (aa (ao 3) (aa (ao 4) ab))))))))
 (ak (aQ (ao 2))))),?_⟩
  walk_at "rx";refine eh (λ i δ M'=>∃(v3 v4:Option D),δ=[some (.tup [.tup (rows.map row),row ls]),some (row cs),some (.int (tL rows 0 0 (cs.take i):Nat)),v3,v4]/\Ext M M') ⟨none,none,rfl,Ext.rfl⟩ (λ i d δ M' hd h=>?_) (λ δ M' h=>?_)
  ·obtain⟨v3,v4,rfl,E1⟩:=h;obtain⟨hi,e,ex,rfl⟩:=sE hd;have hx:=hp _ (l4 e);obtain⟨n,en⟩:∃n:Nat,cs.getD i 0=(n:Int):=⟨(cs.getD i 0).toNat,by omega⟩;rw[en];walk_at "rx";refine⟨m,h,rows,_,i,n,rfl,G,ud G _ 0 0 (by rw[A0];omega) G.pos,by omega,λ M2 E2=>?_⟩;walk_at "rx";have et:tL rows 0 0 (cs.take (i+1))=fT (cG rows i) n (tL rows 0 0 (cs.take i)):=by rw[ex,en,lG,A0,Nat.min_eq_left (G0 hi),E3];rfl
   rw[et];exact⟨_,_,rfl,E1.trans E2⟩
  ·obtain⟨v3,v4,rfl,E1⟩:=h;rw[cL,B5,y7];walk_at "rx";exact az (k _ E1)
end
def Aw:fb:=λ ds M Q=>∃(m h:Nat) (rows:List Row) (ls cs:Row) (x:Nat),ds=[cS rows ls,.int x,row cs]/\Tb m h rows/\x < m/\cs.length=h/\(∀x∈cs,0<=x)/\∀M',Ext M M'->Q (.int (tL rows 0 x cs:Nat)) M'
theorem Cv{f:Nat->Nat}{n x:Nat}:fT (λ y=>f (f y)) (n / 2) (if n % 2=1 then f x else x)=fT f n x:=by
 have h2:fT f 2=λ y=>f (f y):=rfl;rw[<- h2,<- w_];have hm:=Nat.div_add_mod n 2;rcases Nat.mod_two_eq_zero_or_one n with e|e
 ·rw[e]at hm;rw[J9 (by omega),show 2*(n / 2)=n by omega]
 ·rw[e]at hm;rw[J8 e]
  conv=>rhs;rw[<- hm,Nat.add_comm,gT]
  rfl
section
variable {P:Program}{w:World}{K:K2}{mg:Str->Option Value}{base:Heap}
theorem bz:aO ["_law_table","_law_x","_law_counts_here","_law_h","_law_n","_law_step"] ["_law_table","_law_x","_law_counts_here"] (ay (top 29)):=⟨rfl,rfl,rfl,by decide+kernel,rfl,by decide+kernel,by decide+kernel⟩
theorem GL{f:Addr}{fd:FuncData}(F:f_ K "_law_great_thing" "_law_great_thing" (top 29) f fd)(T:iE K mg):bZ P w K mg base fc 1 f fd ["_law_table","_law_x","_law_counts_here"] (cx K Aw):=by
 refine iS F bz (λ ds M Q h=>?_) (λ c_ A outer s H E ds M Q hr h=>?_)
 ·obtain⟨m,h,rows,ls,cs,x,rfl,_⟩:=h;rfl
 ·obtain⟨m,h,rows,ls,cs,x,rfl,G,hx,hc,hp,k⟩:=h;have zg:cS rows ls=.tup [.tup (rows.map row),row ls]:=rfl;rw[zg];have hh:=G.zo;have hm:=G.cH;have Jf:=G.len;refine⟨_,(ae (cD B1 rfl (gL rfl T.enumerate (aa (ao 2) ab)) (jh (n:=2) rfl (cq (bu (i:=3) bz.nd rfl (Or.inr rfl)) (cq (bu (i:=4) bz.nd rfl (Or.inl rfl)) gM)))
 (ae (au (i:=5) bz.nd rfl (Or.inr rfl) (dq (tgs:=["_law_row"]) (fr:=[3]) ⟨aS (by kernel_rfl),rfl,(λ _ _ h=>h),(bK (aV aL (ao 0) ai (λ _ _=>rfl))),(aG (λ _ _ _ _ _=>(aD (i:=0) (show(["_law_row","_law_h"]:List Str).Nodup by decide+kernel) rfl (Or.inl rfl))) (by decide)),(λ _ _ _ _ _=>aP),(λ _ _ _ _ _=>(aV aL (ao 0) (ao 1) (λ _ _=>rfl)))⟩))
 (ak (cR B1 (aK uM (ao 4) ai (aH _))
 (ae (bV (aK (cu hr.units) (aZ fm (ao 4) ai) ai (aH _))
 (ak (au (i:=1) bz.nd rfl (Or.inl rfl) (aV aL (ao 5) (ao 1) (λ _ _=>rfl))))
 bf)
 (ae (au (i:=5) bz.nd rfl (Or.inr rfl) (dq (tgs:=["_law_y"]) (fr:=[5]) ⟨aS (by kernel_rfl),rfl,(λ _ _ h=>h),(bK (ao 5)),(aG (λ _ _ _ _ _=>(aD (i:=0) (show(["_law_y","_law_step"]:List Str).Nodup by decide+kernel) rfl (Or.inl rfl))) (by decide)),(λ _ _ _ _ _=>aP),(λ _ _ _ _ _=>(aV aL (ao 1) (ao 0) (λ _ _=>rfl)))⟩))
 (ak (au (i:=4) bz.nd rfl (Or.inl rfl) (aZ l_ (ao 4) ai)))))))))
 (ak (aQ (ao 1)))),?_⟩
  walk_at "rx";refine eh (λ i δ M'=>∃(v3 v4 v5:Option D),δ=[some (.tup [.tup (rows.map row),row ls]),some (.int (tL rows 0 x (cs.take i):Nat)),some (row cs),v3,v4,v5]/\Ext M M') ⟨none,none,none,rfl,Ext.rfl⟩ (λ i d δ M' hd h=>?_) (λ δ M' h=>?_)
  ·obtain⟨v3,v4,v5,rfl,E1⟩:=h;obtain⟨hi,e,ex,rfl⟩:=sE hd;have UM:=hp _ (l4 e);obtain⟨n,en⟩:∃n:Nat,cs.getD i 0=(n:Int):=⟨(cs.getD i 0).toNat,by omega⟩;rw[en];have ih:i < h:=by omega
   have ty:=ud G (cs.take i) 0 x (by rw[A0];omega) hx;have et:tL rows 0 x (cs.take (i+1))=fT (cG rows i) n (tL rows 0 x (cs.take i)):=by rw[ex,en,lG,A0,Nat.min_eq_left (G0 hi),E3];rfl
   rw[et];generalize tL rows 0 x (cs.take i)=y at*;clear et ex;have fl:=G.uf ih;walk_at "rx";refine cM (xs:=rows) (enc:=row) (λ r=>.int (r.getD i 0)) (by omega) (λ j r N hr hN=>?_) ?_
   ·have hl:=(G.row r (l4 hr)).1;rw[show row r=.tup (r.map D.int)from rfl];walk_at "rx";refine dN (gG (by omega)) hN
   intro q hq;have e1:(rows.map λ r=>D.int (r.getD i 0))=((List.range m).map (cG rows i)).map nD:=by
    refine ext_getElem? λ z=>?_;rw[D8,u9,u9];by_cases hz:z < m
    ·rw[l9 hz,i5 (by omega)];have:=(G.at hz ih).2.1;rw[c7 (l:=rows),i5 (by omega)]at this;exact J5 (λ z=>some (D.int z)) this
    ·rw[k8 (by omega),k8 (by rw[x6];omega)];rfl
   rw[e1];have E2:=E1.new hq (.lst (((List.range m).map (cG rows i)).map nD));have h2:ah M' q (.lst (((List.range m).map (cG rows i)).map nD)) q=some (.lst (((List.range m).map (cG rows i)).map nD)):=af;generalize ah M' q (.lst (((List.range m).map (cG rows i)).map nD))=M2 at*;clear e1 E1 hq;walk_at "rx";refine cU ⟨λ me δ M'=>∃(q:Addr) (g:Nat->Nat) (k z:Nat),δ=[some (.tup [.tup (rows.map row),row ls]),some (.int (z:Nat)),some (row cs),some (.int i),some (.int (k:Nat)),some (.ref q)]/\M' q=some (.lst (((List.range m).map g).map nD))/\(∀x,x < m->g x < m)/\z < m/\fT g k z=fT (cG rows i) n y/\Ext M M'/\k=me,⟨_,q,cG rows i,n,y,rfl,h2,fl,ty,rfl,E2,rfl⟩,?_⟩;clear h2 E2 q M2;rintro me δ M2 ⟨q,g,k,z,rfl,h2,gl,zl,ez,E2,rfl⟩;have ga:∀x,x < m->eW (((List.range m).map g).map nD) (x:Int)=some (nD (g x)):=λ x hx=>aR (by rw[u9,u9,l9 hx];rfl);walk_at "rx";refine aJ (λ eR=>?_) (λ Nv=>?_)
   ·refine⟨λ δ' M'=>∃(q:Addr),δ'=[some (.tup [.tup (rows.map row),row ls]),some (.int ((if k % 2=1 then g z else z:Nat):Int)),some (row cs),some (.int i),some (.int ((k / 2:Nat):Int)),some (.ref q)]/\M' q=some (.lst (((List.range m).map λ y=>g (g y)).map nD))/\Ext M M',?_,?_⟩
    ·rintro δ' M' ⟨q,rfl,a1,a2⟩;refine⟨_,by omega,q,λ y=>g (g y),k / 2,_,rfl,a1,λ x hx=>gl _ (gl _ hx),?_,?_,a2,rfl⟩
     ·split
      ·exact gl z zl
      ·exact zl
     ·rw[Cv];exact ez
    have ek:(k:Int) % 2=((k % 2:Nat):Int):=by omega
    have ed:(k:Int) / 2=((k / 2:Nat):Int):=by omega
    with_reducible refine dO (λ δ' M'=>M'=M2/\δ'=[some (.tup [.tup (rows.map row),row ls]),some (.int ((if k % 2=1 then g z else z:Nat):Int)),some (row cs),some (.int i),some (.int (k:Int)),some (.ref q)]) (λ N hN=>?_) ?_
    ·walk_at "rx";refine aJ (λ h1=>?_) (λ h1=>?_)
     ·walk_at "rx";refine bo h2 (ga z zl) ?_;walk_at "rx";refine hN _ _ ⟨rfl,?_⟩;rw[J8 (by omega)];rfl
     ·walk_at "rx";refine hN _ _ ⟨rfl,?_⟩;rw[J9 (by omega)]
    rintro δ' M' ⟨rfl,rfl⟩;walk_at "rx";refine dR (xs:=(List.range m).map g) nD (λ y=>nD (g y)) (by simp;omega) h2 (λ j y N hy hN=>?_) ?_
    ·walk_at "rx";refine bo h2 (ga y ?_) hN;rw[u9]at hy;obtain⟨v,hv,rfl⟩:=Option.map_eq_some_iff.mp hy;exact gl v (IG hv)
    intro q2 CJ;walk_at "rx";rw[ed];have e2:((List.range m).map g).map (λ y=>nD (g y))=((List.range m).map λ y=>g (g y)).map nD:=by rw[D8,D8];rfl
    rw[e2];exact⟨q2,rfl,af,E2.new CJ _⟩
   ·have k0:k=0:=by omega
    subst k0;rw[<- ez];exact⟨_,_,_,rfl,E2⟩
  ·obtain⟨v3,v4,v5,rfl,E1⟩:=h;rw[cL,B5,y7];walk_at "rx";exact az (k _ E1)
end
abbrev Ug(h:Nat)(r:Row):Prop:=r.length=h/\∀x∈r,0<=x
theorem RL(h:Nat):List.replicate ((h:Int).toNat) (D.int 0)=(List.replicate h (0:Int)).map D.int:=by rw[w6,map_replicate]
theorem qQ(rows:List Row):∀(h i x:Nat),tL rows i x (List.replicate h 0)=x
 |0,i,x=>rfl
 |h+1,i,x=>by rw[m7];show tL rows (i+1) (fT (cG rows i) (0:Int).toNat x) _=x;exact qQ rows h (i+1) x
section
variable {P:Program}{w:World}{K:K2}{mg:Str->Option Value}{base:Heap}
theorem gn:aO ["_law_script","_law_flow_here","_law_table","_law_many","_law_sums","_law_other","_law_one","_law_counts_here"] ["_law_script"] (ay (top 30)):=⟨rfl,rfl,rfl,by decide+kernel,rfl,by decide+kernel,by decide+kernel⟩
theorem LP{f:Addr}{fd:FuncData}(F:f_ K "law" "law" (top 30) f fd)(T:iE K mg)(vp:bT P w K mg base 1 "_law_flow" ["_law_script"] we)(i':bT P w K mg base 7 "_law_drawn_table" ["_law_flow_here"] (IA 32 6))(kg:bT P w K mg base 2 "_law_great_sum" ["_law_flow_here","_law_many"] wd)(eA:bT P w K mg base 2 "_law_any_table" ["_law_flow_here","_law_many"] ug)(gE:bT P w K mg base 6 "_law_alike" ["_law_found","_law_due"] (Az 5))(mM:bT P w K mg base 2 "thing_of" ["table","counts"] Iz)(i_:bT P w K mg base 1 "_law_great_thing" ["_law_table","_law_x","_law_counts_here"] Aw):bZ P w K mg base fc 8 f fd ["_law_script"] (cx K qV):=by
 refine iS F gn (λ ds M Q h=>?_) (λ c_ A outer s H E ds M Q hr h=>?_)
 ·obtain⟨ns,rfl,_⟩:=h;rfl
 ·obtain⟨ns,rfl,k⟩:=h;refine⟨_,(ae (au (i:=1) gn.nd rfl (Or.inr rfl) (aF vp (hr.mono (by decide)) (by rfl) (aa (ao 0) ab)))
 (ae (au (i:=2) gn.nd rfl (Or.inl rfl) (aF i' (hr.mono (by decide)) (by rfl) (aa (ao 1) ab)))
 (ae (au (i:=3) gn.nd rfl (Or.inr rfl) (aA bN (by rfl) T.len (by decide+kernel) (aa (aV aL (aV aL (ao 2) ai (λ _ _=>rfl)) ai (λ _ _=>rfl)) ab)))
 (ae (au (i:=4) gn.nd rfl (Or.inl rfl) (aZ bp (dq (tgs:=["_law_k"]) (fr:=[1,3]) ⟨aS (by kernel_rfl),rfl,(λ _ _ h=>h),(aN rfl T.range (aa ai ab)),(aG (λ _ _ _ _ _=>(aD (i:=0) (show(["_law_k","_law_flow_here","_law_many"]:List Str).Nodup by decide+kernel) rfl (Or.inl rfl))) (by decide)),(λ _ _ _ _ _=>aP),(λ _ _ _ _ _=>(aF kg (hr.mono (by decide)) (by rfl) (aa (ao 1) (aa (ao 2) ab))))⟩) (bC (aa (aZ eZ (cE (aa ai ab)) (ao 3)) ab))))
 (ae (au (i:=5) gn.nd rfl (Or.inl rfl) (aF eA (hr.mono (by decide)) (by rfl) (aa (ao 1) (aa (ao 3) ab))))
 (ae (cD B1 rfl (bK (bC (aa (ao 2) (aa (ao 5) (aa (ao 2) ab))))) (bu (i:=6) gn.nd rfl (Or.inl rfl))
 (ak (cD B1 rfl (bK (aZ bp (ao 4) (iH qZ (ao 4) iG (iF ai)))) (bu (i:=7) gn.nd rfl (Or.inl rfl))
 (ak (bV (JA (lq (aF gE (hr.mono (by decide)) (by rfl) (aa (aF mM (hr.mono (by decide)) (by rfl) (aa (ao 6) (aa (ao 7) ab))) (aa (aF i_ (hr.mono (by decide)) (by rfl) (aa (ao 6) (aa ai (aa (ao 7) ab)))) ab)))))
 (ak (aQ JH))
 bf)))))
 (ak (aQ (fS (cu hr.units) (aF mM (hr.mono (by decide)) (by rfl) (aa (ao 2) (aa (aV aL (ao 4) ai (λ _ _=>rfl)) ab))) ai (aH _)))))))))),?_⟩
  walk_at "rx";refine⟨ns,rfl,λ f cc M1 hF YT=>?_⟩;walk_at "rx";refine⟨f,cc,rfl,hF,λ m h rows ls M2 G hm hh L F2=>?_⟩;have zg:cS rows ls=.tup [.tup (rows.map row),row ls]:=rfl;have O9:=NX G.tb;rw[zg];walk_at "rx";refine dN O9.1 ?_;walk_at "rx";rw[B5,O9.2];refine⟨bL (by omega) (by omega),?_⟩;rw[eI];refine ir (β:=Row) row (λ ys M'=>Fl f cc M1 M'/\∀t∈ys,Ug h t) (by decide) ⟨F2,λ y h=>by cases h⟩ (λ i x ys M' N hx hl hI hN=>?_) (λ ys M3 hl hI=>?_)
  ·walk_at "rx";refine⟨f,cc,h,rfl,hI.1.aI,by omega,λ ms M4 ml mp F4=>?_⟩;refine hN ms _ ⟨hI.1.trans F4,λ t ht=>?_⟩;rcases B6.mp ht with e|e
   ·exact hI.2 t e
   ·rw[r6.mp e];exact⟨ml,λ x hx=>(mp x hx).1⟩
  obtain⟨F3,qD⟩:=hI;have hl:ys.length=3:=hl;intro p hp;have F4:=F3.trans (Fl.put (o:=.lst (ys.map row)) F3.aI hp);have h4:ah M3 p (.lst (ys.map row)) p=some (.lst (ys.map row)):=af;generalize ah M3 p (.lst (ys.map row))=M4 at*;walk_at "rx";refine rm (by omega) (by omega) ?_;rw[RL];walk_at "rx";intro q hq;have F5:=F4.trans (Fl.put (o:=.lst [row (List.replicate h 0)]) F4.aI hq);have h5:ah M4 q (.lst [row (List.replicate h 0)]) q=some (.lst ([List.replicate h 0].map row)):=af;have h4:ah M4 q (.lst [row (List.replicate h 0)]) p=some (.lst (ys.map row)):=by rw[aj (a_ h4 hq)];exact h4
  rw[show D.tup ((List.replicate h (0:Int)).map D.int)=row (List.replicate h 0)from rfl];generalize ah M4 q (.lst [row (List.replicate h 0)])=M5 at*;refine iM h4 h5 (small (by simp;omega)) λ r hr=>?_;rw[<- B7];have hz:(ys++[List.replicate h (0:Int)])[3]?=some (List.replicate h 0):=by rw[c6 (by omega),hl];rfl
  have SO:∀t∈ys++[List.replicate h (0:Int)],Ug h t:=λ t ht=>by
   rcases B6.mp ht with e|e
   ·exact qD t e
   ·rw[r6.mp e];exact⟨by simp,λ x hx=>by rw[eq_of_mem_replicate hx];exact Int.le_refl 0⟩
  have YA:(ys++[List.replicate h (0:Int)]).length=4:=by simp;omega
  generalize ys++[List.replicate h (0:Int)]=zs at*;have F6:=F5.trans (Fl.put (o:=.lst (zs.map row)) F5.aI hr);have h6:ah M5 r (.lst (zs.map row)) r=some (.lst (zs.map row)):=af;have nr:=(F5.aI.ne hr).1;generalize ah M5 r (.lst (zs.map row))=M6 at*;walk_at "rx";refine⟨f,cc,h,rfl,F6.aI,by omega,λ m2 jL IY M7 G2 sm L2 F7=>?_⟩;have h7:=F7.mv _ _ nr h6;clear h6 h5 h4 F6;walk_at "rx";intro w hw;have h8:ah M7 w (.lst [.tup [.tup (rows.map row),row ls],cS jL IY,.tup [.tup (rows.map row),row ls]]) r=some (.lst (zs.map row)):=by rw[aj (a_ h7 hw)];exact h7
  have UN:ah M7 w (.lst [.tup [.tup (rows.map row),row ls],cS jL IY,.tup [.tup (rows.map row),row ls]]) w=some (.lst ([(rows,ls),(jL,IY),(rows,ls)].map λ t:List Row×Row=>cS t.1 t.2)):=af;generalize ah M7 w (.lst [.tup [.tup (rows.map row),row ls],cS jL IY,.tup [.tup (rows.map row),row ls]])=M8 at*;have Wh:∀t∈[(rows,ls),(jL,IY),(rows,ls)],∃m,Tb m h t.1:=λ t ht=>by
   simp only[D1,not_mem_nil,or_false]at ht;rcases ht with rfl|rfl|rfl
   ·exact⟨m,G.tb⟩
   ·exact⟨m2,G2.tb⟩
   ·exact⟨m,G.tb⟩
  generalize[(rows,ls),(jL,IY),(rows,ls)]=ts at*;refine pB UN ?_;refine sx (ds:=ts.map λ t:List Row×Row=>cS t.1 t.2) (λ i δ M'=>∃v6 v7:Option D,δ=[some (.fl (ns.map D.int)),some (.ref f),some (.tup [.tup (rows.map row),row ls]),some (.int h),some (.ref r),some (cS jL IY),v6,v7]/\Ext M8 M') ⟨_,_,rfl,Ext.rfl⟩ (λ i δ M' _ h=>?_) (λ i d δ M' hd h=>?_) (λ δ M' h=>?_)
  ·obtain⟨_,_,_,hE⟩:=h;exact hE _ _ UN
  ·obtain⟨v6,v7,rfl,hE⟩:=h;rw[u9]at hd;obtain⟨t,ht,rfl⟩:=Option.map_eq_some_iff.mp hd;obtain⟨tr,tl⟩:=t;obtain⟨tm,Gt⟩:=Wh _ (l4 ht);have h9:=hE _ _ h8;walk_at "rx";refine oq h9 (by decide) λ q hq=>?_;rw[show Int.toNat 1=1 from rfl,<- map_take];have E9:=hE.new hq (.lst ((zs.take 1).map row));have Wr:ah M' q (.lst ((zs.take 1).map row)) q=some (.lst ((zs.take 1).map row)):=af;have h9:ah M' q (.lst ((zs.take 1).map row)) r=some (.lst (zs.map row)):=by rw[aj (a_ h9 hq)];exact h9
   generalize ah M' q (.lst ((zs.take 1).map row))=M9 at*;refine iM h9 Wr (small (by simp;omega)) λ u hu=>?_;rw[<- B7];have S5:∀t∈zs++zs.take 1,Ug h t:=λ t ht=>by
    rcases B6.mp ht with e|e
    ·exact SO t e
    ·exact SO t (mem_of_mem_take e)
   generalize zs++zs.take 1=us at*;have Yz:=E9.new hu (.lst (us.map row));have Eg:ah M9 u (.lst (us.map row)) u=some (.lst (us.map row)):=af;generalize ah M9 u (.lst (us.map row))=Uj at*;refine pB Eg ?_;refine sx (ds:=us.map row) (λ i δ M'=>∃v7:Option D,δ=[some (.fl (ns.map D.int)),some (.ref f),some (.tup [.tup (rows.map row),row ls]),some (.int h),some (.ref r),some (cS jL IY),some (cS tr tl),v7]/\Ext Uj M') ⟨_,rfl,Ext.rfl⟩ (λ i δ M' _ h=>?_) (λ i d δ M' hd h=>?_) (λ δ M' h=>?_)
   ·obtain⟨_,_,hE⟩:=h;exact hE _ _ Eg
   ·obtain⟨v7,rfl,Mz⟩:=h;rw[u9]at hd;obtain⟨c,hc,rfl⟩:=Option.map_eq_some_iff.mp hd;obtain⟨c1,c2⟩:=S5 c (l4 hc);walk_at "rx";refine⟨tm,h,tr,tl,c,rfl,Gt,c1,c2,λ Yv Vy=>?_⟩;walk_at "rx";refine⟨tm,h,tr,tl,c,0,rfl,Gt,Gt.pos,c1,c2,λ Y3 Yy=>?_⟩;walk_at "rx";refine⟨_,_,rfl,same_int _ _ _,?_⟩;walk_at "rx";exact⟨_,rfl,(Mz.trans Vy).trans Yy⟩
   ·obtain⟨v7,rfl,Mz⟩:=h;exact⟨_,_,rfl,Yz.trans Mz⟩
  ·obtain⟨v6,v7,rfl,hE⟩:=h;have h9:=hE _ _ h8;have UJ:=SO _ (l4 hz);walk_at "rx";refine bo h9 (d:=row (List.replicate h 0)) (aR (j:=3) (by rw[u9,hz];rfl)) ?_;walk_at "rx";refine⟨m,h,rows,ls,_,rfl,G.tb,UJ.1,UJ.2,λ Yv Vy=>?_⟩;rw[qQ];walk_at "rx";exact az (k _)
end
theorem Cy(K:K2):fZ K "bool":=⟨by kernel_rfl,by kernel_rfl,by kernel_rfl,by kernel_rfl,by kernel_rfl,by kernel_rfl⟩
theorem Hv(K:K2):fZ K "int":=⟨by kernel_rfl,by kernel_rfl,by kernel_rfl,by kernel_rfl,by kernel_rfl,by kernel_rfl⟩
theorem Cw(K:K2):fZ K "list":=⟨by kernel_rfl,by kernel_rfl,by kernel_rfl,by kernel_rfl,by kernel_rfl,by kernel_rfl⟩
theorem Hu(K:K2):fZ K "str":=⟨by kernel_rfl,by kernel_rfl,by kernel_rfl,by kernel_rfl,by kernel_rfl,by kernel_rfl⟩
theorem zd(K:K2):fZ K "tuple":=⟨by kernel_rfl,by kernel_rfl,by kernel_rfl,by kernel_rfl,by kernel_rfl,by kernel_rfl⟩
theorem L_{K:K2}{H:Hp}{a:Addr}{ns:List Int}(hO:Io H)(hS:dn K H a (ns.map V.int)):cx K qV [.ref a] H (λ v _=>v=.bl true) λ _ _ _=>False:=by
 have Tu:Ek K H a (ns.map V.int):=by
  rcases hS with(h|⟨o,h⟩)|h
  ·rcases hO a with z|⟨o,xs,z⟩
   ·rw[z]at h;cases h
   ·rw[z]at h;cases h
  ·exact .inl ⟨o,h⟩
  ·exact .inr h
 refine⟨[.fl (ns.map D.int)],λ _=>none,λ d _=>d=.bl true,aB.one (il.mpr ⟨a,_,rfl,Tu,fv ns⟩),λ a o e=>(by cases e),⟨ns,rfl,λ _=>rfl⟩,λ v H' d M' hd hm t e=>?_⟩;subst e;exact bq.mp hd
theorem Hg{A:Type}{P:List A->Prop}{n:Nat}(h:∀a t,t.length=n->P (a::t)):∀us:List A,us.length=n+1->P us
 |[],e=>nomatch e
 |a::t,e=>h a t (Nat.succ.inj e)
theorem nv{A:Type}{P:List A->Prop}(h:∀a,P [a]):∀us:List A,us.length=1->P us:=Hg λ a t e=>by rw[eq_nil_of_length_eq_zero e];exact h a
theorem ig{A:Type}{P:List A->Prop}(h:∀a b,P [a,b]):∀us:List A,us.length=2->P us:=Hg λ a=>nv (P:=λ t=>P (a::t)) (h a)
theorem Hh{A:Type}{P:List A->Prop}(h:∀a b c,P [a,b,c]):∀us:List A,us.length=3->P us:=Hg λ a=>ig (P:=λ t=>P (a::t)) (h a)
theorem OS{A:Type}{P:List A->Prop}(h:∀a b c d,P [a,b,c,d]):∀us:List A,us.length=4->P us:=Hg λ a=>Hh (P:=λ t=>P (a::t)) (h a)
structure df(K:K2)(mg:Str->Option Value)(x:Str)(i:Nat)(f:Addr)(d:FuncData):Prop where
 m:mg x=some (.ref f)
 F:f_ K x x (top i) f d
theorem all_mk{l:PySem.W.OpenLaw}{w:World}{K:K2}{mg:Str->Option Value}{f0 f1 f2 f3 f4 f5 f6 f7 f8 f9 XO XN XJ XI XH XG XF XE XD XC XB XA Xz Xy Xx Xw Xv Xu Vi:Addr}{d0 d1 d2 d3 d4 d5 d6 d7 d8 d9 Vq Vp X8 X7 X6 X5 X4 X3 X2 XZ NF Qc XY XX Vo XW XU XT:FuncData}{kV dc pm cd ct:Value}{an:Option Addr}
  (T:iE K mg)
  (t0:df K mg "gone_by" 1 f0 d0)
  (t1:df K mg "thing_of" 2 f1 d1)
  (t2:df K mg "_law_flow" 4 f2 d2)
  (t3:df K mg "_law_pick" 5 f3 d3)
  (t4:df K mg "_law_counted" 6 f4 d4)
  (t5:df K mg "_law_any_table" 7 f5 d5)
  (t6:df K mg "_law_nim_table" 8 f6 d6)
  (t7:df K mg "_law_name" 9 f7 d7)
  (t8:df K mg "_law_names" 10 f8 d8)
  (t9:df K mg "_law_key" 11 f9 d9)
  (Q1:df K mg "_law_in_order" 12 XO Vq)
  (Q0:df K mg "_law_counts" 13 XN Vp)
  (QZ:df K mg "_law_nim" 14 XJ X8)
  (QY:df K mg "_law_number_table" 15 XI X7)
  (QX:df K mg "_law_left_out" 16 XH X6)
  (QV:df K mg "_law_number" 17 XG X5)
  (QU:df K mg "_law_numbers" 18 XF X4)
  (QR:df K mg "_law_lengths" 19 XE X3)
  (QQ:df K mg "_law_options" 20 XD X2)
  (QP:df K mg "_law_game" 21 XC XZ)
  (QN:df K mg "_law_merged" 22 XB NF)
  (QM:df K mg "_law_blown" 23 XA Qc)
  (QK:df K mg "_law_shuffled" 24 Xz XY)
  (QJ:df K mg "_law_renumbered" 25 Xy XX)
  (QH:df K mg "_law_drawn_table" 26 Xx Vo)
  (QF:df K mg "_law_great_sum" 27 Xw XW)
  (NS:df K mg "_law_alike" 28 Xv XU)
  (QD:df K mg "_law_great_thing" 29 Xu XT)
  (VL:df K mg "law" 30 Vi (PySem.W.fnOf "law" "law" (eU (top 30)) (dE (top 30)) (ay (top 30)) .none kV dc pm an cd ct)):
  ∃fd:FuncData,(∀(s:Shared) (v:Value),BindsTo s fd ⟨[v],[]⟩ [("_law_script",v)])/\∀base:Heap,K.In base->base.Ns mainGlobals mg->bZ l.prog w K mg base fc 8 Vi fd ["_law_script"] (cx K qV):=by
 refine⟨PySem.W.fnOf "law" "law" (eU (top 30)) (dE (top 30)) (ay (top 30)) .none kV dc pm an cd ct,λ s v=>.of_eq rfl,λ base _ YS=>?_⟩;have b0:=t0.F.binds (ps:=["steps","thing","heap","many"]) λ _ _ _ _ _ _=>OS λ _ _ _ _=>rfl;have b1:=t1.F.binds (ps:=["table","counts"]) λ _ _ _ _ _ _=>ig λ _ _=>rfl;have b2:=t2.F.binds (ps:=["_law_script"]) λ _ _ _ _ _ _=>nv λ _=>rfl;have b3:=t3.F.binds (ps:=["_law_flow_here","_law_many"]) λ _ _ _ _ _ _=>ig λ _ _=>rfl;have b4:=t4.F.binds (ps:=["_law_value","_law_low","_law_wide"]) λ _ _ _ _ _ _=>Hh λ _ _ _=>rfl;have b5:=t5.F.binds (ps:=["_law_flow_here","_law_many"]) λ _ _ _ _ _ _=>ig λ _ _=>rfl;have b6:=t6.F.binds (ps:=["_law_sizes","_law_last"]) λ _ _ _ _ _ _=>ig λ _ _=>rfl;have b7:=t7.F.binds (ps:=["_law_flow_here"]) λ _ _ _ _ _ _=>nv λ _=>rfl;have b8:=t8.F.binds (ps:=["_law_flow_here","_law_many"]) λ _ _ _ _ _ _=>ig λ _ _=>rfl;have b9:=t9.F.binds (ps:=["_law_counts_here"]) λ _ _ _ _ _ _=>nv λ _=>rfl;have Ys:=Q1.F.binds (ps:=["_law_sums"]) λ _ _ _ _ _ _=>nv λ _=>rfl;have Yr:=Q0.F.binds (ps:=["_law_heaps","_law_many"]) λ _ _ _ _ _ _=>ig λ _ _=>rfl;have Yq:=QZ.F.binds (ps:=["_law_flow_here","_law_most"]) λ _ _ _ _ _ _=>ig λ _ _=>rfl;have Yp:=QY.F.binds (ps:=["_law_values"]) λ _ _ _ _ _ _=>nv λ _=>rfl;have Yo:=QX.F.binds (ps:=["_law_values"]) λ _ _ _ _ _ _=>nv λ _=>rfl;have Yn:=QV.F.binds (ps:=["_law_values","_law_counts_here"]) λ _ _ _ _ _ _=>ig λ _ _=>rfl;have Ym:=QU.F.binds (ps:=["_law_game_here"]) λ _ _ _ _ _ _=>nv λ _=>rfl;have Yl:=QR.F.binds (ps:=["_law_options_here"]) λ _ _ _ _ _ _=>nv λ _=>rfl;have Yk:=QQ.F.binds (ps:=["_law_flow_here","_law_ahead","_law_many","_law_deep"]) λ _ _ _ _ _ _=>OS λ _ _ _ _=>rfl;have Yj:=QP.F.binds (ps:=["_law_flow_here","_law_most","_law_deep"]) λ _ _ _ _ _ _=>Hh λ _ _ _=>rfl;have Yi:=QN.F.binds (ps:=["_law_flow_here","_law_table"]) λ _ _ _ _ _ _=>ig λ _ _=>rfl;have Yh:=QM.F.binds (ps:=["_law_flow_here","_law_table"]) λ _ _ _ _ _ _=>ig λ _ _=>rfl;have Yg:=QK.F.binds (ps:=["_law_flow_here","_law_things"]) λ _ _ _ _ _ _=>ig λ _ _=>rfl;have Yf:=QJ.F.binds (ps:=["_law_flow_here","_law_table"]) λ _ _ _ _ _ _=>ig λ _ _=>rfl;have Ye:=QH.F.binds (ps:=["_law_flow_here"]) λ _ _ _ _ _ _=>nv λ _=>rfl;have Yd:=QF.F.binds (ps:=["_law_flow_here","_law_many"]) λ _ _ _ _ _ _=>ig λ _ _=>rfl;have Vr:=NS.F.binds (ps:=["_law_found","_law_due"]) λ _ _ _ _ _ _=>ig λ _ _=>rfl;have Yc:=QD.F.binds (ps:=["_law_table","_law_x","_law_counts_here"]) λ _ _ _ _ _ _=>Hh λ _ _ _=>rfl;have cv:=bJ.of t3.F (GB t3.F T (P:=l.prog) (w:=w) (base:=base)) t3.m b3;have yg:=bJ.of t2.F (GP t2.F T (P:=l.prog) (w:=w) (base:=base)) t2.m b2;have x_:=bJ.of t7.F (GG t7.F T cv (P:=l.prog) (w:=w) (base:=base)) t7.m b7;have zW:=bJ.of t9.F (LQ t9.F T (P:=l.prog) (w:=w) (base:=base)) t9.m b9;have lh:=bJ.of Q1.F (BL Q1.F T zW (P:=l.prog) (w:=w) (base:=base)) Q1.m Ys;have jI:=bJ.of Q0.F (yO Q0.F T (P:=l.prog) (w:=w) (base:=base)) Q0.m Yr;have lg:=bJ.of t8.F (BJ t8.F T x_ (P:=l.prog) (w:=w) (base:=base)) t8.m b8;have zY:=bJ.of NS.F (LS NS.F T NS.m Vr (P:=l.prog) (w:=w) (base:=base) 5) NS.m Vr;have yc:=bJ.of QR.F (GK QR.F T (P:=l.prog) (w:=w) (base:=base)) QR.m Yl;have xX:=bJ.of QQ.F (GC QQ.F T cv yc jI lh (P:=l.prog) (w:=w) (base:=base)) QQ.m Yk;have yf:=bJ.of QP.F (GO QP.F T cv lg xX (P:=l.prog) (w:=w) (base:=base)) QP.m Yj;have zV:=bJ.of QZ.F (LO QZ.F T cv lg jI lh (P:=l.prog) (w:=w) (base:=base)) QZ.m Yq;have tT:=bJ.of QX.F (BK QX.F T (P:=l.prog) (w:=w) (base:=base)) QX.m Yo;have ya:=bJ.of QV.F (GI QV.F T (P:=l.prog) (w:=w) (base:=base)) QV.m Yn;have yb:=bJ.of QU.F (GJ QU.F T tT ya (P:=l.prog) (w:=w) (base:=base)) QU.m Ym;have zX:=bJ.of t4.F (LR t4.F T (P:=l.prog) (w:=w) (base:=base)) t4.m b4;have nT:=bJ.of t5.F (GQ t5.F T cv zX (P:=l.prog) (w:=w) (base:=base)) t5.m b5;have xZ:=bJ.of t6.F (GF t6.F T (P:=l.prog) (w:=w) (base:=base)) t6.m b6;have tW:=bJ.of QM.F (BO QM.F T cv (P:=l.prog) (w:=w) (base:=base)) QM.m Yh;have xW:=bJ.of QK.F (GA QK.F T cv (P:=l.prog) (w:=w) (base:=base)) QK.m Yg;have zU:=bJ.of QJ.F (LN QJ.F T xW (P:=l.prog) (w:=w) (base:=base)) QJ.m Yf;have x':=bJ.of QN.F (GH QN.F T cv (P:=l.prog) (w:=w) (base:=base)) QN.m Yi;have xY:=bJ.of QY.F (GD QY.F T (P:=l.prog) (w:=w) (base:=base)) QY.m Yp;have tV:=bJ.of QH.F (BN QH.F T cv nT xZ zV xY yb yf x' tW zU (P:=l.prog) (w:=w) (base:=base)) QH.m Ye;have tU:=bJ.of QF.F (BM QF.F T cv (P:=l.prog) (w:=w) (base:=base)) QF.m Yd;have ye:=bJ.of t0.F (GN t0.F T (P:=l.prog) (w:=w) (base:=base)) t0.m b0;have zT:=bJ.of t1.F (LM t1.F T ye (P:=l.prog) (w:=w) (base:=base)) t1.m b1;have yd:=bJ.of QD.F (GL QD.F T (P:=l.prog) (w:=w) (base:=base)) QD.m Yc;exact LP VL.F T yg tV tU nT zY zT yd
theorem walk{l:PySem.W.OpenLaw}{q:Program}{loose:List Str}{XP:(Str->Option Value)->Heap->Prop}{YP:World->Heap->Prop}{d:DefRec}{K:Params->K2}(hn:l.most=some 63)(CY:d.params.defaults=[])
  (hY:∀(w:World) (h:Heap),YP w h->(K w.params).In h)
  (F:∀(w:World) (mg:Str->Option Value) (fa:Addr) (h:Heap),(K w.params).In h->h.Ns mainGlobals mg->mg d.name=some (.ref fa)->
   ∃fd:FuncData,(∀(s:Shared) (u:Value),BindsTo s fd ⟨[u],[]⟩ [("_law_script",u)])/\∀base:Heap,(K w.params).In base->base.Ns mainGlobals mg->bZ l.prog w (K w.params) mg base fc 8 fa fd ["_law_script"] (cx (K w.params) qV)):
  PySem.W.WalkO q loose XP YP l.row.toRowW d [] (λ f vs=>PySem.call f vs):=
 L2.Ep (n:=63) (k:=8) (x:="_law_script") (CX:=λ _=>fc) (sp:=λ w=>cx (K w.params) qV) hn (by decide) CY ⟨rfl,by decide,by decide⟩ hY F (λ _ _ a ns hl hO hS=>L_ hO hS) λ _ _ _ _ _ z=>z
end KK
open PySem PySem.W PyProof.Rows
def PySem.W.Fast.tw4334234411153552773:Program:=PySem.Challenge.pw_lastloser_k17_things_of_great_sums
theorem PySem.W.Fast.te4334234411153552773 : PySem.Challenge.pw_lastloser_k17_things_of_great_sums = PySem.W.Fast.tw4334234411153552773 := rfl
def PySem.W.Fast.tw5597149773816509226:Nat:=0
def PySem.W.Fast.tw17389258389358423757:Nat:=0
def PySem.W.Fast.tw15475646942641724245:Nat:=0
def PySem.W.Fast.tw9754155305364309818:Nat:=0
def PySem.W.Fast.tw7734166288998425371:Nat:=0
def PySem.W.Fast.tw340943301801174815:Nat:=0
namespace KK
open L2
noncomputable def kE (P:Params)(x:Str)(t:Nat)(v:Value):DictEntry:={hash:=PyData.keyHash P x,key:=.str x t,val:=v}
noncomputable def kO (x:Str)(t l n r s u:Nat)(v w:Value):Obj:={cls:=.type "code",data:=.fields #[.str x t,.str x (t+1),.str "/claim/cut.py" (t+2),.int l 0,.int n 0,.int 0 0,.int 0 0,.int 3 0,.ref r,.bool true,.int 181 0,.ref (r+1),.none,v,w,.ref s,.int u 0,.int l 0,.str "/claim/cut.py" (u+1)]}
noncomputable def kF (x:Str)(i:Nat)(m:Str×Nat)(c:Nat)(d:Value:=.none):Obj:={cls:=.type "function",data:=.func (PySem.W.fnOf x x (eU (top i)) (dE (top i)) (ay (top i)) d .none .none (.str m.1 m.2) none (.ref c) .none)}
noncomputable def kP (x:Str)(a i:Nat)(m:Str×Nat)(t l n u q:Nat)(d:Value:=.none):List (Nat×Obj):=[(a,if q=0 then kO x t l n (a - 3) (a - 1) u .none .none else kO x t l n (a - 5) (a - 1) u (.ref (a - 3)) (.ref (a - 2))),(a+1,kF x i m a d)]
noncomputable def m0:Str×Nat:=("lastloser.things",187)
noncomputable def m1:Str×Nat:=("law_lastloser_k17_things_of_great_sums",212)
noncomputable def kD (P:Params):Obj:={cls:=.type "dict",data:=.dict #[kE P "__name__" 165 (.str "law_lastloser_k17_things_of_great_sums" 212),kE P "__doc__" 166 .none,kE P "__package__" 167 .none,kE P "__loader__" 168 (.builtin "__main__.__loader__#opaque"),kE P "__spec__" 169 .none,kE P "__annotations__" 170 (.ref 6),kE P "__builtins__" 171 (.ref 4),kE P "__file__" 173 (.str "/claim/cut.py" 172),kE P "__cached__" 174 .none,kE P "gone_by" 200 (.ref 21),kE P "thing_of" 211 (.ref 28),kE P "_law_flow" 220 (.ref 35),kE P "_law_pick" 230 (.ref 42),kE P "_law_counted" 239 (.ref 49),kE P "_law_any_table" 245 (.ref 54),kE P "_law_nim_table" 251 (.ref 59),kE P "_law_name" 257 (.ref 64),kE P "_law_names" 269 (.ref 71),kE P "_law_key" 275 (.ref 76),kE P "_law_in_order" 281 (.ref 81),kE P "_law_counts" 287 (.ref 86),kE P "_law_nim" 293 (.ref 91),kE P "_law_number_table" 305 (.ref 98),kE P "_law_left_out" 313 (.ref 105),kE P "_law_number" 324 (.ref 112),kE P "_law_numbers" 330 (.ref 117),kE P "_law_lengths" 336 (.ref 122),kE P "_law_options" 342 (.ref 127),kE P "_law_game" 348 (.ref 132),kE P "_law_merged" 354 (.ref 137),kE P "_law_blown" 360 (.ref 142),kE P "_law_shuffled" 370 (.ref 149),kE P "_law_renumbered" 376 (.ref 154),kE P "_law_drawn_table" 385 (.ref 161),kE P "_law_great_sum" 396 (.ref 168),kE P "_law_alike" 402 (.ref 173),kE P "_law_great_thing" 408 (.ref 178),kE P "law" 414 (.ref 183)] 38}
noncomputable def kK (P:Params):K2:=(3,kD P)::[kP "gone_by" 20 1 m0 189 2 4 198 1,kP "thing_of" 27 2 m0 201 11 2 209 1,kP "_law_flow" 34 4 m1 214 17 1 218 1,kP "_law_pick" 41 5 m1 221 19 2 228 1,kP "_law_counted" 48 6 m1 231 34 3 237 1,kP "_law_any_table" 53 7 m1 240 38 2 243 0,kP "_law_nim_table" 58 8 m1 246 55 2 249 0,kP "_law_name" 63 9 m1 252 69 1 255 0,kP "_law_names" 70 10 m1 258 78 2 267 1,kP "_law_key" 75 11 m1 270 88 1 273 0,kP "_law_in_order" 80 12 m1 276 90 1 279 0,kP "_law_counts" 85 13 m1 282 92 2 285 0,kP "_law_nim" 90 14 m1 288 94 2 291 0,kP "_law_number_table" 97 15 m1 294 109 1 303 1,kP "_law_left_out" 104 16 m1 306 121 1 311 1,kP "_law_number" 111 17 m1 314 126 2 322 1,kP "_law_numbers" 116 18 m1 325 132 1 328 0,kP "_law_lengths" 121 19 m1 331 137 1 334 0,kP "_law_options" 126 20 m1 337 143 4 340 0,kP "_law_game" 131 21 m1 343 160 3 346 0,kP "_law_merged" 136 22 m1 349 167 2 352 0,kP "_law_blown" 141 23 m1 355 179 2 358 0,kP "_law_shuffled" 148 24 m1 361 195 2 368 1,kP "_law_renumbered" 153 25 m1 371 201 2 374 0,kP "_law_drawn_table" 160 26 m1 377 205 1 383 1,kP "_law_great_sum" 167 27 m1 386 219 2 394 1,kP "_law_alike" 172 28 m1 397 225 2 400 0,kP "_law_great_thing" 177 29 m1 403 237 3 406 0,kP "law" 182 30 m1 409 246 1 412 0].flatten
noncomputable def kA:List Addr:=[3,20,21,27,28,34,35,41,42,48,49,53,54,58,59,63,64,70,71,75,76,80,81,85,86,90,91,97,98,104,105,111,112,116,117,121,122,126,127,131,132,136,137,141,142,148,149,153,154,160,161,167,168,172,173,177,178,182,183]
theorem tF{K:K2}{h:Heap}{mg:Str->Option Value}{x:Str}{i:Nat}(X:K.In h)(G:h.Ns mainGlobals mg)(m:Str×Nat)(c:Nat)(a:PySem.W.nsIn K mainGlobals x=some (some (.ref (c+1))):=by kernel_rfl)(l:K.lookup (c+1)=some (kF x i m c):=by kernel_rfl)(e:PySem.W.codeIn K (.ref c) x=true:=by kernel_rfl):df K mg x i (c+1) (PySem.W.fnOf x x (eU (top i)) (dE (top i)) (ay (top i)) .none .none .none (.str m.1 m.2) none (.ref c) .none):=
 ⟨PySem.W.mg_of X G a,MC (st:=top i) l e (by unfold PySem.W.keepIn;dsimp only;rw[l];rfl)⟩
theorem kn{K:K2}{h:Heap}{mg:Str->Option Value}{x:Str}(X:K.In h)(G:h.Ns mainGlobals mg)(e:PySem.W.nsIn K mainGlobals x=some none:=by kernel_rfl):mg x=none:=PySem.W.mg_none_of X G e
def pg:Program:={PySem.Challenge.pw_lastloser_k17_things_of_great_sums with main:={PySem.Challenge.pw_lastloser_k17_things_of_great_sums.main with body:=[top 0,top 1,top 2,top 3,top 4,top 5,top 6,top 7,top 8,top 9,top 10,top 11,top 12,top 13,top 14,top 15,top 16,top 17,top 18,top 19,top 20,top 21,top 22,top 23,top 24,top 25,top 26,top 27,top 28,top 29,top 30]}}
def lw:PySem.W.OpenLaw:={PySem.Challenge.rw_lastloser_k17_things_of_great_sums with prog:=pg}
end KK
set_option maxRecDepth 100000 in
set_option maxHeartbeats 0 in
theorem KK.pre:KK.lw.Holds:=by
 w_on;o_law;o_head (PySem.W.kHook KK.kK KK.kA (λ _=>by kernel_rfl));(case hw=>w_witness2)
 refine KK.walk (l:=KK.lw) rfl rfl (λ w h Y=>PySem.W.kIn_of Y) ?F
 case F=>
  intro w mg fa h KX G Pe;have hm:mg "law"=some (.ref fa):=Pe;have e:=hm.symm.trans (PySem.W.mg_of KX G (v:=.ref (182+1)) (by kernel_rfl));cases e;exact KK.all_mk ⟨KK.kn KX G,KK.kn KX G,KK.kn KX G,KK.kn KX G,KK.kn KX G,KK.kn KX G,KK.kn KX G,KK.kn KX G,KK.kn KX G,KK.kn KX G,KK.kn KX G,KK.kn KX G,KK.kn KX G,KK.kn KX G,KK.kn KX G,KK.kn KX G,KK.kn KX G,KK.Cy _,KK.Hv _,KK.Cw _,KK.Hu _,KK.zd _⟩ (KK.tF KX G KK.m0 20) (KK.tF KX G KK.m0 27) (KK.tF KX G KK.m1 34) (KK.tF KX G KK.m1 41) (KK.tF KX G KK.m1 48) (KK.tF KX G KK.m1 53) (KK.tF KX G KK.m1 58) (KK.tF KX G KK.m1 63) (KK.tF KX G KK.m1 70) (KK.tF KX G KK.m1 75) (KK.tF KX G KK.m1 80) (KK.tF KX G KK.m1 85) (KK.tF KX G KK.m1 90) (KK.tF KX G KK.m1 97) (KK.tF KX G KK.m1 104) (KK.tF KX G KK.m1 111) (KK.tF KX G KK.m1 116) (KK.tF KX G KK.m1 121) (KK.tF KX G KK.m1 126) (KK.tF KX G KK.m1 131) (KK.tF KX G KK.m1 136) (KK.tF KX G KK.m1 141) (KK.tF KX G KK.m1 148) (KK.tF KX G KK.m1 153) (KK.tF KX G KK.m1 160) (KK.tF KX G KK.m1 167) (KK.tF KX G KK.m1 172) (KK.tF KX G KK.m1 177) (KK.tF KX G KK.m1 182)
theorem PySem.Challenge.cw_lastloser_k17_things_of_great_sums_holds : PySem.Challenge.rw_lastloser_k17_things_of_great_sums.Holds :=
 KK.pre
