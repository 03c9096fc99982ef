import PyProof.Rows.All
import Wide.All
import OpenK.AllK
import Wide.FinOn
import Lean
import PyProof.EqAt
import PyProof.EqKinds
import PyProof.TupleCall
import PyProof.StrWalks
import PyProof.ConsumeWalk
import PyProof.TupleKey
import PyProof.DictFindH
import PyProof.P3Eq
import PyProof.DictRoadsH
import PyProof.Rows.TupTab
import KE.KSortTup
import PyProof.ZipIter
import PyProof.Draws
import PyProof.WalksMore
import PyProof.ListMulRoad
import PyProof.AutoListH
import PyProof.FactsAll.tuple_2
import PyProof.FactsAll.tuple
import PyProof.TupleIter
import PyProof.AttrMissHeap
import PyProof.DictIter
import PyProof.DictWalks
import KE.KDictSum
import KE.KDictOf
import PyProof.EnumMake
import KE.BitLaws
import PyProof.RaisesMany
import PyProof.ExcInit
import PyProof.ExcClass3
import PyProof.ExcArgsOwn
import PyProof.RulesTry
import PyProof.RulesAs
import PyProof.NsDelKeeps
import KE.KIsAll
import PyProof.Rows.SortWalk
import PyProof.Rows.Range3
import PySem.Challenge.RW_lastloser_k43_picks_refused
set_option tactic.hygienic false
local macro_rules|`(tactic|omega)=>`(tactic|lia)
local macro_rules|`(tactic|obtain $p:rcasesPatMed:=$t:term)=>`(tactic|first|(refine Classical.byContradiction fun k=>?_;rcases $t:term with $p:rcasesPatMed<;>(refine k ?_;clear k))|rcases $t:term with $p:rcasesPatMed)
set_option Elab.async false
set_option linter.all false
set_option maxRecDepth 100000
set_option maxHeartbeats 4000000
open List
def a0:=@PyProof.Rows.slot_tuple_getitem
def a8:=@PySem.wpAny_typeNameOfWhole_keyiter
def a9:=@PySem.F.slot_dict_keyiterator_next
def c4:=@PyProof.Rows.callWith_type1
def c5:=@PySem.F.slot_tuple_iterator_next
def c6:=@getElem?_append_right
def c7:=@getD_eq_getElem?_getD
def c8:=@getElem?_append_left
def c9:=@Array.getElem?_eq_getElem
def g8:=@drop_eq_getElem_cons
def g9:=@List.getElem?_eq_some_iff
def i0:=@List.getElem?_eq_none_iff
def i4:=@PySem.F.slot_list_append
def i5:=@getElem?_eq_getElem
def i6:=@PySem.F.type_list_append
def i7:=@PySem.F.plainAttrs_list
def i8:=@getElem?_replicate
def i9:=@PySem.wpAny_callSpecial?_slot
def j0:=@length_eq_zero_iff
def j1:=@Array.getElem?_eq_none
def j2:=@PySem.Heap.get?_push_of_some
def j3:=@PySem.Heap.get?_update_other
def j4:=@PySem.Heap.get?_update_self
def j5:=@mem_append_right
def j6:=@length_singleton
def j7:=@Array.getElem?_toList
def j8:=@length_replicate
def j9:=@getElem?_eq_none
def k4:=@mem_cons_of_mem
def k7:=@mem_of_getElem?
def k8:=@PySem.Around.under_plainId
def k9:=@PySem.Heap.SameBut.update
def l0:=@getElem?_range
def l3:=@PySem.mem_of_lookup
def l4:=@replicate_succ
def l5:=@Array.length_toList
def l6:=@PySem.Heap.get?_push_size
def l7:=@mem_cons_self
def l8:=@Bool.false_ne_true
def l9:=@length_append
def m5:=@Bool.false_eq_true
def m6:=@Int.emod_lt_of_pos
def m7:=@Nat.lt_of_le_of_lt
def m8:=@Nat.lt_of_lt_of_le
def m9:=@mem_singleton
def n0:=@PySem.wpAny_Call_Name_kw
def n4:=@getElem?_map
def n5:=@decide_eq_true_eq
def n6:=@Int.toNat_natCast
def n9:=@PySem.wpAny_newObj_type
def o7:=@flatten_cons
def o8:=@PySem.wpAny_truthy_bool
def o9:=@PySem.wpAny_pyIter_list
def p5:=@length_range
def p6:=@Option.isSome_map
def p7:=@List.size_toArray
def p8:=@PySem.SeqAt.eqAt_reads
def p9:=@lookup_cons
def q8:=@Nat.le_of_not_lt
def q9:=@length_cons
def r6:=@Nat.lt_of_not_le
def r9:=@take_length
def s9:=@PySem.wpAny_call_entry
def u3:=@PySem.F.plain_max_loop
def u4:=@Bool.and_eq_true
def u5:=@length_take
def u6:=@getElem_mem
def u7:=@Bool.eq_iff_iff
def u9:=@append_nil
def v7:=@find?_cons
def v8:=@decide_eq_false
def w5:=@PySem.wpAny_loadPart'
def w6:=@Int.emod_nonneg
def w9:=@Option.some.inj
def x3:=@PySem.PassesOwn.never
def x4:=@PySem.wpAny_passesOwn
def x5:=@PySem.codeAny_builtin
def x6:=@PySem.W.kia_one
def x8:=@length_map
def x9:=@mem_append
def y0:=@map_append
def y1:=@Nat.le_antisymm
def y2:=@decide_eq_true
def y3:=@PySem.wpAny_seqItems
def y4:=@PySem.Heap.size_push
def y6:=@PySem.wpAny_tryCatch
def y7:=@PySem.wpAny_holding
def y8:=@PySem.wpAny_attempt
def y9:=@PySem.Paired.length
def z0:=@Nat.lt_irrefl
def z4:=@map_cons
def z5:=@mem_cons
def z6:=@PySem.plainId_quiet
def z7:=@Nat.ne_of_lt
def z8:=@PySem.Heap.lt_size
def z9:=@mem_map
def A0:=@List.map_map
def A1:=@Nat.le_trans
def A2:=@Nat.le_refl
def A3:=@PySem.sizeLine_eq
def A4:=@Nat.zero_le
def A5:=@PySem.wpAny_field
def A6:=@PySem.wpAny_bind
def A7:=@PySem.wpAny_pure
def A8:=@PySem.call_meets
def A9:=@PySem.wpAny_mono
def B0:=@if_false
def B1:=@congrArg
def B2:=@Ne.symm
def B3:=@if_pos
def B4:=@if_neg
namespace L2
open PySem PySem.Spec PyProof.Rows
abbrev Key:=Sum Int Str
def j_:Key->Value->Bool
 | .inl k,v=>Value.isInt k v
 | .inr x,v=>Value.isStrOf x v
def O_(w:World):Key->Int
 | .inl k=>hashInt k
 | .inr x=>hashStr w x
theorem bp:∀{k:Key} {v:Value},j_ k v=true->(∃i t,k=Sum.inl i/\v=Value.int i t)\/(∃x t,k=Sum.inr x/\v=Value.str x t)
 | .inl i,v,h=>by
  obtain⟨t,e⟩:=Value.isInt_shape (k:=i) (v:=v) h
  exact .inl ⟨i,t,rfl,e⟩
 | .inr x,v,h=>by
  obtain⟨t,e⟩:=Value.isStrOf_shape (x:=x) (v:=v) h
  exact .inr ⟨x,t,rfl,e⟩
theorem wR(i:Int)(t:Tok):j_ (.inl i) (.int i t)=true:=by simp[j_,Value.isInt]
theorem wQ(x:Str)(t:Tok):j_ (.inr x) (.str x t)=true:=by simp[j_,Value.isStrOf]
theorem IT(a b:Int):decide ((Sum.inl a:Key)=Sum.inl b)=(a==b):=by
 by_cases e:a=b
 ·subst e;simp
 ·have h:¬(Sum.inl a:Key)=Sum.inl b:=λ q=>e (Sum.inl.inj q)
  rw[v8 h]
  exact(beq_eq_false_iff_ne.mpr e).symm
theorem IM(a b:Str):decide ((Sum.inr a:Key)=Sum.inr b)=decide (a=b):=by
 by_cases e:a=b
 ·subst e;simp
 ·have h:¬(Sum.inr a:Key)=Sum.inr b:=λ q=>e (Sum.inr.inj q)
  rw[v8 h,v8 e]
theorem IS(a:Int)(b:Str):decide ((Sum.inl a:Key)=Sum.inr b)=false:=v8 (λ q=>nomatch q)
theorem IP(a:Str)(b:Int):decide ((Sum.inr a:Key)=Sum.inl b)=false:=v8 (λ q=>nomatch q)
def bG(prog:Program)(w:World):PySem.KeyKind prog w Key where
 is:=j_
 hash:=O_ w
 inj:=λ v a b ha hb=>by
  rcases bp ha with⟨i,t,rfl,rfl⟩|⟨x,t,rfl,rfl⟩
  ·rcases bp hb with⟨j,u,rfl,e⟩|⟨y,u,rfl,e⟩
   ·injection e with e1 _;rw[e1]
   ·exact nomatch e
  ·rcases bp hb with⟨j,u,rfl,e⟩|⟨y,u,rfl,e⟩
   ·exact nomatch e
   ·injection e with e1 _;rw[e1]
 byValue:=λ k v h=>by
  rcases bp h with⟨i,t,rfl,rfl⟩|⟨x,t,rfl,rfl⟩ <;> rfl
 pyHash:=λ hv h=>by
  rcases bp hv with⟨i,t,rfl,rfl⟩|⟨x,t,rfl,rfl⟩
  ·exact wpAny_pyHash_int h
  ·exact wpAny_pyHash_str h
 eqBool:=λ hu hv h=>by
  rcases bp hu with⟨i,t,rfl,rfl⟩|⟨x,t,rfl,rfl⟩
  ·rcases bp hv with⟨j,u,rfl,rfl⟩|⟨y,u,rfl,rfl⟩
   ·rw[IT]at h;exact wpAny_eqBool_int h
   ·rw[IS]at h;exact SeqAt.EqAt.int_str i t y u _ _ _ _ h
  ·rcases bp hv with⟨j,u,rfl,rfl⟩|⟨y,u,rfl,rfl⟩
   ·rw[IP]at h;exact SeqAt.EqAt.str_int x t j u _ _ _ _ h
   ·rw[IM]at h;exact wpAny_eqBool_str h
 «strs»:=λ k x t v h=>by
  rcases bp h with⟨i,u,rfl,e⟩|⟨y,u,rfl,e⟩
  ·exact nomatch e
  ·injection e with e1 _
   subst e1
   cases v <;> rfl
theorem iG(prog:Program)(w:World)(i:Int)(t:Tok):(bG prog w).is (.inl i) (.int i t)=true:=wR i t
theorem qd(prog:Program)(w:World)(x:Str)(t:Tok):(bG prog w).is (.inr x) (.str x t)=true:=wQ x t
inductive V where
 |a_|bl (b:Bool)|int (i:Int)|str (x:Str)|xQ (b:Array UInt8)|Jr (b:UInt64)|ref (a:Addr)|ty (n:String)
 deriving DecidableEq
def RelV:V->Value->Prop
 | .a_,u=>u=Value.none
 | .bl b,u=>u=Value.bool b
 | .int i,u=>∃t,u=Value.int i t
 | .str x,u=>∃t,u=Value.str x t
 | .xQ b,u=>∃t,u=Value.bytes b t
 | .Jr b,u=>∃t,u=Value.float b t
 | .ref a,u=>u=Value.ref a
 | .ty n,u=>u=Value.type n
abbrev Vals:List V->List Value->Prop:=Paired RelV
theorem Vals.length {xs:List V}{us:List Value}(r:Vals xs us):xs.length=us.length:=y9 r
theorem Vals.get:∀{xs:List V} {us:List Value} {i:Nat} {x:V},Vals xs us->xs[i]?=some x->∃u,us[i]?=some u/\RelV x u
 |_,_,_,_,.nil,e=>by simp at e
 |_,_,0,_,.cons r _,e=>by simp at e;subst e;exact⟨_,rfl,r⟩
 |_,_,i+1,x,.cons _ t,e=>by
  obtain⟨u,h1,h2⟩:=Vals.get (i:=i) (x:=x) t (by simpa using e)
  exact⟨u,by simpa using h1,h2⟩
theorem Vals.set {x:V}{u:Value}(r:RelV x u):∀{xs:List V} {us:List Value} (i:Nat),Vals xs us->Vals (xs.set i x) (us.set i u)
 |_,_,_,.nil=>.nil
 |_,_,0,.cons _ t=>.cons r t
 |_,_,i+1,.cons q t=>.cons q (Vals.set r i t)
theorem Vals.append:∀{xs ys:List V} {us ws:List Value},Vals xs us->Vals ys ws->Vals (xs++ys) (us++ws)
 |_,_,_,_,.nil,s=>s
 |_,_,_,_,.cons r t,s=>.cons r (Vals.append t s)
theorem Vals.take:∀{xs:List V} {us:List Value} (n:Nat),Vals xs us->Vals (xs.take n) (us.take n)
 |_,_,0,_=>.nil
 |_,_,_+1,.nil=>.nil
 |_,_,n+1,.cons r t=>.cons r (Vals.take n t)
theorem Vals.drop:∀{xs:List V} {us:List Value} (n:Nat),Vals xs us->Vals (xs.drop n) (us.drop n)
 |_,_,0,r=>r
 |_,_,_+1,.nil=>.nil
 |_,_,n+1,.cons _ t=>Vals.drop n t
theorem Vals.none_of:∀{xs:List V} {us:List Value} {i:Nat},Vals xs us->xs[i]?=none->us[i]?=none:=λ{xs us i} r e=>by
 have h1:=r.length
 have h2:xs.length<=i:=i0.mp e
 exact i0.mpr (by omega)
def fb:Option V->Option Value->Prop
 |some v,some u=>RelV v u
 |none,none=>True
 |_,_=>False
def KV{κ:Type}:List (κ×V)->List (κ×Value)->Prop:=Paired λ(p:κ×V) (q:κ×Value)=>p.1=q.1/\RelV p.2 q.2
def kV:Key->V
 | .inl i=>.int i
 | .inr x=>.str x
inductive HO where
  |lst (xs:List V)
  |tup (xs:List V)
  |dK (kvs:List (Key×V))|dT (kvs:List (List Key×V))
  |set (S:Int->Bool) (n:Nat)
  |ins (C dx:Addr) (fs:List (Str×V))
  |own (x:Addr)
  |xd (fs:List (Str×V))
  |met (f x:Addr)
  |Oy (lo hi:Int)
  |jm (o:Obj) (u:HO)
  |GH (ps:Array Value)
  |ext (φ:Heap->Prop)
abbrev Hp:=Addr->Option HO
def upd(H:Hp)(a:Addr)(o:HO):Hp:=λ b=>if b=a then some o else H b
theorem aI{H:Hp}{a:Addr}{o:HO}:upd H a o a=some o:=by unfold upd;rw[B3 rfl]
theorem av{H:Hp}{a b:Addr}{o:HO}(h:b≠a):upd H a o b=H b:=by unfold upd;rw[B4 h]
theorem m_{H:Hp}{a:Addr}{o u:HO}:upd (upd H a o) a u=upd H a u:=by
 funext b;unfold upd;split <;> rfl
theorem gc{H:Hp}{a b:Addr}{o u:HO}(h:H a=some o)(h':H b=some u)(d:o≠u):a≠b:=by
 intro e;subst e;rw[h]at h';exact d (w9 h')
theorem aD{H:Hp}{a b:Addr}{o:HO}(h:H a=some o)(h':H b=none):a≠b:=by
 intro e;subst e;rw[h]at h';cases h'
section
variable (P:Program)(w:World)
def bb(H:Hp)(h:Heap)(a:Addr):HO->Prop
 | .lst xs=>xs.length<=sizeLine/\∃(ah:List Value) (n:Nat),Vals xs ah/\h.get? a=some {cls:=.type "list",data:=.seq ah.toArray n}
 | .tup xs=>xs.length<=sizeLine/\∃ah:List Value,Vals xs ah/\IsTup h a ah.toArray
 | .dK kvs=>kvs.length<=sizeLine/\(a==sysModules)=false/\∃vs,KV kvs vs/\h.DictOf (bG P w) a vs
 | .dT kvs=>kvs.length<=sizeLine/\(a==sysModules)=false/\∃xs:List (List Key×Addr×Value),
   Paired (λ(p:List Key×V) (q:List Key×Addr×Value)=>p.1=q.1/\H q.2.1=some (.tup (p.1.map kV))/\RelV p.2 q.2.2) kvs xs/\
   ∃o es ep,h.get? a=some o/\o.ExactDict/\o.data=.dict es ep/\es.toList=xs.map (entryOfKey (tupleKind (bG P w)))/\(xs.map (·.1)).Nodup
 | .set S n=>h.SetOf (intKind P w) a S n
 | .ins C dx fs=>H dx=some (.own a)/\fs.length<=1000/\dx≠a/\h.get? a=some (PySem.W.instObj C dx)/\
   ∃mA,h.Ns1 dx mA/\(∀f,fb (fs.lookup f) (mA f))/\PySem.Within mA (fs.map (·.1))
 | .own _=>∃o,h.get? a=some o
 | .xd fs=>∃mA,h.Ns1 a mA/\∀f,fb (fs.lookup f) (mA f)
 | .Oy lo hi=>∃t u v,h.get? a=some {cls:=.type "range",data:=.fields #[.int lo t,.int hi u,.int 1 v]}
 | .jm o u=>h.get? a=some o/\bb H h a u
 | .GH ps=>h.get? a=some {cls:=.none,data:=.fields ps}
 | .met f x=>h.get? a=some (PySem.W.methodObj (.ref f) (.ref x))
 | .ext φ=>φ h/\(∃o,h.get? a=some o)/\∀h1 h2:Heap,φ h1->(∀o,h1.get? a=some o->h2.get? a=some o)->φ h2
def eA(H:Hp)(h:Heap):Prop:=∀a o,H a=some o->bb P w H h a o
end
section
variable {P:Program}{w:World}{H H':Hp}{h h':Heap}{a:Addr}{o:HO}
theorem bb.lt (x:bb P w H h a o):a < h.objs.size:=by
 cases o with
 |lst xs=>obtain⟨_,_,_,_,e⟩:=x;exact z8 e
 |tup xs=>obtain⟨_,_,_,p⟩:=x;exact p.lt
 |dK kvs=>obtain⟨_,_,_,_,o,_,_,e,_⟩:=x;exact z8 e
 |dT kvs=>obtain⟨_,_,_,_,o,_,_,e,_⟩:=x;exact z8 e
 |set S n=>obtain⟨o,_,_,_,e,_⟩:=x;exact z8 e
 |ins C dx fs=>obtain⟨_,_,_,e,_⟩:=x;exact z8 e
 |own y=>obtain⟨_,e⟩:=x;exact z8 e
 |xd fs=>obtain⟨_,⟨_,_,_,e,_⟩,_⟩:=x;exact z8 e
 |Oy lo hi=>obtain⟨_,_,_,e⟩:=x;exact z8 e
 |jm ob u=>obtain⟨e,_⟩:=x;exact z8 e
 |GH ps=>exact z8 (show h.get? a=some _ from x)
 |met f y=>exact z8 (show h.get? a=some _ from x)
 |ext φ=>obtain⟨_,⟨_,e⟩,_⟩:=x;exact z8 e
theorem Paired.zU {α β:Type}{F G:α->β->Prop}:∀{l₁:List α} {l₂:List β},Paired F l₁ l₂->(∀a b,F a b->G a b)->Paired G l₁ l₂
 |_,_,.nil,_=>.nil
 |_,_,.cons r t,f=>.cons (f _ _ r) (Paired.zU t f)
theorem bb.dr (x:bb P w H h a o)(k:∀b u,(b=a\/H b=some (.own a))->h.get? b=some u->h'.get? b=some u)
  (ho:∀b,H b=some (.own a)->H' b=some (.own a)) (ht:∀b xs,H b=some (.tup xs)->H' b=some (.tup xs)):bb P w H' h' a o:=by
 induction o with
 |lst xs=>obtain⟨z,ah,n,r,e⟩:=x;exact⟨z,ah,n,r,k _ _ (.inl rfl) e⟩
 |tup xs=>obtain⟨z,ah,r,ob,e,c⟩:=x;exact⟨z,ah,r,ob,k _ _ (.inl rfl) e,c⟩
 |dK kvs=>obtain⟨z,y,vs,r,ob,es,ep,e,c⟩:=x;exact⟨z,y,vs,r,ob,es,ep,k _ _ (.inl rfl) e,c⟩
 |dT kvs=>
  obtain⟨z,y,xs,r,ob,es,ep,e,c⟩:=x
  exact⟨z,y,xs,Paired.zU r λ p q z=>⟨z.1,ht _ _ z.2.1,z.2.2⟩,ob,es,ep,k _ _ (.inl rfl) e,c⟩
 |set S n=>obtain⟨ob,es,ep,t,e,c⟩:=x;exact⟨ob,es,ep,t,k _ _ (.inl rfl) e,c⟩
 |ins C dx fs=>
  obtain⟨d,z,ne,e,mA,⟨od,es,ep,e2,c⟩,r⟩:=x
  exact⟨ho _ d,z,ne,k _ _ (.inl rfl) e,mA,⟨od,es,ep,k _ _ (.inr d) e2,c⟩,r⟩
 |own y=>obtain⟨ob,e⟩:=x;exact⟨ob,k _ _ (.inl rfl) e⟩
 |xd fs=>obtain⟨mA,⟨od,es,ep,e,c⟩,r⟩:=x;exact⟨mA,⟨od,es,ep,k _ _ (.inl rfl) e,c⟩,r⟩
 |Oy lo hi=>obtain⟨t,u,v,e⟩:=x;exact⟨t,u,v,k _ _ (.inl rfl) e⟩
 |jm ob u ih=>obtain⟨e,q⟩:=x;exact⟨k _ _ (.inl rfl) e,ih q⟩
 |GH ps=>
  have e:h.get? a=some {cls:=.none,data:=.fields ps}:=x
  show h'.get? a=some {cls:=.none,data:=.fields ps}
  exact k a _ (.inl rfl) e
 |met f y=>
  have e:h.get? a=some (PySem.W.methodObj (.ref f) (.ref y)):=x
  show h'.get? a=some (PySem.W.methodObj (.ref f) (.ref y))
  exact k a _ (.inl rfl) e
 |ext φ=>obtain⟨p,⟨o,e⟩,st⟩:=x;exact⟨st _ _ p λ o q=>k _ _ (.inl rfl) q,⟨o,k _ _ (.inl rfl) e⟩,st⟩
theorem eA.lt (x:eA P w H h)(e:H a=some o):a < h.objs.size:=(x a o e).lt
theorem eA.fresh (x:eA P w H h)(e:h.objs.size<=a):H a=none:=by
 cases q:H a with
 |none=>rfl
 |some u=>exact absurd (m8 (x.lt q) e) (z0 _)
theorem eA.kept (x:eA P w H h)(k:∀b u,h.get? b=some u->h'.get? b=some u):eA P w H h':=λ a o e=>
 (x a o e).dr (λ b u _ q=>k b u q) (λ _ q=>q) λ _ _ q=>q
theorem eA.laid (x:eA P w H h)(k:∀b u,h.get? b=some u->h'.get? b=some u)(hp:h.objs.size<=a)(new:bb P w (upd H a o) h' a o):eA P w (upd H a o) h':=λ b u e=>by
 have hn:=x.fresh hp
 by_cases hb:b=a
 ·subst hb;rw[aI]at e;cases e;exact new
 ·rw[av hb]at e
  exact(x b u e).dr (λ c v _ q=>k c v q) (λ c q=>by rw[av (aD q hn)];exact q) λ c xs q=>by rw[av (aD q hn)];exact q
end
def Rd(H:Hp)(a:Addr)(u:HO):Prop:=H a=some u\/∃o,H a=some (.jm o u)
theorem Rd.ok {P:Program}{w:World}{H:Hp}{h:Heap}{a:Addr}{u:HO}(r:Rd H a u)(x:eA P w H h):bb P w H h a u:=by
 rcases r with r|⟨o,r⟩
 ·exact x a u r
 ·obtain⟨_,q⟩:=x a _ r
  exact q
def MY:Option HO->Prop
 |some (.lst _)=>True
 |some (.dK _)=>True
 |some (.dT _)=>True
 |some (.set _ _)=>True
 |some (.ins _ _ _)=>True
 |some (.ext _)=>True
 |_=>False
section
variable {P:Program}{w:World}{H:Hp}{h h':Heap}{x e:Addr}{o':HO}
theorem eA.write (ok:eA P w H h)(mu:MY (H x))(he:e=x\/H e=some (.own x))(k:∀b u,b≠e->h.get? b=some u->h'.get? b=some u)(Kc:∃u,h'.get? e=some u)
  (new:bb P w (upd H x o') h' x o'):eA P w (upd H x o') h':=λ b u q=>by
 have LC:∀c y,H c=some (.own y)->c≠x:=λ c y r z=>by subst z;rw[r]at mu;exact mu
 have OT:∀c xs,H c=some (.tup xs)->c≠x:=λ c xs r z=>by subst z;rw[r]at mu;exact mu
 by_cases hb:b=x
 ·subst hb;rw[aI]at q;cases q;exact new
 ·rw[av hb]at q
  by_cases Jk:b=e
  ·have q':H b=some (.own x):=by
    rcases he with z|z
    ·exact absurd (Jk.trans z) hb
    ·rw[Jk];exact z
   rw[q]at q';cases q'
   obtain⟨v,hv⟩:=Kc
   exact⟨v,by rw[Jk];exact hv⟩
  ·refine(ok b u q).dr (λ c v hc r=>k c v ?_ r) (λ c r=>by rw[av (LC c b r)];exact r) λ c xs r=>by rw[av (OT c xs r)];exact r
   rcases hc with rfl|hc
   ·exact Jk
   ·rintro rfl
    rcases he with z|z
    ·exact LC c b hc z
    ·rw[hc]at z;cases z;exact hb rfl
end
structure Un(fs ex:List Addr)(H H':Hp)(h h':Heap):Prop where
 keep:∀b o,h.get? b=some o->H b=none->b∉fs->b∉ex->h'.get? b=some o
 slot:∀b o,h.get? b=some o->H b=none->b∈fs->b∉ex->∃sl,h'.get? b=some {o with slots:=sl}
 free:∀b o,h.get? b=some o->H b=none->b∉ex->H' b=none
 there:∀b o,h.get? b=some o->b∉ex->∃o',h'.get? b=some o'
 dR:∀b xs,H b=some (.tup xs)->H' b=some (.tup xs)
 dN:∀b o u,H b=some (.jm o u)->H' b=some (.jm o u)
 eB:∀b ps,H b=some (.GH ps)->∃more,H' b=some (.GH (ps++more))
section
variable {fs TU ex Vc:List Addr}{H H1 H2:Hp}{h h1 h2 h':Heap}{a x e:Addr}{o:HO}
theorem Un.any (u:Un fs ex H H1 h h1){b:Addr}{ob:Obj}(q:h.get? b=some ob)(n:H b=none)(hx:b∉ex):∃sl,h1.get? b=some {ob with slots:=sl}:=by
 by_cases hb:b∈fs
 ·exact u.slot b ob q n hb hx
 ·exact⟨ob.slots,u.keep b ob q n hb hx⟩
theorem Un.kept (k:∀b u,h.get? b=some u->h'.get? b=some u):Un fs ex H H h h':=
 ⟨λ b ob q _ _ _=>k b ob q,λ b ob q _ _ _=>⟨ob.slots,k b ob q⟩,λ _ _ _ n _=>n,λ b ob q _=>⟨ob,k b ob q⟩,λ _ _ q=>q,λ _ _ _ q=>q,λ _ ps q=>⟨#[],by rw[q];simp⟩⟩
theorem Un.refl:Un fs ex H H h h:=Un.kept λ _ _ q=>q
theorem Un.laid (k:∀b u,h.get? b=some u->h'.get? b=some u)(hp:h.objs.size<=a)(hn:H a=none):Un fs ex H (upd H a o) h h' where
 keep:=λ b u q _ _ _=>k b u q
 slot:=λ b u q _ _ _=>⟨u.slots,k b u q⟩
 free:=λ b u q n _=>by rw[av (z7 (m8 (z8 q) hp))];exact n
 there:=λ b u q _=>⟨u,k b u q⟩
 dR:=λ b xs q=>by rw[av (aD q hn)];exact q
 dN:=λ b u xs q=>by rw[av (aD q hn)];exact q
 eB:=λ b ps q=>⟨#[],by rw[av (aD q hn),q];simp⟩
theorem Un.write (mu:MY (H x))(he:e=x\/H e=some (.own x))(k:∀b u,b≠e->h.get? b=some u->h'.get? b=some u)(Kc:∃u,h'.get? e=some u):Un fs ex H (upd H x o) h h':=by
 have hx:∀b,H b=none->b≠x:=λ b n z=>by subst z;rw[n]at mu;exact mu
 have hb:∀b,H b=none->b≠e:=λ b n z=>by
  subst z
  rcases he with r|r
  ·exact hx b n r
  ·rw[n]at r;cases r
 have hm:∀b u,H b=some u->¬MY (some u)->b≠x:=λ b u q nm z=>by subst z;rw[q]at mu;exact nm mu
 refine⟨λ b u q n _ _=>k b u (hb b n) q,λ b u q n _ _=>⟨u.slots,k b u (hb b n) q⟩,λ b u q n _=>by rw[av (hx b n)];exact n,λ b u q _=>?_,
  λ b xs q=>by rw[av (hm b _ q λ z=>z)];exact q,λ b u xs q=>by rw[av (hm b _ q λ z=>z)];exact q,λ b ps q=>⟨#[],by rw[av (hm b _ q λ z=>z),q];simp⟩⟩
 by_cases Jk:b=e
 ·subst Jk;exact Kc
 ·exact⟨u,k b u Jk q⟩
end
def Nf(h:Heap)(H:Hp):List Addr:=(List.range h.objs.size).filter λ a=>(H a).isSome
def ow(h:Heap)(H:Hp):Heap:=PySem.W.hideAll h (Nf h H)
theorem w_(h:Heap)(H:Hp):(ow h H).objs.size=h.objs.size:=PySem.W.hideAll_size _ _
theorem AF{h:Heap}{H:Hp}{b:Addr}{o:Obj}(e:h.get? b=some o)(n:H b=none):(ow h H).get? b=some o:=
 PySem.W.hideAll_get _ e λ hm=>by
  have q:(H b).isSome=true:=(mem_filter.mp hm).2
  rw[n]at q;simp at q
theorem DX{h:Heap}{H:Hp}{b:Addr}{o:Obj}(e:(ow h H).get? b=some o):h.get? b=some o/\H b=none:=by
 have e':h.get? b=some o:=PySem.W.of_hideAll (Nf h H) e
 refine⟨e',?_⟩
 cases q:H b with
 |none=>rfl
 |some x=>
  have hm:b∈Nf h H:=mem_filter.mpr ⟨mem_range.mpr (z8 e'),by simp[q]⟩
  have z:(ow h H).get? b=none:=PySem.W.hideAll_none (Nf h H) hm
  rw[z]at e;cases e
structure Mod(K:PySem.W.Frag)(mg:Str->Option Value)(base:Heap):Prop where
 JZ:K.In base
 glob:base.Ns mainGlobals mg
 blt:∃mb,base.Ns builtinsNs mb/\∀x:Str,x≠"__name__"->mb x=bootBuiltins x
 nolimit:base.NoLimit
structure Cx where
 prog:Program
 w:World
 K:PySem.W.Frag
 mg:Str->Option Value
 base:Heap
 A:Around
 N:List Str
 s₀:Shared
 H₀:Hp
 env:Env
 outer:List Env
 stack:List Env
 ex:List Addr
 fn:Str->Bool
 calm:Bool
 pn:List (Addr×Obj)
 xe:Value->Shared->Prop
def gf(l:List Env):List Addr:=l.filterMap (·.frame)
abbrev Cx.fs (X:Cx):List Addr:=gf X.outer
def MT(sc:Scope)(x:Str):Prop:=sc.names.lookup x=some .local\/sc.names.lookup x=some .cell\/sc.names.lookup x=some .free
def Loc(sc:Scope)(x:Str):Prop:=sc.names.lookup x=some .local\/sc.names.lookup x=some .cell
def Look(env:Env)(h:Heap)(m:Str->Option Value)(x:Str)(u:Value):Prop:=
 (env.kindOf x=some .local/\m x=some u)\/((env.kindOf x=some .cell\/env.kindOf x=some .free)/\∃c,env.cells.lookup x=some c/\h.IsCell c (some u))
structure Cx.Ok (X:Cx):Prop where
 mod:Mod X.K X.mg X.base
 kind:X.env.scope.kind=.function
 glob:X.env.globals=mainGlobals
 blt:X.env.builtins=builtinsNs
 above:X.s₀.heap.objs.size<=X.env.locals
 inj:∀x y c,X.env.cells.lookup x=some c->X.env.cells.lookup y=some c->x=y
 has:∀x,(X.env.kindOf x=some .cell\/X.env.kindOf x=some .free)->∃c,X.env.cells.lookup x=some c
 Kl:∀x c,X.fn x=true->X.env.cells.lookup x=some c->X.s₀.heap.objs.size<=c
 hd:X.calm=true->X.A.handled=none
 frames:X.A.frames=some X.stack
 KG:X.stack=X.outer\/(X.stack=X.env::X.outer/\X.env.frame=some X.env.locals)
 Qg:∀b∈X.ex,b≠X.env.locals/\∀x c,X.env.cells.lookup x=some c->c≠b
 bs:∀b o,X.base.get? b=some o->X.s₀.heap.get? b=some o/\X.H₀ b=none
 xR:X.base.objs.size<=X.s₀.heap.objs.size
 sS:∀b o,X.base.get? b=some o->b∉X.ex
 AR:∀b∈X.ex,b∉X.fs
 gW:X.s₀.heap.FunFrames X.base X.outer
 EO:∀b∈X.fs,X.H₀ b=none
structure Inv(X:Cx)(pins:List (Addr×Obj))(σ:List (Option V))(H:Hp)(s:Shared):Prop where
 ok:X.Ok
 os:s.os=X.s₀.os
 bare:AllBare s.gens
 base:Un X.fs X.ex X.H₀ H X.s₀.heap s.heap
 loc:∃m,s.heap.Ns X.env.locals m/\∀(i:Nat) (x:Str) (v:V),X.N[i]?=some x->σ[i]?=some (some v)->MT X.env.scope x->∃u,RelV v u/\Look X.env s.heap m x u
 cell:∀x c,X.env.cells.lookup x=some c->∃v,s.heap.IsCell c v
 free:H X.env.locals=none
 dz:∀x c,X.env.cells.lookup x=some c->H c=none
 pin:∀p∈X.pn++pins,s.heap.get? p.1=some p.2/\H p.1=none/\p.1≠X.env.locals/\p.1∉X.fs/\∀v,p.2.data≠.cell v
 aL:eA X.prog X.w H s.heap
 len:σ.length=X.N.length
section
variable {X:Cx}{pins:List (Addr×Obj)}{σ:List (Option V)}{H H':Hp}{s:Shared}{h':Heap}
theorem Cx.Ok.OV (ok:X.Ok){b:Addr}{o:Obj}(e:X.base.get? b=some o):b∉X.fs:=λ hb=>by
 have:=(ok.gW.mem hb).1
 rw[e]at this;cases this
theorem Inv.bs (I:Inv X pins σ H s):∀b o,X.base.get? b=some o->s.heap.get? b=some o/\H b=none:=λ b o e=>
 ⟨I.base.keep b o (I.ok.bs b o e).1 (I.ok.bs b o e).2 (I.ok.OV e) (I.ok.sS b o e),I.base.free b o (I.ok.bs b o e).1 (I.ok.bs b o e).2 (I.ok.sS b o e)⟩
theorem Inv.bk (I:Inv X pins σ H s):∀b o,X.base.get? b=some o->s.heap.get? b=some o:=λ b o e=>(I.bs b o e).1
theorem Inv.mod (I:Inv X pins σ H s):Mod X.K X.mg X.base:=I.ok.mod
theorem Inv.eQ (I:Inv X pins σ H s):X.K.In s.heap:=I.ok.mod.JZ.keeps I.bk
theorem Inv.lt (I:Inv X pins σ H s):X.env.locals < s.heap.objs.size:=let⟨_,hn,_⟩:=I.loc;hn.lt
theorem Inv.sz (I:Inv X pins σ H s):X.s₀.heap.objs.size<=s.heap.objs.size:=A1 I.ok.above (Nat.le_of_lt I.lt)
theorem Inv.OU (I:Inv X pins σ H s){a:Addr}(h:s.heap.objs.size<=a):a∉X.fs:=λ hb=>by
 obtain⟨_,o,ho,_⟩:=I.ok.gW.mem hb
 exact absurd (m8 (z8 ho) (A1 I.sz h)) (z0 _)
theorem Inv.Br (I:Inv X pins σ H s):∀x c,X.env.cells.lookup x=some c->c≠X.env.locals:=λ x c e z=>by
 obtain⟨v,o,ho,hd⟩:=I.cell x c e
 obtain⟨m,⟨o',es,ep,oq,fQ,_⟩,_⟩:=I.loc
 rw[z,oq]at ho;cases ho;rw[fQ]at hd;cases hd
theorem Inv.gW (I:Inv X pins σ H s):s.heap.FunFrames X.base X.outer:=by
 have all:∀(l:List Env),(∀b∈gf l,b∈X.fs)->X.s₀.heap.FunFrames X.base l->s.heap.FunFrames X.base l:=by
  intro l
  induction l with
  |nil=>intro _ _;trivial
  |cons env r ih=>
   intro hs hl
   obtain⟨hk,⟨L,o,hf,hn,ho,hd⟩,hr⟩:=hl
   have hL:L∈X.fs:=hs L (by unfold gf;rw[filterMap_cons,hf];exact l7)
   obtain⟨sl,e⟩:=I.base.slot L o ho (I.ok.EO L hL) hL λ z=>I.ok.AR L z hL
   exact⟨hk,⟨L,_,hf,hn,e,hd⟩,ih (λ b hb=>hs b (by unfold gf;rw[filterMap_cons,hf];exact k4 _ hb)) hr⟩
 exact all X.outer (λ _ hb=>hb) I.ok.gW
theorem Inv.stack (I:Inv X pins σ H s):s.heap.FunFrames X.base X.stack:=by
 rcases I.ok.KG with e|⟨e,hf⟩
 ·rw[e];exact I.gW
 ·rw[e]
  obtain⟨m,hn,_⟩:=I.loc
  refine .cons (by rw[I.ok.kind];decide) hf hn ?_ I.gW
  exact Heap.get?_none_of_le (A1 I.ok.xR I.ok.above)
theorem Inv.nj (I:Inv X pins σ H s):∀b∈gf X.stack,b∈X.env.locals::X.fs:=λ b hb=>by
 rcases I.ok.KG with e|⟨e,hf⟩
 ·rw[e]at hb;exact k4 _ hb
 ·rw[e]at hb
  unfold gf at hb
  rw[filterMap_cons,hf]at hb
  exact hb
theorem Inv.jc (I:Inv X pins σ H s):∀b∈gf X.stack,H b=none:=λ b hb=>by
 rcases z5.mp (I.nj b hb)with e|hb
 ·rw[e];exact I.free
 ·obtain⟨_,o,ho,_⟩:=I.ok.gW.mem hb
  exact I.base.free b o ho (I.ok.EO b hb) λ z=>I.ok.AR b z hb
theorem Inv.step {g':Array GenState}{t':Nat}{d':Drawn}{ch:List Addr}(I:Inv X pins σ H s)
  (BR:∀b∈ch,(b∈X.ex\/X.s₀.heap.objs.size<=b)/\b≠X.env.locals/\(∀x c,X.env.cells.lookup x=some c->c≠b)/\∀p∈X.pn++pins,p.1≠b)
  (keep:∀b o,b≠X.env.locals->b∉X.fs->b∉ch->s.heap.get? b=some o->H b=none->h'.get? b=some o)
  (slot:∀b o,b≠X.env.locals->b∈X.fs->b∉ch->s.heap.get? b=some o->H b=none->∃sl,h'.get? b=some {o with slots:=sl}) (free:∀b o,b∉ch->s.heap.get? b=some o->H b=none->H' b=none)
  (there:∀b o,b∉ch->s.heap.get? b=some o->∃o',h'.get? b=some o')
  (dR:∀b xs,H b=some (.tup xs)->H' b=some (.tup xs)) (dN:∀b o u,H b=some (.jm o u)->H' b=some (.jm o u)) (eB:∀b ps,H b=some (.GH ps)->∃more,H' b=some (.GH (ps++more)))
  (ns:∀m,s.heap.Ns X.env.locals m->h'.Ns X.env.locals m) (aL:eA X.prog X.w H' h') (hg:AllBare g'):
  Inv X pins σ H' {s with heap:=h',gens:=g',drawn:=d',toks:=t'}:=by
 have Q1:∀b o,X.s₀.heap.get? b=some o->b≠X.env.locals:=λ b o e=>z7 (m8 (z8 e) I.ok.above)
 have NB:∀b o,X.s₀.heap.get? b=some o->b∉X.ex->b∉ch:=λ b o e hx hb=>by
  rcases(BR b hb).1 with z|z
  ·exact hx z
  ·exact absurd (m8 (z8 e) z) (z0 _)
 have cellK:∀x c,X.env.cells.lookup x=some c->∀v,s.heap.IsCell c v->h'.IsCell c v:=λ x c e v ⟨o,ho,hd⟩=>by
  have LI:c∉ch:=λ z=>(BR c z).2.2.1 x c e rfl
  by_cases hc:c∈X.fs
  ·obtain⟨sl,q⟩:=slot c o (I.Br x c e) hc LI ho (I.dz x c e)
   exact⟨_,q,hd⟩
  ·exact⟨o,keep c o (I.Br x c e) hc LI ho (I.dz x c e),hd⟩
 refine⟨I.ok,I.os,hg,⟨λ b o e n hb hx=>?_,λ b o e n hb hx=>?_,λ b o e n hx=>?_,λ b o e hx=>?_,λ b xs e=>dR b xs (I.base.dR b xs e),λ b o xs e=>dN b o xs (I.base.dN b o xs e),λ b ps e=>?_⟩,?_,λ x c e=>?_,?_,λ x c e=>?_,λ p hp=>?_,aL,I.len⟩
 ·exact keep b o (Q1 b o e) hb (NB b o e hx) (I.base.keep b o e n hb hx) (I.base.free b o e n hx)
 ·obtain⟨sl,e1⟩:=I.base.slot b o e n hb hx
  obtain⟨Oq,e2⟩:=slot b _ (Q1 b o e) hb (NB b o e hx) e1 (I.base.free b o e n hx)
  exact⟨Oq,e2⟩
 ·obtain⟨o',e1⟩:=I.base.there b o e hx
  exact free b o' (NB b o e hx) e1 (I.base.free b o e n hx)
 ·obtain⟨o',e1⟩:=I.base.there b o e hx
  exact there b o' (NB b o e hx) e1
 ·obtain⟨m1,e1⟩:=I.base.eB b ps e
  obtain⟨m2,e2⟩:=eB b _ e1
  exact⟨m1++m2,by rw[e2,Array.append_assoc]⟩
 ·obtain⟨m,hn,hl⟩:=I.loc
  refine⟨m,ns m hn,λ i x v e1 e2 e3=>?_⟩
  obtain⟨u,r,l⟩:=hl i x v e1 e2 e3
  refine⟨u,r,?_⟩
  rcases l with l|⟨k,c,e,z⟩
  ·exact .inl l
  ·exact .inr ⟨k,c,e,cellK x c e _ z⟩
 ·obtain⟨v,z⟩:=I.cell x c e
  exact⟨v,cellK x c e v z⟩
 ·obtain⟨m,⟨o,_,_,ho,_⟩,_⟩:=I.loc
  exact free _ o (λ z=>(BR _ z).2.1 rfl) ho I.free
 ·obtain⟨v,o,ho,hd⟩:=I.cell x c e
  exact free c o (λ z=>(BR c z).2.2.1 x c e rfl) ho (I.dz x c e)
 ·obtain⟨e,n,ne,nf,d⟩:=I.pin p hp
  have LI:p.1∉ch:=λ z=>(BR p.1 z).2.2.2 p hp rfl
  exact⟨keep p.1 p.2 ne nf LI e n,free p.1 p.2 LI e n,ne,nf,d⟩
theorem Inv.un {t':Nat}(I:Inv X pins σ H s)(u:Un X.fs [] H H' s.heap h')(aL:eA X.prog X.w H' h'):Inv X pins σ H' {s with heap:=h',toks:=t'}:=by
 obtain⟨m,⟨o,es,ep,ho,r⟩,_⟩:=id I.loc
 obtain⟨sl,hL⟩:=u.any ho I.free (by simp)
 exact I.step (g':=s.gens) (d':=s.drawn) (ch:=[]) (λ _ z=>nomatch z) (λ b o _ hb _ e n=>u.keep b o e n hb (by simp)) (λ b o _ hb _ e n=>u.slot b o e n hb (by simp)) (λ b o _ e n=>u.free b o e n (by simp)) (λ b o _ e=>u.there b o e (by simp)) u.dR u.dN u.eB (λ m' hm=>by
  obtain⟨o',Ga,Qi,oq,r'⟩:=hm
  rw[ho]at oq;cases oq
  exact⟨_,Ga,Qi,hL,r'⟩) aL I.bare
theorem Inv.call {g':Array GenState}{t':Nat}{d':Drawn}{ch:List Addr}(I:Inv X pins σ H s)(u:Un (gf X.stack) ch H H' s.heap h')(aL:eA X.prog X.w H' h')(hg:AllBare g')
  (BR:∀b∈ch,(b∈X.ex\/X.s₀.heap.objs.size<=b)/\b≠X.env.locals/\(∀x c,X.env.cells.lookup x=some c->c≠b)/\∀p∈X.pn++pins,p.1≠b):
  Inv X pins σ H' {s with heap:=h',gens:=g',drawn:=d',toks:=t'}:=by
 obtain⟨m,⟨o,es,ep,ho,r⟩,_⟩:=id I.loc
 obtain⟨sl,hL⟩:=u.any ho I.free λ z=>(BR _ z).2.1 rfl
 exact I.step (ch:=ch) BR (λ b o hL hb hc e n=>u.keep b o e n (λ z=>(z5.mp (I.nj b z)).elim hL hb) hc) (λ b o _ _ hc e n=>u.any e n hc) (λ b o hc e n=>u.free b o e n hc) (λ b o hc e=>u.there b o e hc) u.dR u.dN u.eB (λ m' hm=>by
  obtain⟨o',Ga,Qi,oq,r'⟩:=hm
  rw[ho]at oq;cases oq
  exact⟨_,Ga,Qi,hL,r'⟩) aL hg
theorem Inv.turned {t':Nat}{it:Addr}(I:Inv X pins σ H s)(k:∀b o,b≠it->s.heap.get? b=some o->h'.get? b=some o)(hn:H it=none)(hL:it≠X.env.locals)
  (h1:it∈X.ex\/X.s₀.heap.objs.size<=it) (h2:∀x c,X.env.cells.lookup x=some c->c≠it) (h3:∀p∈X.pn++pins,p.1≠it):Inv X pins σ H {s with heap:=h',toks:=t'}:=by
 have LH:∀b u,H b=some u->b≠it:=λ b u e z=>by rw[z,hn]at e;cases e
 refine I.step (g':=s.gens) (d':=s.drawn) (ch:=[it]) (λ b hb=>?_) (λ b o _ _ hc e _=>k b o (λ z=>hc (by simp[z])) e) (λ b o _ _ hc e _=>⟨o.slots,k b o (λ z=>hc (by simp[z])) e⟩) (λ _ _ _ _ n=>n)
  (λ b o hc e=>⟨o,k b o (λ z=>hc (by simp[z])) e⟩) (λ _ _ e=>e) (λ _ _ _ e=>e) (λ b ps e=>⟨#[],by rw[e];simp⟩) (λ m hm=>?_) (λ b u e=>?_) I.bare
 ·have e:b=it:=by simpa using hb
  subst e
  exact⟨h1,hL,h2,h3⟩
 ·obtain⟨o,es,ep,ho,r⟩:=hm
  exact⟨o,es,ep,k _ o (B2 hL) ho,r⟩
 ·refine(I.aL b u e).dr (λ c v hc q=>k c v ?_ q) (λ _ q=>q) λ _ _ q=>q
  rcases hc with z|z
  ·rw[z];exact LH b u e
  ·exact LH c _ z
theorem Inv.tok (I:Inv X pins σ H s)(t:Nat):Inv X pins σ H {s with toks:=t}:=I.un (h':=s.heap) (t':=t) Un.refl I.aL
theorem Inv.kept {t':Nat}(I:Inv X pins σ H s)(k:∀b u,s.heap.get? b=some u->h'.get? b=some u):Inv X pins σ H {s with heap:=h',toks:=t'}:=I.un (Un.kept k) (I.aL.kept k)
theorem Inv.laid {a:Addr}{o:HO}{t':Nat}(I:Inv X pins σ H s)(k:∀b u,s.heap.get? b=some u->h'.get? b=some u)(hp:s.heap.objs.size<=a)(new:bb X.prog X.w (upd H a o) h' a o):
  Inv X pins σ (upd H a o) {s with heap:=h',toks:=t'}:=I.un (Un.laid k hp (I.aL.fresh hp)) (I.aL.laid k hp new)
theorem Inv.write {x e:Addr}{o:HO}{t':Nat}(I:Inv X pins σ H s)(mu:MY (H x))(he:e=x\/H e=some (.own x))(k:∀b u,b≠e->s.heap.get? b=some u->h'.get? b=some u)(Kc:∃u,h'.get? e=some u)
  (new:bb X.prog X.w (upd H x o) h' x o):Inv X pins σ (upd H x o) {s with heap:=h',toks:=t'}:=I.un (Un.write mu he k Kc) (I.aL.write mu he k Kc new)
theorem Inv.weak {σ':List (Option V)}(I:Inv X pins σ H s)(hl:σ'.length=σ.length)(w:∀(i:Nat) v,σ'[i]?=some (some v)->σ[i]?=some (some v)):Inv X pins σ' H s:=
 ⟨I.ok,I.os,I.bare,I.base,let⟨m,hn,EF⟩:=I.loc;⟨m,hn,λ i x v e1 e2 e3=>EF i x v e1 (w i v e2) e3⟩,I.cell,I.free,I.dz,I.pin,I.aL,hl.trans I.len⟩
theorem Inv.cZ {pins':List (Addr×Obj)}(I:Inv X pins σ H s)(h:∀p∈pins',s.heap.get? p.1=some p.2/\H p.1=none/\p.1≠X.env.locals/\p.1∉X.fs/\∀v,p.2.data≠.cell v):Inv X pins' σ H s:=
 ⟨I.ok,I.os,I.bare,I.base,I.loc,I.cell,I.free,I.dz,λ p hp=>(x9.mp hp).elim (λ z=>I.pin p (mem_append_left _ z)) (h p),I.aL,I.len⟩
theorem jV{N:List Str}(hN:N.Nodup){i j:Nat}{x:Str}(a:N[i]?=some x)(b:N[j]?=some x):i=j:=by
 obtain⟨h1,e1⟩:=g9.mp a
 obtain⟨h2,e2⟩:=g9.mp b
 exact(getElem_inj hN).mp (e1.trans e2.symm)
theorem lQ{M:Model}{A:Around}{E:Value->Shared->Prop}{i:Nat}{x:Str}{v:V}{u:Value}{Q:Unit->Shared->Prop}(I:Inv X pins σ H s)(hN:X.N.Nodup)(hi:X.N[i]?=some x)(hx:Loc X.env.scope x)(r:RelV v u)
  (h:∀s',Inv X pins (σ.set i (some v)) H s'->(∃a,Heap.SameBut a s.heap s'.heap/\(a=X.env.locals\/X.env.cells.lookup x=some a))->Q () s') (hf:X.fn x=true\/X.env.scope.names.lookup x=some .local:=by first|exact .inl rfl|exact .inr rfl|assumption):wpAny M A (storeName X.env x u) Q E s:=by
 obtain⟨m,hn,hl⟩:=id I.loc
 have Ji:(X.env.scope.kind==.class||(X.env.scope.kind==.module&&X.env.locals != X.env.globals))=false:=by rw[I.ok.kind];rfl
 have Rm:i < σ.length:=by rw[I.len];exact(g9.mp hi).1
 have Br:=I.Br
 have tracked:∀{a:Addr} {h':Heap},(∃o,s.heap.get? a=some o/\H a=none)->Heap.SameBut a s.heap h'->eA X.prog X.w H h':=λ{a h'} ha hs b ob e=>by
  obtain⟨_,_,FY⟩:=ha
  refine(I.aL b ob e).dr (λ c w' hc q=>(hs.2 c ?_).trans q) (λ _ q=>q) λ _ _ q=>q
  rintro rfl
  rcases hc with rfl|hc
  ·rw[FY]at e;cases e
  ·rw[FY]at hc;cases hc
 rcases hx with hk|hk
 ·refine wpAny_storeName_local hk hn (λ h' ED hs=>?_) Ji
  obtain⟨oL,_,_,Ka,_⟩:=id hn
  refine h _ ⟨I.ok,I.os,I.bare,⟨λ b o e n hb hx=>?_,λ b o e n hb hx=>?_,I.base.free,λ b o e hx=>?_,I.base.dR,I.base.dN,I.base.eB⟩,⟨_,ED,λ j y v' e1 e2 e3=>?_⟩,λ y c e=>?_,I.free,I.dz,λ p hp=>?_,tracked ⟨oL,Ka,I.free⟩ hs,by simpa using I.len⟩ ⟨_,hs,.inl rfl⟩
  ·exact(hs.2 b (z7 (m8 (z8 e) I.ok.above))).trans (I.base.keep b o e n hb hx)
  ·obtain⟨sl,e1⟩:=I.base.slot b o e n hb hx
   exact⟨sl,(hs.2 b (z7 (m8 (z8 e) I.ok.above))).trans e1⟩
  ·obtain⟨o',e1⟩:=I.base.there b o e hx
   exact⟨o',(hs.2 b (z7 (m8 (z8 e) I.ok.above))).trans e1⟩
  ·by_cases hj:j=i
   ·subst hj
    rw[hi]at e1;cases e1
    rw[getElem?_set_self Rm]at e2
    cases e2
    exact⟨u,r,.inl ⟨hk,by simp⟩⟩
   ·rw[getElem?_set_ne (B2 hj)]at e2
    obtain⟨u',r',q⟩:=hl j y v' e1 e2 e3
    refine⟨u',r',?_⟩
    rcases q with⟨k,e⟩|⟨k,c,e,z⟩
    ·refine .inl ⟨k,?_⟩
     have:y≠x:=λ e=>hj (jV hN e1 (e▸hi))
     simp[this,e]
    ·exact .inr ⟨k,c,e,z.sameBut hs (Br y c e)⟩
  ·obtain⟨w',z⟩:=I.cell y c e
   exact⟨w',z.sameBut hs (Br y c e)⟩
  ·obtain⟨e,n,ne,nf,d⟩:=I.pin p hp
   exact⟨(hs.2 p.1 ne).trans e,n,ne,nf,d⟩
 ·have PJ:X.fn x=true:=by
   rcases hf with z|z
   ·exact z
   ·rw[z]at hk;cases hk
  obtain⟨c,hc⟩:=I.ok.has x (.inl hk)
  obtain⟨w',z⟩:=I.cell x c hc
  refine wpAny_storeName_cell I.ok.kind hk hc z (λ h' xa hs=>?_)
  obtain⟨oc,Rh,Px⟩:=id z
  refine h {s with heap:=h'} ⟨I.ok,I.os,I.bare,⟨λ b o e n hb hx=>?_,λ b o e n hb hx=>?_,I.base.free,λ b o e hx=>?_,I.base.dR,I.base.dN,I.base.eB⟩,⟨m,hn.sameBut hs (B2 (Br x c hc)),λ j y v' e1 e2 e3=>?_⟩,λ y c' e=>?_,I.free,I.dz,λ p hp=>?_,tracked ⟨oc,Rh,I.dz x c hc⟩ hs,by simpa using I.len⟩ ⟨c,hs,.inr hc⟩
  ·exact(hs.2 b (z7 (m8 (z8 e) (I.ok.Kl x c PJ hc)))).trans (I.base.keep b o e n hb hx)
  ·obtain⟨sl,e1⟩:=I.base.slot b o e n hb hx
   exact⟨sl,(hs.2 b (z7 (m8 (z8 e) (I.ok.Kl x c PJ hc)))).trans e1⟩
  ·obtain⟨o',e1⟩:=I.base.there b o e hx
   exact⟨o',(hs.2 b (z7 (m8 (z8 e) (I.ok.Kl x c PJ hc)))).trans e1⟩
  ·by_cases hj:j=i
   ·subst hj
    rw[hi]at e1;cases e1
    rw[getElem?_set_self Rm]at e2
    cases e2
    exact⟨u,r,.inr ⟨.inl hk,c,hc,xa⟩⟩
   ·rw[getElem?_set_ne (B2 hj)]at e2
    obtain⟨u',r',q⟩:=hl j y v' e1 e2 e3
    refine⟨u',r',?_⟩
    rcases q with q|⟨k,c',e,z'⟩
    ·exact .inl q
    ·refine .inr ⟨k,c',e,z'.sameBut hs ?_⟩
     rintro rfl
     exact hj (jV hN e1 (I.ok.inj _ _ _ e hc▸hi))
  ·by_cases Ke:c'=c
   ·subst Ke;exact⟨_,xa⟩
   ·obtain⟨w2,z2⟩:=I.cell y c' e
    exact⟨w2,z2.sameBut hs Ke⟩
  ·obtain⟨e,n,ne,nf,d⟩:=I.pin p hp
   refine⟨(hs.2 p.1 ?_).trans e,n,ne,nf,d⟩
   intro q
   rw[q,Rh]at e
   have q':oc=p.2:=w9 e
   exact d w' (by rw[<- q'];exact Px)
theorem gC{M:Model}{A:Around}{E:Value->Shared->Prop}{i:Nat}{x:Str}{v:V}{u:Value}{Q:Unit->Shared->Prop}(I:Inv X pins σ H s)(hN:X.N.Nodup)(hi:X.N[i]?=some x)(hx:Loc X.env.scope x)(r:RelV v u)
  (h:∀s',Inv X pins (σ.set i (some v)) H s'->Q () s') (hf:X.fn x=true\/X.env.scope.names.lookup x=some .local:=by first|exact .inl rfl|exact .inr rfl|assumption):wpAny M A (storeName X.env x u) Q E s:=
 lQ I hN hi hx r (λ s' I' _=>h s' I') hf
theorem Inv.rh {s':Shared}{ch:List Addr}(I:Inv X pins σ H s)(ho:s'.os=s.os)(u:Un (gf X.stack) ch H H' s.heap s'.heap)(aL:eA X.prog X.w H' s'.heap)(hg:AllBare s'.gens)
  (BR:∀b∈ch,(b∈X.ex\/X.s₀.heap.objs.size<=b)/\b≠X.env.locals/\(∀x c,X.env.cells.lookup x=some c->c≠b)/\∀p∈X.pn++pins,p.1≠b):Inv X pins σ H' s':=by
 obtain⟨h',g',d',t',o'⟩:=s'
 have e:o'=s.os:=ho
 subst e
 exact I.call (g':=g') (t':=t') (d':=d') u aL hg BR
end
abbrev XK:=Value->Option Addr->Hp->Prop
abbrev St:=List (Option V)
abbrev VK:=V->Hp->Prop
abbrev TE:=St->Hp->VK->Prop
abbrev TT:=St->Hp->(Bool->Hp->Prop)->Prop
abbrev TA:=St->Hp->(List V->Hp->Prop)->Prop
structure Ends where
 nx:St->Hp->Prop
 rt:VK
 bk:St->Hp->Prop:=λ _ _=>False
 ct:St->Hp->Prop:=λ _ _=>False
abbrev TS:=Ends->St->Hp->Prop
def EP(X:Cx)(pins:List (Addr×Obj))(σ:St)(Q:VK)(u:Value)(s':Shared):Prop:=∃v H',Inv X pins σ H' s'/\RelV v u/\Q v H'
def TP(X:Cx)(pins:List (Addr×Obj))(σ:St)(Q:Bool->Hp->Prop)(b:Bool)(s':Shared):Prop:=∃H',Inv X pins σ H' s'/\Q b H'
def AP(X:Cx)(pins:List (Addr×Obj))(σ:St)(Q:List V->Hp->Prop)(us:List Value)(s':Shared):Prop:=∃vs H',Inv X pins σ H' s'/\Vals vs us/\Q vs H'
def SP(X:Cx)(pins:List (Addr×Obj))(D:Ends)(f:Flow)(s':Shared):Prop:=
 match f with
 | .next=>∃σ' H',Inv X pins σ' H' s'/\D.nx σ' H'
 | .brk=>∃σ' H',Inv X pins σ' H' s'/\D.bk σ' H'
 | .cont=>∃σ' H',Inv X pins σ' H' s'/\D.ct σ' H'
 | .ret u=>∃v σ' H',Inv X pins σ' H' s'/\RelV v u/\D.rt v H'
def PE(X:Cx)(e:Expr)(t:TE):Prop:=
 ∀(pins:List (Addr×Obj)) (s:Shared) (σ:St) (H:Hp) (Q:VK),Inv X pins σ H s->t σ H Q->wpAny (model X.prog X.w) X.A (eval e X.env) (EP X pins σ Q) X.xe s
def PT(X:Cx)(e:Expr)(t:TT):Prop:=
 ∀(pins:List (Addr×Obj)) (s:Shared) (σ:St) (H:Hp) (Q:Bool->Hp->Prop),Inv X pins σ H s->t σ H Q->wpAny (model X.prog X.w) X.A (isTrue e X.env (eval e X.env)) (TP X pins σ Q) X.xe s
def PW(X:Cx)(e:Expr)(t:TT):Prop:=
 ∀(whole:Sem Value) (pins:List (Addr×Obj)) (s:Shared) (σ:St) (H:Hp) (Q:Bool->Hp->Prop),Inv X pins σ H s->t σ H Q->wpAny (model X.prog X.w) X.A (isTrue e X.env whole) (TP X pins σ Q) X.xe s
theorem PW.pt {X:Cx}{e:Expr}{t:TT}(h:PW X e t):PT X e t:=h _
def PA(X:Cx)(es:List Expr)(t:TA):Prop:=
 ∀(pos:Pos) (pins:List (Addr×Obj)) (s:Shared) (σ:St) (H:Hp) (Q:List V->Hp->Prop),Inv X pins σ H s->t σ H Q->wpAny (model X.prog X.w) X.A (spliced (backTo pos (starEach es X.env))) (AP X pins σ Q) X.xe s
def PS(X:Cx)(st:Stmt)(t:TS):Prop:=
 ∀(pins:List (Addr×Obj)) (s:Shared) (σ:St) (H:Hp) (D:Ends),Inv X pins σ H s->t D σ H->wpAny (model X.prog X.w) X.A (exec st X.env) (SP X pins D) X.xe s
def lB(X:Cx)(st:List Stmt)(t:TS):Prop:=
 ∀(pins:List (Addr×Obj)) (s:Shared) (σ:St) (H:Hp) (D:Ends),Inv X pins σ H s->t D σ H->wpAny (model X.prog X.w) X.A (execs st X.env) (SP X pins D) X.xe s
theorem cg{α:Type}{t:Sem α}{Q Q':α->Shared->Prop}{M:Model}{A:Around}{E:Value->Shared->Prop}{s:Shared}(h:wpAny M A t Q E s)(hQ:∀a s,Q a s->Q' a s):wpAny M A t Q' E s:=A9 h hQ λ _ _ x=>x
section
variable {X:Cx}
def ye(i:Nat):TE:=λ σ H Q=>∃v,σ[i]?=some (some v)/\Q v H
def tC(v:V):TE:=λ _ H Q=>Q v H
theorem zv{i:Nat}{x:Str}{pos:Pos}(hN:X.N[i]?=some x)(hv:MT X.env.scope x)(hd:(x==("__debug__":Str))=false:=by decide)(hcd:(x==("__classdict__":Str))=false:=by decide):PE X (.Name x pos) (ye i):=by
 intro pins s σ H Q I h
 obtain⟨v,e,h⟩:=h
 obtain⟨m,hn,hl⟩:=I.loc
 obtain⟨u,r,l⟩:=hl i x v hN e hv
 have fin:EP X pins σ Q u s:=⟨v,H,I,r,h⟩
 rcases l with⟨hk,hm⟩|⟨hk,c,hc,F6⟩
 ·exact wpAny_Name (wpAny_loadName_local I.ok.kind hk hn hm fin) hd
 ·rcases hk with hk|hk
  ·exact wpAny_Name (wpAny_loadName_cell I.ok.kind hk hc F6 fin) hd
  ·exact wpAny_Name (wpAny_loadName_free I.ok.kind hk hc F6 fin hcd) hd
theorem zy{i j pos}:PE X (.Constant (.int i) j pos) (tC (.int i)):=λ _ _ _ H _ I h=>wpAny_Constant_int ⟨.int i,H,I.tok _,⟨_,rfl⟩,h⟩
theorem Lo{b j pos}:PE X (.Constant (.bool b) j pos) (tC (.bl b)):=λ _ _ _ H _ I h=>Constant_bool ⟨.bl b,H,I,rfl,h⟩
theorem H_{j pos}:PE X (.Constant .none j pos) (tC .a_):=λ _ _ _ H _ I h=>Constant_none ⟨.a_,H,I,rfl,h⟩
theorem sL{x j pos}:PE X (.Constant (.str x) j pos) (tC (.str x)):=λ _ _ _ H _ I h=>Calls.Constant_str ⟨.str x,H,I.tok _,⟨_,rfl⟩,h⟩
def Gl(X:Cx)(x:Str):Prop:=X.env.kindOf x=some .globalImplicit
theorem eJ{E:Value->Shared->Prop}{pins:List (Addr×Obj)}{s:Shared}{σ:St}{H:Hp}{x:Str}{u:Value}{pos:Pos}{Q:Value->Shared->Prop}(I:Inv X pins σ H s)(hg:Gl X x)(hm:X.mg x=some u)(h:Q u s)
  (hd:(x==("__debug__":Str))=false:=by decide):wpAny (model X.prog X.w) X.A (eval (.Name x pos) X.env) Q E s:=
 Calls.Name_function_global I.ok.kind hg (Calls.loadGlobal_global (by rw[I.ok.glob];exact I.mod.glob.keeps I.bk) hm h) hd
theorem eK{E:Value->Shared->Prop}{pins:List (Addr×Obj)}{s:Shared}{σ:St}{H:Hp}{x:Str}{u:Value}{pos:Pos}{Q:Value->Shared->Prop}(I:Inv X pins σ H s)(hg:Gl X x)(hm:X.mg x=none)(hv:bootBuiltins x=some u)(h:Q u s)
  (hn:x≠"__name__":=by decide) (hd:(x==("__debug__":Str))=false:=by decide):wpAny (model X.prog X.w) X.A (eval (.Name x pos) X.env) Q E s:=by
 obtain⟨mb,h1,h2⟩:=I.mod.blt
 exact Calls.Name_function_global I.ok.kind hg (Calls.loadGlobal_builtin (by rw[I.ok.glob];exact I.mod.glob.keeps I.bk) hm (by rw[I.ok.blt];exact h1.keeps I.bk) ((h2 x hn).trans hv) h) hd
theorem DE{x:Str}{v:V}{u:Value}{pos:Pos}(hg:Gl X x)(hm:X.mg x=none)(hv:bootBuiltins x=some u)(r:RelV v u)(hn:x≠"__name__":=by decide)(hd:(x==("__debug__":Str))=false:=by decide):PE X (.Name x pos) (tC v):=
 λ _ _ _ H _ I h=>eK I hg hm hv ⟨v,H,I,r,h⟩ hn hd
variable {a b:Expr}{ta tb:TE}{pos:Pos}
def tB(t:TE):TT:=λ σ H Q=>t σ H λ x H1=>∃c,x=.bl c/\Q c H1
theorem zh{e:Expr}{t:TE}(h:PE X e t)(he:∀whole,isTrue e X.env whole=(do let v <- whole;standAt e.pos;holding [v] (truthy v)):=by intro _;rfl):PT X e (tB t):=by
 intro pins s σ H Q I hw
 refine isTrue_plain (cg (h pins s σ H _ I hw) λ v s1 ⟨x,H1,I1,r1,q1⟩=>?_) (he _)
 obtain⟨d,rfl,q⟩:=q1
 cases r1
 exact o8 ⟨H1,I1,q⟩
variable {tA Nh:TT}{rest:List Expr}
def Ol(t u:TT):TT:=λ σ H Q=>t σ H λ c H1=>if c=true then u σ H1 Q else Q false H1
def RX(t u:TT):TT:=λ σ H Q=>t σ H λ c H1=>if c=true then Q true H1 else u σ H1 Q
def Oi(t:TT):TT:=λ σ H Q=>t σ H λ c H1=>Q (!c) H1
theorem Dp(ha:PT X a tA):PW X (.BoolOp .And [a] pos) tA:=by
 intro wh pins s σ H Q I h
 refine isTrue_and (cg (ha pins s σ H Q I h) λ c s1 e=>?_)
 cases c with
 |true=>exact isTrue_and_nil e
 |false=>exact e
theorem HP(ha:PT X a tA):PW X (.BoolOp .Or [a] pos) tA:=by
 intro wh pins s σ H Q I h
 refine isTrue_or (cg (ha pins s σ H Q I h) λ c s1 e=>?_)
 cases c with
 |false=>exact isTrue_or_nil e
 |true=>exact e
theorem HQ(ha:PT X a tA)(hb:PW X (.BoolOp .And (b::rest) pos) Nh):PW X (.BoolOp .And (a::b::rest) pos) (Ol tA Nh):=by
 intro wh pins s σ H Q I h
 refine isTrue_and (cg (ha pins s σ H _ I h) λ c s1 ⟨H1,I1,q1⟩=>?_)
 cases c with
 |true=>exact hb wh pins s1 σ H1 Q I1 q1
 |false=>exact⟨H1,I1,q1⟩
theorem Lj(ha:PT X a tA)(hb:PW X (.BoolOp .Or (b::rest) pos) Nh):PW X (.BoolOp .Or (a::b::rest) pos) (RX tA Nh):=by
 intro wh pins s σ H Q I h
 refine isTrue_or (cg (ha pins s σ H _ I h) λ c s1 ⟨H1,I1,q1⟩=>?_)
 cases c with
 |true=>exact⟨H1,I1,q1⟩
 |false=>exact hb wh pins s1 σ H1 Q I1 q1
theorem HR(ha:PT X a tA):PT X (.UnaryOp .Not a pos) (Oi tA):=by
 intro pins s σ H Q I h
 exact isTrue_not (ha pins s σ H (λ c H1=>Q (!c) H1) I h)
def KA(ta tb:TE):TE:=λ σ H Q=>ta σ H λ x H1=>∃c,x=.bl c/\if c=true then tb σ H1 Q else Q (.bl false) H1
theorem H9{op}{t:TE}(h:PE X a t):PE X (.BoolOp op [a] pos) t:=λ pins s σ H Q I hw=>BoolOp_one (h pins s σ H Q I hw)
theorem Ib(ha:PE X a ta)(hb:PE X (.BoolOp .And (b::rest) pos) tb):PE X (.BoolOp .And (a::b::rest) pos) (KA ta tb):=by
 intro pins s σ H Q I h
 refine BoolOp_and (cg (ha pins s σ H _ I h) λ v s1 ⟨x,H1,I1,r1,q1⟩=>?_)
 obtain⟨c,rfl,q1⟩:=q1
 cases r1
 refine o8 ?_
 cases c with
 |true=>exact hb pins s1 σ H1 Q I1 q1
 |false=>exact⟨.bl false,H1,I1,rfl,q1⟩
end
def cS(K:PySem.W.Frag)(H:Hp)(a:Addr)(xs:List V):Prop:=
 Rd H a (.lst xs)\/
  ∃(o:Obj) (ah:Array Value) (n:Nat),K.lookup a=some o/\o.cls=.type "list"/\o.dict=none/\o.data=.seq ah n/\ah.size<=sizeLine/\Vals xs ah.toList
def ef(K:PySem.W.Frag)(H:Hp)(a:Addr)(xs:List V):Prop:=
 Rd H a (.tup xs)\/
  ∃(o:Obj) (ah:Array Value) (n:Nat),K.lookup a=some o/\o.cls=.type "tuple"/\o.data=.seq ah n/\ah.size<=sizeLine/\Vals xs ah.toList
def Qt:Value->Option V
 | .none=>some .a_
 | .bool b=>some (.bl b)
 | .int i _=>some (.int i)
 | .str x _=>some (.str x)
 | .bytes b _=>some (.xQ b)
 | .float b _=>some (.Jr b)
 | .ref a=>some (.ref a)
 | .type n=>some (.ty n)
 |_=>none
theorem RelV.abs {x:V}{u:Value}(r:RelV x u):Qt u=some x:=by
 cases x with
 |a_=>cases r;rfl
 |bl _=>cases r;rfl
 |int _=>obtain⟨t,rfl⟩:=r;rfl
 |str _=>obtain⟨t,rfl⟩:=r;rfl
 |xQ _=>obtain⟨t,rfl⟩:=r;rfl
 |Jr _=>obtain⟨t,rfl⟩:=r;rfl
 |ref _=>cases r;rfl
 |ty _=>cases r;rfl
theorem RelV.inj {x y:V}{u:Value}(r:RelV x u)(q:RelV y u):x=y:=w9 (r.abs.symm.trans q.abs)
theorem Vals.inj:∀{xs ys:List V} {us:List Value},Vals xs us->Vals ys us->xs=ys
 |_,_,_,.nil,.nil=>rfl
 |_,_,_,.cons r t,.cons r' t'=>by rw[r.inj r',Vals.inj t t']
section
variable {X:Cx}{pins:List (Addr×Obj)}{σ:St}{H:Hp}{s:Shared}{a:Addr}{xs ys:List V}
theorem cS.of {K:PySem.W.Frag}(h:H a=some (.lst xs)):cS K H a xs:=.inl (.inl h)
theorem ef.of {K:PySem.W.Frag}(h:H a=some (.tup xs)):ef K H a xs:=.inl (.inl h)
theorem Inv.list (I:Inv X pins σ H s)(h:cS X.K H a xs):∃ah:List Value,Vals xs ah/\PlainL s.heap a ah.toArray/\xs.length<=sizeLine:=by
 rcases h with h|⟨o,ah,n,hk,hc,hd,hs,hz,r⟩
 ·obtain⟨z,ah,n,r,e⟩:=h.ok I.aL
  exact⟨ah,r,⟨_,n,e,rfl,rfl,rfl⟩,z⟩
 ·refine⟨ah.toList,r,⟨o,n,I.eQ a o hk,hc,hd,by simpa using hs⟩,?_⟩
  have e:=r.length
  simp only[l5]at e
  omega
theorem Inv.tuple (I:Inv X pins σ H s)(h:ef X.K H a xs):∃ah:List Value,Vals xs ah/\IsTup s.heap a ah.toArray/\xs.length<=sizeLine:=by
 rcases h with h|⟨o,ah,n,hk,hc,hs,hz,r⟩
 ·obtain⟨z,ah,r,p⟩:=h.ok I.aL
  exact⟨ah,r,p,z⟩
 ·refine⟨ah.toList,r,⟨o,I.eQ a o hk,hc,n,by simpa using hs⟩,?_⟩
  have e:=r.length
  simp only[l5]at e
  omega
theorem Inv.qj (I:Inv X pins σ H s)(h:cS X.K H a xs)(h':cS X.K H a ys):xs=ys:=by
 obtain⟨ah,r,⟨o,n,e,_,_,d⟩,_⟩:=I.list h
 obtain⟨its',r',⟨o',n',e',_,_,d'⟩,_⟩:=I.list h'
 rw[e]at e';cases e'
 rw[d]at d'
 injection d' with d1 _
 have:ah=its':=by simpa using B1 Array.toList d1
 subst this
 exact r.inj r'
theorem Inv.lN (I:Inv X pins σ H s)(h:ef X.K H a xs)(h':ef X.K H a ys):xs=ys:=by
 obtain⟨ah,r,⟨o,e,_,n,d⟩,_⟩:=I.tuple h
 obtain⟨its',r',⟨o',e',_,n',d'⟩,_⟩:=I.tuple h'
 rw[e]at e';cases e'
 rw[d]at d'
 injection d' with d1 _
 have:ah=its':=by simpa using B1 Array.toList d1
 subst this
 exact r.inj r'
end
abbrev Cx.fV (X:Cx)(E:Value->Shared->Prop):Cx:={X with xe:=E}
abbrev Cx.uN (X:Cx):Cx:=X.fV λ _ _=>False
theorem Cx.Ok.fV {X:Cx}(ok:X.Ok)(E:Value->Shared->Prop):(X.fV E).Ok:=
 ⟨ok.mod,ok.kind,ok.glob,ok.blt,ok.above,ok.inj,ok.has,ok.Kl,ok.hd,ok.frames,ok.KG,ok.Qg,ok.bs,ok.xR,ok.sS,ok.AR,ok.gW,ok.EO⟩
theorem Cx.Ok.dm {X:Cx}{E:Value->Shared->Prop}(ok:(X.fV E).Ok):X.Ok:=
 ⟨ok.mod,ok.kind,ok.glob,ok.blt,ok.above,ok.inj,ok.has,ok.Kl,ok.hd,ok.frames,ok.KG,ok.Qg,ok.bs,ok.xR,ok.sS,ok.AR,ok.gW,ok.EO⟩
section
variable {X:Cx}{pins:List (Addr×Obj)}{σ:St}{H:Hp}{s:Shared}{E:Value->Shared->Prop}
theorem Inv.fV (I:Inv X pins σ H s)(E:Value->Shared->Prop):Inv (X.fV E) pins σ H s:=⟨I.ok.fV E,I.os,I.bare,I.base,I.loc,I.cell,I.free,I.dz,I.pin,I.aL,I.len⟩
theorem Inv.dm (I:Inv (X.fV E) pins σ H s):Inv X pins σ H s:=⟨I.ok.dm,I.os,I.bare,I.base,I.loc,I.cell,I.free,I.dz,I.pin,I.aL,I.len⟩
theorem SP.dm {D:Ends}{f:Flow}{s':Shared}(h:SP (X.fV E) pins D f s'):SP X pins D f s':=by
 cases f with
 |next=>obtain⟨σ',H',I,q⟩:=h;exact⟨σ',H',I.dm,q⟩
 |brk=>obtain⟨σ',H',I,q⟩:=h;exact⟨σ',H',I.dm,q⟩
 |cont=>obtain⟨σ',H',I,q⟩:=h;exact⟨σ',H',I.dm,q⟩
 |ret u=>obtain⟨v,σ',H',I,r,q⟩:=h;exact⟨v,σ',H',I.dm,r,q⟩
theorem PE.uN {e:Expr}{t:TE}(h:PE X.uN e t):PE X e t:=λ pins s σ H Q I hw=>
 A9 (h pins s σ H Q (I.fV _) hw) (λ _ _ ⟨v,H',I',r,q⟩=>⟨v,H',I'.dm,r,q⟩) λ _ _ z=>False.elim z
theorem PT.uN {e:Expr}{t:TT}(h:PT X.uN e t):PT X e t:=λ pins s σ H Q I hw=>
 A9 (h pins s σ H Q (I.fV _) hw) (λ _ _ ⟨H',I',q⟩=>⟨H',I'.dm,q⟩) λ _ _ z=>False.elim z
theorem lB.uN {st:List Stmt}{t:TS}(h:lB X.uN st t):lB X st t:=λ pins s σ H D I hw=>
 A9 (h pins s σ H D (I.fV _) hw) (λ _ _ q=>q.dm) λ _ _ z=>False.elim z
end
section
variable {X:Cx}{st:Stmt}{rest:List Stmt}{t u:TS}{e:Expr}{te:TE}{pos:Pos}
def Fv:TS:=λ D σ H=>D.nx σ H
def Ku(t u:TS):TS:=λ D σ H=>t {D with nx:=u D} σ H
theorem uH:lB X [] Fv:=λ _ _ σ H _ I h=>wpAny_execs_nil ⟨σ,H,I,h⟩
theorem jQ(h1:PS X st t)(h2:lB X rest u):lB X (st::rest) (Ku t u):=by
 intro pins s σ H D I h
 refine wpAny_execs_cons (cg (h1 pins s σ H {D with nx:=u D} I h) λ f s1 q=>?_)
 cases f with
 |next=>
  obtain⟨σ',H',I',q⟩:=q
  exact h2 pins s1 σ' H' D I' q
 |ret v=>exact q
 |brk=>exact q
 |cont=>exact q
theorem nH(h1:PS X st t):lB X [st] t:=by
 intro pins s σ H D I h
 refine wpAny_execs_cons (cg (h1 pins s σ H D I h) λ f s1 q=>?_)
 cases f with
 |next=>exact wpAny_execs_nil q
 |ret v=>exact q
 |brk=>exact q
 |cont=>exact q
theorem Inv.quiet {pins:List (Addr×Obj)}{σ:St}{H:Hp}{s:Shared}(I:Inv X pins σ H s):interactive X.env=false:=by simp[interactive,I.ok.kind]
def Kz(te:TE):TS:=λ D σ H=>te σ H λ _ H1=>D.nx σ H1
theorem uI(he:PE X e te)(hs:swapsWith e none pos.line X.env=pure false:=by rfl):PS X (.Expr e pos) (Kz te):=by
 intro pins s σ H D I h
 exact wpAny_Expr_any (cg (he pins s σ H _ I h) λ v s1 ⟨x,H1,I1,r1,q1⟩=>⟨σ,H1,I1,q1⟩) I.quiet hs
def Oh(te:TE):TS:=λ D σ H=>te σ H D.rt
theorem HS(he:PE X e te):PS X (.Return (some e) pos) (Oh te):=by
 intro pins s σ H D I h
 exact wpAny_Return_some (cg (he pins s σ H _ I h) λ v s1 ⟨x,H1,I1,r1,q1⟩=>⟨x,σ,H1,I1,r1,q1⟩)
def Kx(c:TT)(t u:TS):TS:=λ D σ H=>c σ H λ b H1=>if b=true then t D σ H1 else u D σ H1
theorem FE{c:Expr}{a b:List Stmt}{tc:TT}(hc:PT X c tc)(ha:lB X a t)(hb:lB X b u):PS X (.If c a b pos) (Kx tc t u):=by
 intro pins s σ H D I h
 refine wpAny_If (cg (hc pins s σ H _ I h) λ d s1 ⟨H1,I1,q1⟩=>?_)
 cases d with
 |true=>exact ha pins s1 σ H1 D I1 q1
 |false=>exact hb pins s1 σ H1 D I1 q1
def yf:TS:=λ _ _ _=>False
theorem wy{Fx:List Stmt}:lB X Fx yf:=λ _ _ _ _ _ _ h=>h.elim
end
abbrev TG:=V->St->Hp->(St->Hp->Prop)->Prop
abbrev vH:=List V->St->Hp->(St->Hp->Prop)->Prop
def PG(X:Cx)(target:Expr)(t:TG):Prop:=
 ∀(pins:List (Addr×Obj)) (s:Shared) (σ:St) (H:Hp) (v:V) (u:Value) (Q:St->Hp->Prop),Inv X pins σ H s->RelV v u->t v σ H Q->
  wpAny (model X.prog X.w) X.A (assign target X.env u) (λ _ s'=>∃σ' H',Inv X pins σ' H' s'/\Q σ' H') X.xe s
def JO(X:Cx)(ts:List Expr)(t:vH):Prop:=
 ∀(pins:List (Addr×Obj)) (s:Shared) (σ:St) (H:Hp) (vs:List V) (us:List Value) (Q:St->Hp->Prop),Inv X pins σ H s->Vals vs us->t vs σ H Q->
  wpAny (model X.prog X.w) X.A (assignInOrder ((assignEach ts X.env).map (·.2)) us) (λ _ s'=>∃σ' H',Inv X pins σ' H' s'/\Q σ' H') X.xe s
abbrev xG:=V->V->V->Hp->(Hp->Prop)->Prop
def oX(X:Cx)(t:xG):Prop:=
 ∀(pins:List (Addr×Obj)) (s:Shared) (σ:St) (H:Hp) (o i v:V) (ov iv u:Value) (Q:Hp->Prop),Inv X pins σ H s->RelV o ov->RelV i iv->RelV v u->t o i v H Q->
  wpAny (model X.prog X.w) X.A (setItem ov iv u) (λ _ s'=>∃H',Inv X pins σ H' s'/\Q H') X.xe s
section
variable {X:Cx}{pos:Pos}
def cX(i:Nat):TG:=λ v σ H Q=>Q (σ.set i (some v)) H
theorem aS{i:Nat}{x:Str}(hN:X.N.Nodup)(hi:X.N[i]?=some x)(hx:Loc X.env.scope x)(hf:X.fn x=true\/X.env.scope.names.lookup x=some .local:=by first|exact .inl rfl|exact .inr rfl|assumption):PG X (.Name x pos) (cX i):=by
 intro pins s σ H v u Q I r h
 exact wpAny_assign_Name (gC I hN hi hx r (λ s' I'=>⟨_,H,I',h⟩) hf)
def xg:vH:=λ vs σ H Q=>vs=[]/\Q σ H
def gU(t:TG)(u:vH):vH:=λ vs σ H Q=>∃v r,vs=v::r/\t v σ H λ σ' H'=>u r σ' H' Q
theorem nL:JO X [] xg:=by
 intro pins s σ H vs us Q I r h
 obtain⟨e,h⟩:=h
 subst e
 cases r
 exact assignInOrder_nil ⟨σ,H,I,h⟩
theorem fv{e:Expr}{es:List Expr}{t:TG}{u:vH}(h1:PG X e t)(h2:JO X es u)
  (hs:(assignEach (e::es) X.env).map (·.2)=assign e X.env::(assignEach es X.env).map (·.2):=by rfl):JO X (e::es) (gU t u):=by
 intro pins s σ H vs us Q I r h
 obtain⟨v,vr,e1,h⟩:=h
 subst e1
 cases r with
 |cons r rr=>
  rw[hs]
  refine assignInOrder_cons (cg (h1 pins s σ H _ _ _ I r h) λ _ s1 ⟨σ1,H1,I1,q1⟩=>?_)
  exact h2 pins s1 σ1 H1 _ _ Q I1 rr q1
def AM(K:PySem.W.Frag)(n:Nat)(t:vH):TG:=λ v σ H Q=>∃a xs,v=.ref a/\ef K H a xs/\xs.length=n/\t xs σ H Q
theorem sJ{es:List Expr}{k:Nat}{t:vH}{n:Nat}(hc:X.calm=true)(h:JO X es t)
  (hn:(assignEach es X.env).length=n:=by rfl) (hst:(assignEach es X.env).findIdx? (·.1)=none:=by rfl):PG X (.Tuple es k pos) (AM X.K n t):=by
 intro pins s σ H v u Q I r hw
 obtain⟨a,xs,e1,hq,hl,hw⟩:=hw
 subst e1
 cases r
 obtain⟨ah,rv,ht,hz⟩:=I.tuple hq
 refine assign_Tuple_tuple (I.ok.hd hc) ht (by simp[hn,<- hl,rv.length]) hst λ h' hx=>?_
 have I1:Inv X pins σ H {s with heap:=h'}:=I.kept (t':=s.toks) λ b o e=>hx b o (z7 (z8 e)) e
 exact h pins _ σ H xs _ Q I1 (by simpa using rv) hw
def Qc(to ti:TE)(t:xG):TG:=λ v σ H Q=>to σ H λ o H1=>ti σ H1 λ i H2=>t o i v H2 λ H3=>Q σ H3
theorem H0{o i:Expr}{to ti:TE}{t:xG}(ho:PE X o to)(hi:PE X i ti)(hs:oX X t)
  (ha:∀v,assign (.Subscript o i pos) X.env v=(do
   let ov <- holding [v] (eval o X.env)
   let iv <- holding [v,ov] (eval i X.env)
   standAt pos
   holding [v,ov,iv] (setItem ov iv v)
   release [v,ov,iv] []):=by intro _;rfl):PG X (.Subscript o i pos) (Qc to ti t):=by
 intro pins s σ H v u Q I r h
 rw[ha]
 refine A6 (y7 (cg (ho pins s σ H _ I h) λ ov s1 ⟨x,H1,I1,r1,q1⟩=>?_))
 refine A6 (y7 (cg (hi pins s1 σ H1 _ I1 q1) λ iv s2 ⟨y,H2,I2,r2,q2⟩=>?_))
 refine A6 (wpAny_standAt (A6 (y7 (cg (hs pins s2 σ H2 x y v ov iv u _ I2 r1 r2 r q2) λ _ s3 ⟨H3,I3,q3⟩=>?_))))
 exact wpAny_release ⟨σ,H3,I3,q3⟩
def yg(te:TE)(g:TG):TS:=λ D σ H=>te σ H λ x H1=>g x σ H1 D.nx
theorem HV{tg e:Expr}{te:TE}{g:TG}(he:PE X e te)(hg:PG X tg g)(hs:swapsWithSole [tg] e pos.line X.env=pure false:=by rfl)(hw:swappedStores [tg] e X.env=pure none:=by rfl)
  (h1:(assignEach [tg] X.env).map (·.2)=[assign tg X.env]:=by rfl):PS X (.Assign [tg] e pos) (yg te g):=by
 intro pins s σ H D I h
 refine wpAny_Assign_stores (cg (he pins s σ H _ I h) λ v s1 ⟨x,H1,I1,r1,q1⟩=>?_) hs hw
 rw[h1]
 exact cg (hg pins s1 σ H1 x v _ I1 r1 q1) λ _ s2 q=>q
theorem zl{i:Nat}{x:Str}{e:Expr}{te:TE}{pos':Pos}(hN:X.N.Nodup)(hi:X.N[i]?=some x)(hx:Loc X.env.scope x)(he:PE X e te)(hs:swapsWith e (some (.Name x pos')) pos.line X.env=pure false:=by rfl)(hf:X.fn x=true\/X.env.scope.names.lookup x=some .local:=by first|exact .inl rfl|exact .inr rfl|assumption):
  PS X (.Assign [.Name x pos'] e pos) (yg te (cX i)):=by
 intro pins s σ H D I h
 refine wpAny_Assign_Name (cg (he pins s σ H _ I h) λ v s1 ⟨y,H1,I1,r1,q1⟩=>?_) hs
 exact gC I1 hN hi hx r1 (λ s2 I2=>⟨_,H1,I2,q1⟩) hf
end
section
variable {X:Cx}{pos:Pos}
def GI(c:TT)(tb:TS):TS:=λ D σ H=>∃W:Nat->St->Hp->Prop,(∃m,W m σ H)/\∀m σ H,W m σ H->
 c σ H λ b H1=>if b=true then ∃N:St->Hp->Prop,(∀σ' H',N σ' H'->∃m',m' < m/\W m' σ' H')/\tb {D with nx:=N,ct:=N,bk:=D.nx} σ H1 else D.nx σ H1
theorem zk{c:Expr}{body:List Stmt}{tc:TT}{tb:TS}(hp:PassesOwn (model X.prog X.w) X.A X.env X.xe)(hc:PT X c tc)(hb:lB X body tb):PS X (.While c body [] pos) (GI tc tb):=by
 intro pins s σ H D I h
 obtain⟨W,⟨m0,w0⟩,turn⟩:=h
 refine wpAny_While (codeAny_whileLoop (λ n s'=>∃σ' H',Inv X pins σ' H' s'/\W n σ' H') ?_ m0 ⟨σ,H,I,w0⟩)
 rintro n s1 ⟨σ1,H1,I1,w1⟩
 refine x4 hp (cg (hc pins s1 σ1 H1 _ I1 (turn n σ1 H1 w1)) λ b s2 ⟨H2,I2,q2⟩=>?_)
 cases b with
 |true=>
  obtain⟨N,hN,q2⟩:=q2
  rw[B3 rfl]
  refine x4 hp (cg (hb pins s2 σ1 H2 _ I2 q2) λ f s3 q3=>?_)
  cases f with
  |next=>
   obtain⟨σ3,H3,I3,n3⟩:=q3
   obtain⟨m',hm,w3⟩:=hN σ3 H3 n3
   exact⟨m',hm,σ3,H3,I3,w3⟩
  |cont=>
   obtain⟨σ3,H3,I3,n3⟩:=q3
   obtain⟨m',hm,w3⟩:=hN σ3 H3 n3
   exact⟨m',hm,σ3,H3,I3,w3⟩
  |brk=>exact q3
  |ret v=>exact q3
 |false=>
  rw[B4 l8]
  exact wpAny_execs_nil ⟨σ1,H2,I2,q2⟩
end
structure It where
 go:Nat->Hp->Prop
 BX:Nat->Hp->V->Hp->Prop
 stop:Nat->Hp->Prop
def gu(X:Cx)(pins:List (Addr×Obj))(H:Hp)(b:Addr):Prop:=
 H b=none/\b≠X.env.locals/\b∉X.fs/\(b∈X.ex\/X.s₀.heap.objs.size<=b)/\(∀x c,X.env.cells.lookup x=some c->c≠b)/\∀p∈X.pn++pins,p.1≠b
theorem Inv.iX {X:Cx}{pins:List (Addr×Obj)}{σ:St}{H H':Hp}{s:Shared}{b:Addr}(I:Inv X pins σ H s)(hb:s.heap.objs.size<=b)(hn:H' b=none):gu X pins H' b:=by
 refine⟨hn,Nat.ne_of_gt (m8 I.lt hb),I.OU hb,.inr (A1 I.sz hb),λ x c e z=>?_,λ p hp z=>?_⟩
 ·obtain⟨v,q⟩:=I.cell x c e
  exact absurd (m8 q.lt (by rw[z];exact hb)) (z0 _)
 ·exact absurd (m8 (z8 (I.pin p hp).1) (by rw[z];exact hb)) (z0 _)
structure Turn(P:Program)(w:World)(K:PySem.W.Frag)(tg:Expr)(J:It)(fp:List Addr)(it:Addr)(tn:Nat->Heap->Prop):Prop where
 mem:it∈fp
 obj:∀i h,tn i h->∀b∈fp,∃o,h.get? b=some o/\∀v,o.data≠.cell v
 keep:∀i h h',tn i h->(∀b∈fp,∀o,h.get? b=some o->h'.get? b=some o)->tn i h'
 item:∀(X:Cx),X.prog=P->X.w=w->X.K=K->X.calm=true->∀(i:Nat) (pins:List (Addr×Obj)) (s:Shared) (σ:St) (H:Hp) (E:Value->Shared->Prop),Inv X pins σ H s->(∀b∈fp,gu X pins H b)->tn i s.heap->J.go i H->
  wpAny (model P w) X.A (pyNext (.ref it)) (λ r s1=>∃u,r=some u/\
   wpAny (model P w) X.A (letOwnedTupleGo tg (.ref it) u) (λ _ s2=>∃x H',Inv X pins σ H' s2/\RelV x u/\J.BX i H x H'/\tn (i+1) s2.heap/\∀b∈fp,H' b=none) E s1) E s
 done:∀(X:Cx),X.prog=P->X.w=w->X.K=K->X.calm=true->∀(i:Nat) (pins:List (Addr×Obj)) (s:Shared) (σ:St) (H:Hp) (E:Value->Shared->Prop),Inv X pins σ H s->(∀b∈fp,gu X pins H b)->tn i s.heap->J.stop i H->
  wpAny (model P w) X.A (pyNext (.ref it)) (λ r s1=>r=none/\Inv X pins σ H s1) E s
 self:∀(A:Around) (i:Nat) (s:Shared) (Q:Value->Shared->Prop) (E:Value->Shared->Prop),tn i s.heap->Q (.ref it) s->wpAny (model P w) A (pyIter (.ref it)) Q E s
abbrev TI:=St->Hp->(It->Hp->Prop)->Prop
def QC(X:Cx)(pins:List (Addr×Obj))(σ:St)(tg:Expr)(R:It->Hp->Prop)(NF:Value)(s2:Shared):Prop:=
 ∃(it:Addr) (fp:List Addr) (tn:Nat->Heap->Prop) (J:It) (H':Hp),NF=.ref it/\Inv X pins σ H' s2/\Turn X.prog X.w X.K tg J fp it tn/\tn 0 s2.heap/\(∀b∈fp,gu X pins H' b)/\R J H'
def PI(X:Cx)(tg iter:Expr)(wi:TI):Prop:=
 ∀(pins:List (Addr×Obj)) (s:Shared) (σ:St) (H:Hp) (R:It->Hp->Prop),Inv X pins σ H s->wi σ H R->
  wpAny (model X.prog X.w) X.A (eval iter X.env) (λ v s1=>wpAny (model X.prog X.w) X.A (pyIter v) (QC X pins σ tg R) X.xe s1) X.xe s
theorem qF{M:Model}{A:Around}{E:Value->Shared->Prop}{s:Shared}{tg:Expr}{it:Addr}{u:Value}{o:Obj}{n:String}{vs:Array Value}{Q:Unit->Shared->Prop}(ho:s.heap.get? it=some o)(hc:o.cls=.type n)(hd:o.data=.fields vs)
  (hn:["enumerate","zip","dict_itemiterator","dict_reverseitemiterator","odict_iterator","itertools.zip_longest","itertools.pairwise"].contains n=false) (hQ:Q () s):wpAny M A (letOwnedTupleGo tg (.ref it) u) Q E s:=by
 unfold letOwnedTupleGo
 cases tg <;> first
  |exact A7 hQ
  |(cases u <;> first
    |exact A7 hQ
    |(refine A6 (wpAny_load ho ?_)
      rw[hc,hd]
      show wpAny M A (if(["enumerate","zip","dict_itemiterator","dict_reverseitemiterator","odict_iterator","itertools.zip_longest","itertools.pairwise"].contains n&&vs[0]?==some (rawInt _))=true then _ else _) Q E s
      rw[B4 (by intro h;rw[hn,Bool.false_and]at h;cases h)]
      exact A7 hQ))
def N6(K:PySem.W.Frag)(a:Addr):It:=
 ⟨λ i H=>∃xs x,cS K H a xs/\xs[i]?=some x,λ i H x H'=>H'=H/\∀xs,cS K H a xs->xs[i]?=some x,λ i H=>∃xs,cS K H a xs/\xs.length<=i⟩
def QK(K:PySem.W.Frag)(a:Addr):It:=
 ⟨λ i H=>∃xs x,ef K H a xs/\xs[i]?=some x,λ i H x H'=>H'=H/\∀xs,ef K H a xs->xs[i]?=some x,λ i H=>∃xs,ef K H a xs/\xs.length<=i⟩
def N5(lo:Int)(n:Nat):It:=⟨λ i _=>i < n,λ i H x H'=>H'=H/\x=.int (lo+i),λ i _=>n<=i⟩
theorem vS{P:Program}{w:World}{K:PySem.W.Frag}{tg:Expr}(a it:Addr):Turn P w K tg (N6 K a) [it] it (λ i h=>h.IsListIter it a i) where
 mem:=by simp
 obj:=λ i h st b hb=>by
  have e:b=it:=by simpa using hb
  subst e
  obtain⟨o,e,c,d⟩:=st
  exact⟨o,e,λ v z=>by rw[d]at z;cases z⟩
 keep:=λ i h h' st k=>st.at λ o e=>k it (by simp) o e
 item:=by
  intro X hP hw hK hc i pins s σ H E I hf st hg
  subst hP hw hK
  obtain⟨xs,x,hq,hx⟩:=hg
  obtain⟨ah,rv,p,hz⟩:=I.list hq
  obtain⟨u,hu,ru⟩:=rv.get hx
  obtain⟨f0,f1,f2,f3,f4,f5⟩:=hf it (by simp)
  refine wpAny_pyNext_list_item st p.isList (x:=u) (by simpa using hu) λ h' nk sb=>?_
  have I1:Inv X pins σ H {s with heap:=h'}:=I.turned (t':=s.toks) (λ b o hb e=>(sb.2 b hb).trans e) f0 f1 f3 f4 f5
  obtain⟨o,e,c,d⟩:=id nk
  exact⟨u,rfl,qF (s:={s with heap:=h'}) e c d (by decide) ⟨x,H,I1,ru,⟨rfl,λ ys hy=>by rw[I.qj hy hq];exact hx⟩,nk,λ b hb=>(hf b hb).1⟩⟩
 done:=by
  intro X hP hw hK hc i pins s σ H E I hf st hg
  subst hP hw hK
  obtain⟨xs,hq,hx⟩:=hg
  obtain⟨ah,rv,p,hz⟩:=I.list hq
  obtain⟨f0,f1,f2,f3,f4,f5⟩:=hf it (by simp)
  have hl:=rv.length
  exact wpAny_pyNext_list_end (I.ok.hd hc) st p.isList (by simp;omega) λ h' eb=>⟨rfl,I.turned (t':=s.toks) (λ b o hb e=>eb b o hb e) f0 f1 f3 f4 f5⟩
 self:=λ _ _ _ _ _ st h=>wpAny_pyIter_listiter st h
theorem rT{P:Program}{w:World}{K:PySem.W.Frag}{tg:Expr}(a it:Addr):Turn P w K tg (QK K a) [it] it (λ i h=>h.IsTupleIter it a i) where
 mem:=by simp
 obj:=λ i h st b hb=>by
  have e:b=it:=by simpa using hb
  subst e
  obtain⟨o,e,c,d⟩:=st
  exact⟨o,e,λ v z=>by rw[d]at z;cases z⟩
 keep:=λ i h h' st k=>st.at λ o e=>k it (by simp) o e
 item:=by
  intro X hP hw hK hc i pins s σ H E I hf st hg
  subst hP hw hK
  obtain⟨xs,x,hq,hx⟩:=hg
  obtain⟨ah,rv,p,hz⟩:=I.tuple hq
  obtain⟨u,hu,ru⟩:=rv.get hx
  obtain⟨f0,f1,f2,f3,f4,f5⟩:=hf it (by simp)
  refine wpAny_pyNext_tuple_item st (show s.heap.IsTuple a ah.toArray from p) (x:=u) (by simpa using hu) λ h' nk sb=>?_
  have I1:Inv X pins σ H {s with heap:=h'}:=I.turned (t':=s.toks) (λ b o hb e=>(sb.2 b hb).trans e) f0 f1 f3 f4 f5
  obtain⟨o,e,c,d⟩:=id nk
  exact⟨u,rfl,qF (s:={s with heap:=h'}) e c d (by decide) ⟨x,H,I1,ru,⟨rfl,λ ys hy=>by rw[I.lN hy hq];exact hx⟩,nk,λ b hb=>(hf b hb).1⟩⟩
 done:=by
  intro X hP hw hK hc i pins s σ H E I hf st hg
  subst hP hw hK
  obtain⟨xs,hq,hx⟩:=hg
  obtain⟨ah,rv,p,hz⟩:=I.tuple hq
  obtain⟨f0,f1,f2,f3,f4,f5⟩:=hf it (by simp)
  have hl:=rv.length
  exact wpAny_pyNext_tuple_end (I.ok.hd hc) st (show s.heap.IsTuple a ah.toArray from p) (by simp;omega) λ h' eb=>⟨rfl,I.turned (t':=s.toks) (λ b o hb e=>eb b o hb e) f0 f1 f3 f4 f5⟩
 self:=λ _ _ _ _ _ st h=>wpAny_pyIter_tupleiter st h
theorem rV{P:Program}{w:World}{K:PySem.W.Frag}{tg:Expr}(it:Addr)(lo:Int)(n:Nat):Turn P w K tg (N5 lo n) [it] it (λ i h=>IsRangeIter h it (lo+(i:Nat)*1) ((n:Int) - (i:Nat)) 1) where
 mem:=by simp
 obj:=λ i h st b hb=>by
  have e:b=it:=by simpa using hb
  subst e
  exact⟨_,st,λ v z=>by
   have z':Data.fields _=Data.cell v:=z
   cases z'⟩
 keep:=λ i h h' st k=>k it (by simp) _ st
 item:=by
  intro X hP hw hK hc i pins s σ H E I hf st hg
  subst hP hw hK
  obtain⟨f0,f1,f2,f3,f4,f5⟩:=hf it (by simp)
  have W:=Walks.range (prog:=X.prog) (w:=X.w) (I.ok.hd hc) it lo 1 n
  refine W.item i s _ _ hg st λ v h' tk hv nk kk=>?_
  obtain⟨t,rfl⟩:=hv
  have I1:Inv X pins σ H {s with heap:=h',toks:=tk}:=I.turned (λ b o hb e=>kk b o (by simpa using hb) e) f0 f1 f3 f4 f5
  refine⟨_,rfl,qF (s:={s with heap:=h',toks:=tk}) (n:="range_iterator") nk rfl rfl (by decide) ⟨.int (lo+i),H,I1,⟨t,?_⟩,⟨rfl,rfl⟩,nk,λ b hb=>(hf b hb).1⟩⟩
  rw[Int.mul_one]
 done:=by
  intro X hP hw hK hc i pins s σ H E I hf st hg
  subst hP hw hK
  obtain⟨f0,f1,f2,f3,f4,f5⟩:=hf it (by simp)
  exact wpAny_pyNext_range_end (I.ok.hd hc) st (by have:n<=i:=hg;omega) λ h' eb=>⟨rfl,I.turned (t':=s.toks) (λ b o hb e=>eb b o hb e) f0 f1 f3 f4 f5⟩
 self:=λ _ _ _ _ _ st h=>wpAny_pyIter_rangeiter st h
section
variable {X:Cx}{tg:Expr}
theorem yZ{pins:List (Addr×Obj)}{σ:St}{H:Hp}{s:Shared}{R:It->Hp->Prop}{E:Value->Shared->Prop}{lo hi:Int}{t u v:Tok}{tk:Nat}(I:Inv X pins σ H s)(h1: -(2^62)<=lo)(h2:lo < 2^62)(h3: -(2^62)<=hi)(h4:hi < 2^62)
  (q:R (N5 lo (hi - lo).toNat) H):wpAny (model X.prog X.w) X.A (pyIter (.ref s.heap.objs.size)) (QC X pins σ tg R) E {s with heap:=s.heap.push {cls:=.type "range",data:=.fields #[.int lo t,.int hi u,.int 1 v]},toks:=tk}:=by
 refine wpAny_pyIter_range (IsRange.new ..) (small_one h1 h2 h3 h4) ?_
 have I1:Inv X pins σ H {s with heap:=s.heap.push {cls:=.type "range",data:=.fields #[.int lo t,.int hi u,.int 1 v]},toks:=tk}:=I.kept λ b o e=>j2 _ e
 refine⟨(s.heap.push {cls:=.type "range",data:=.fields #[.int lo t,.int hi u,.int 1 v]}).objs.size,[(s.heap.push {cls:=.type "range",data:=.fields #[.int lo t,.int hi u,.int 1 v]}).objs.size],_,_,H,rfl,
  I1.kept (t':=tk) λ b o e=>j2 _ e,rV _ lo (hi - lo).toNat,?_,λ b hb=>?_,q⟩
 ·have e1:lo+((0:Nat):Int)*1=lo:=by simp
  have e2:(((hi - lo).toNat:Nat):Int) - ((0:Nat):Int)=Builtin.Range.rangeSize lo hi 1:=by rw[rangeSize_one];split <;> omega
  show IsRangeIter _ _ (lo+((0:Nat):Int)*1) ((((hi - lo).toNat:Nat):Int) - ((0:Nat):Int)) 1
  rw[e1,e2]
  exact l6 _ rfl
 ·have e:b=(s.heap.push {cls:=.type "range",data:=.fields #[.int lo t,.int hi u,.int 1 v]}).objs.size:=by simpa using hb
  subst e
  exact I1.iX (A2 _) (I1.aL.fresh (A2 _))
def LN(ta:TA):TI:=λ σ H R=>ta σ H λ vs H1=>∃j:Int,vs=[.int j]/\-(2^62)<=j/\j < 2^62/\R (N5 0 j.toNat) H1
theorem wA{a:Expr}{ta:TA}{p pos:Pos}(hg:Gl X "range")(hm:X.mg "range"=none)(ha:PA X [a] ta)(hs:starEach [a] X.env=[(false,eval a X.env)]:=by rfl):PI X tg (.Call (.Name "range" p) [a] [] pos) (LN ta):=by
 intro pins s σ H R I h
 refine Call_ (eK I hg hm boot_range (c4 (cg (ha pos pins s σ H _ I h) λ us s1 ⟨vs,H1,I1,r1,q1⟩=>?_) hs rfl))
 obtain⟨j,e,q1,q2,q⟩:=q1
 subst e
 cases r1 with
 |cons r rr=>
  cases rr
  obtain⟨t,rfl⟩:=r
  exact call_range_1 (yZ I1 (by omega) (by omega) q1 q2 (by simpa using q))
def Oj(wi:TI)(g:TG)(tb:TS):TS:=λ D σ H=>wi σ H λ J H1=>∃W:Nat->Nat->St->Hp->Prop,(∃m,W 0 m σ H1)/\∀i m σ H,W i m σ H->
 (J.stop i H/\D.nx σ H)\/(J.go i H/\∃N:St->Hp->Prop,(∀σ' H',N σ' H'->∃m',m' < m/\W (i+1) m' σ' H')/\∀x H',J.BX i H x H'->g x σ H' λ σ2 H2=>tb {D with nx:=N,ct:=N,bk:=D.nx} σ2 H2)
def nK(fp:List Addr)(h:Heap):List (Addr×Obj):=fp.filterMap λ b=>(h.get? b).map λ o=>(b,o)
theorem cL{fp:List Addr}{h:Heap}{b:Addr}{o:Obj}(hb:b∈fp)(e:h.get? b=some o):(b,o)∈nK fp h:=mem_filterMap.mpr ⟨b,hb,by rw[e];rfl⟩
theorem wJ{fp:List Addr}{h:Heap}{p:Addr×Obj}(hp:p∈nK fp h):p.1∈fp/\h.get? p.1=some p.2:=by
 obtain⟨b,hb,e⟩:=mem_filterMap.mp hp
 cases q:h.get? b with
 |none=>rw[q]at e;cases e
 |some o=>
  rw[q]at e
  have e':(b,o)=p:=w9 e
  subst e'
  exact⟨hb,q⟩
theorem Inv.pinned {pins:List (Addr×Obj)}{σ:St}{H:Hp}{s:Shared}{fp:List Addr}(I:Inv X pins σ H s)(hf:∀b∈fp,gu X pins H b)(ho:∀b∈fp,∃o,s.heap.get? b=some o/\∀v,o.data≠.cell v):Inv X (pins++nK fp s.heap) σ H s:=
 I.cZ λ p hp=>(x9.mp hp).elim (λ z=>I.pin p (j5 _ z)) λ z=>by
  obtain⟨hb,e⟩:=wJ z
  obtain⟨f0,f1,f2,_⟩:=hf p.1 hb
  obtain⟨o,e',d⟩:=ho p.1 hb
  rw[e]at e';cases e'
  exact⟨e,f0,f1,f2,d⟩
theorem Inv.jz {pins pl:List (Addr×Obj)}{σ:St}{H:Hp}{s:Shared}(I:Inv X (pins++pl) σ H s):Inv X pins σ H s:=I.cZ λ p hp=>I.pin p (j5 _ (mem_append_left _ hp))
theorem HU{iter:Expr}{body:List Stmt}{wi:TI}{g:TG}{tb:TS}{pos:Pos}(hp:PassesOwn (model X.prog X.w) X.A X.env X.xe)(hc:X.calm=true)(hi:PI X tg iter wi)(hg:PG X tg g)(hb:lB X body tb)
  (hs:∀x,foldedSetIterable iter X.env x=pure x:=by intro _;rfl):PS X (.For tg iter body [] pos) (Oj wi g tb):=by
 intro pins s σ H D I h
 refine wpAny_For (cg (hi pins s σ H _ I h) λ v s1 h1=>cg h1 λ NF s2 h2=>?_) hs
 obtain⟨it,fp,tn,J,H2,e,I2,T,KI,f2,W,⟨m0,w0⟩,turn⟩:=h2
 subst e
 have GO:∀{H':Hp},(∀b∈fp,H' b=none)->∀b∈fp,gu X pins H' b:=λ hn b hb=>⟨hn b hb,(f2 b hb).2⟩
 refine codeAny_forLoop_any (λ n s'=>∃i σ' H',Inv X pins σ' H' s'/\tn i s'.heap/\(∀b∈fp,H' b=none)/\W i n σ' H') ?_ m0 ⟨0,σ,H2,I2,KI,λ b hb=>(f2 b hb).1,w0⟩
 rintro n s3 ⟨i,σ3,H3,I3,KH,Mx,w3⟩
 rcases turn i n σ3 H3 w3 with⟨stop,qn⟩|⟨go,N,hN,step⟩
 ·refine x4 hp (cg (T.done X rfl rfl rfl hc i pins s3 σ3 H3 X.xe I3 (GO Mx) KH stop) λ r s4 ⟨hr,I4⟩=>?_)
  subst hr
  exact wpAny_execs_nil ⟨σ3,H3,I4,qn⟩
 ·refine x4 hp (cg (T.item X rfl rfl rfl hc i pins s3 σ3 H3 X.xe I3 (GO Mx) KH go) λ r s4 ⟨u,hr,h4⟩=>?_)
  subst hr
  refine x4 hp (cg h4 λ _ s5 ⟨x,H5,I5,r5,y5,Cf,Qf⟩=>?_)
  have QP:=I5.pinned (GO Qf) (T.obj _ _ Cf)
  refine x4 hp (cg (hg _ s5 σ3 H5 x u _ QP r5 (step x H5 y5)) λ _ s6 ⟨σ6,H6,I6,q6⟩=>?_)
  refine x4 hp (cg (hb _ s6 σ6 H6 _ I6 q6) λ f s7 q7=>?_)
  have again:∀{σ7:St} {H7:Hp},Inv X (pins++nK fp s5.heap) σ7 H7 s7->N σ7 H7->∃m,m < n/\∃i σ' H',Inv X pins σ' H' s7/\tn i s7.heap/\(∀b∈fp,H' b=none)/\W i m σ' H':=λ{σ7 H7} I7 n7=>by
   obtain⟨m',hm,w7⟩:=hN σ7 H7 n7
   refine⟨m',hm,i+1,σ7,H7,I7.jz,T.keep _ _ _ Cf λ b hb o e=>(I7.pin (b,o) (j5 _ (j5 _ (cL hb e)))).1,λ b hb=>?_,w7⟩
   obtain⟨o,e,d⟩:=T.obj _ _ Cf b hb
   exact(I7.pin (b,o) (j5 _ (j5 _ (cL hb e)))).2.1
  cases f with
  |next=>obtain⟨σ7,H7,I7,n7⟩:=q7;exact again I7 n7
  |cont=>obtain⟨σ7,H7,I7,n7⟩:=q7;exact again I7 n7
  |brk=>obtain⟨σ7,H7,I7,q7⟩:=q7;exact⟨σ7,H7,I7.jz,q7⟩
  |ret v=>obtain⟨x7,σ7,H7,I7,r7,q7⟩:=q7;exact⟨x7,σ7,H7,I7.jz,r7,q7⟩
end
abbrev R2:=V->V->Hp->VK->Prop
def eo(X:Cx)(f:Value->Value->Sem Value)(r:R2):Prop:=
 ∀(pins:List (Addr×Obj)) (s:Shared) (σ:St) (H:Hp) (x y:V) (v u:Value) (Q:VK),Inv X pins σ H s->RelV x v->RelV y u->r x y H Q->
  wpAny (model X.prog X.w) X.A (f v u) (EP X pins σ Q) X.xe s
def NZ(X:Cx)(f:Value->Sem Value)(r:V->Hp->VK->Prop):Prop:=
 ∀(pins:List (Addr×Obj)) (s:Shared) (σ:St) (H:Hp) (x:V) (v:Value) (Q:VK),Inv X pins σ H s->RelV x v->r x H Q->
  wpAny (model X.prog X.w) X.A (f v) (EP X pins σ Q) X.xe s
def b_(X:Cx)(f:Value)(r:List V->Hp->VK->Prop):Prop:=
 ∀(pins:List (Addr×Obj)) (s:Shared) (σ:St) (H:Hp) (xs:List V) (us:List Value) (Q:VK),Inv X pins σ H s->Vals xs us->r xs H Q->
  wpAny (model X.prog X.w) X.A (call f us) (EP X pins σ Q) X.xe s
def JV(r:R2)(ta tb:TE):TE:=λ σ H Q=>ta σ H λ x H1=>tb σ H1 λ y H2=>r x y H2 Q
def RV(r:V->Hp->VK->Prop)(ta:TE):TE:=λ σ H Q=>ta σ H λ x H1=>r x H1 Q
def rI(C:Int->Int->Prop)(g:Int->Int->V):R2:=λ x y H Q=>∃i j,x=.int i/\y=.int j/\C i j/\Q (g i j) H
def C5(g:Int->Int->V):R2:=λ x y H Q=>∃i j,x=.int i/\y=.int j/\Q (g i j) H
def rU(g:Int->V):V->Hp->VK->Prop:=λ x H Q=>∃i,x=.int i/\Q (g i) H
section
variable {X:Cx}{a b c:Expr}{ta tb tc:TE}{pos:Pos}
theorem JI(ha:PE X a ta)(hb:PE X b tb){pins:List (Addr×Obj)}{s:Shared}{σ:St}{H:Hp}{R:V->V->Hp->Prop}(I:Inv X pins σ H s)
  (h:ta σ H λ x H1=>tb σ H1 λ y H2=>R x y H2) {Q:Value->Shared->Prop} {f:Value->Value->Sem Value}
  (hf:∀v u s2 x y H2,Inv X pins σ H2 s2->RelV x v->RelV y u->R x y H2->wpAny (model X.prog X.w) X.A (f v u) Q X.xe s2):
  wpAny (model X.prog X.w) X.A (eval a X.env) (λ v s₁=>wpAny (model X.prog X.w) X.A (eval b X.env) (λ u s₂=>wpAny (model X.prog X.w) X.A (f v u) Q X.xe s₂) X.xe s₁) X.xe s:=by
 refine cg (ha pins s σ H _ I h) λ v s1 ⟨x,H1,I1,r1,q1⟩=>?_
 refine cg (hb pins s1 σ H1 _ I1 q1) λ u s2 ⟨y,H2,I2,r2,q2⟩=>?_
 exact hf v u s2 x y H2 I2 r1 r2 q2
theorem Ln{op:Operator}{r:R2}(ho:eo X (binaryOp op) r)(ha:PE X a ta)(hb:PE X b tb):PE X (.BinOp a op b pos) (JV r ta tb):=by
 intro pins s σ H Q I h
 exact wpAny_BinOp (JI ha hb I h λ v u s2 x y H2 I2 rx ry q=>ho pins s2 σ H2 x y v u Q I2 rx ry q)
theorem Lm{op:UnaryOp}{r:V->Hp->VK->Prop}(ho:NZ X (unaryOp op) r)(ha:PE X a ta):PE X (.UnaryOp op a pos) (RV r ta):=by
 intro pins s σ H Q I h
 exact UnaryOp_ (cg (ha pins s σ H _ I h) λ v s1 ⟨x,H1,I1,r1,q1⟩=>ho pins s1 σ H1 x v Q I1 r1 q1)
theorem Nx{f:Value->Value->Sem Value}{C:Int->Int->Prop}{g:Int->Int->Int}
  (rule:∀(i j:Int) (t u:Tok) (s:Shared) (Q:Value->Shared->Prop) (E:Value->Shared->Prop),C i j->Q (.int (g i j) s.toks) {s with toks:=s.toks+1}->wpAny (model X.prog X.w) X.A (f (.int i t) (.int j u)) Q E s):
  eo X f (rI C λ i j=>.int (g i j)):=by
 intro pins s σ H x y v u Q I rx ry h
 obtain⟨i,j,rfl,rfl,hc,q⟩:=h
 obtain⟨t,rfl⟩:=rx
 obtain⟨t',rfl⟩:=ry
 exact rule i j t t' s _ _ hc ⟨.int (g i j),H,I.tok _,⟨_,rfl⟩,q⟩
theorem Lx{f:Value->Value->Sem Value}{g:Int->Int->Int}
  (rule:∀(i j:Int) (t u:Tok) (s:Shared) (Q:Value->Shared->Prop) (E:Value->Shared->Prop),Q (.int (g i j) s.toks) {s with toks:=s.toks+1}->wpAny (model X.prog X.w) X.A (f (.int i t) (.int j u)) Q E s):
  eo X f (C5 λ i j=>.int (g i j)):=by
 intro pins s σ H x y v u Q I rx ry h
 obtain⟨i,j,rfl,rfl,q⟩:=h
 obtain⟨t,rfl⟩:=rx
 obtain⟨t',rfl⟩:=ry
 exact rule i j t t' s _ _ ⟨.int (g i j),H,I.tok _,⟨_,rfl⟩,q⟩
theorem Ir{f:Value->Value->Sem Value}{g:Int->Int->Bool}
  (rule:∀(i j:Int) (t u:Tok) (s:Shared) (Q:Value->Shared->Prop) (E:Value->Shared->Prop),Q (.bool (g i j)) s->wpAny (model X.prog X.w) X.A (f (.int i t) (.int j u)) Q E s):
  eo X f (C5 λ i j=>.bl (g i j)):=by
 intro pins s σ H x y v u Q I rx ry h
 obtain⟨i,j,rfl,rfl,q⟩:=h
 obtain⟨t,rfl⟩:=rx
 obtain⟨t',rfl⟩:=ry
 exact rule i j t t' s _ _ ⟨.bl (g i j),H,I,rfl,q⟩
def JS(i j:Int):Prop:=0 < j/\j < 1073741824
def Nc(i j:Int):Prop:=0<=j/\j<=1000000/\i.natAbs < 2^64
def pb(i j:Int):Prop:=(-(2^64) < i/\i < 2^64)\/(-(2^64) < j/\j < 2^64)
theorem pb.ok {i j:Int}(h:pb i j):IntMulOk i j:=by
 rcases h with⟨h1,h2⟩|⟨h1,h2⟩
 ·exact .of_left (intBits_le_64 h1 h2)
 ·exact .of_right (intBits_le_64 h1 h2)
theorem Iq:eo X (binaryOp .Add) (C5 λ i j=>.int (i+j)):=Lx λ _ _ _ _ _ _ _ q=>add_int q
theorem Ie:eo X (binaryOp .Sub) (C5 λ i j=>.int (i - j)):=Lx λ _ _ _ _ _ _ _ q=>sub_int q
theorem Ij:eo X (binaryOp .Mult) (rI pb λ i j=>.int (i*j)):=Nx λ _ _ _ _ _ _ _ hc q=>mul_int q hc.ok
theorem DL:eo X (binaryOp .FloorDiv) (rI JS λ i j=>.int (i / j)):=Nx λ i j _ _ _ _ _ hc q=>by
 have h1:(0:Int) < j:=hc.1
 have h2:j < 1073741824:=hc.2
 exact floordiv_int (by omega) (by rw[Int.fdiv_eq_ediv_of_nonneg i (by omega)];exact q) (.inl (PyProof.noPylong_small (by omega)))
theorem Ik:eo X (binaryOp .Mod) (rI (λ _ j=>0 < j) λ i j=>.int (i % j)):=Nx λ i j _ _ _ _ _ hc q=>by
 have h1:(0:Int) < j:=hc
 exact mod_int' (by omega) (by rw[Int.fmod_eq_emod_of_nonneg i (by omega)];exact q)
theorem Ih:eo X (binaryOp .Pow) (rI Nc λ i j=>.int (i^j.toNat)):=Nx λ _ _ _ _ _ _ _ hc q=>pow_int_small hc.1 hc.2.1 hc.2.2 q
theorem RP{f:Value->Sem Value}{g:Int->Int}
  (rule:∀(i:Int) (t:Tok) (s:Shared) (Q:Value->Shared->Prop) (E:Value->Shared->Prop),Q (.int (g i) s.toks) {s with toks:=s.toks+1}->wpAny (model X.prog X.w) X.A (f (.int i t)) Q E s):
  NZ X f (rU λ i=>.int (g i)):=by
 intro pins s σ H x v Q I rx h
 obtain⟨i,rfl,q⟩:=h
 obtain⟨t,rfl⟩:=rx
 exact rule i t s _ _ ⟨.int (g i),H,I.tok _,⟨_,rfl⟩,q⟩
theorem GA:NZ X (unaryOp .USub) (rU λ i=>.int (-i)):=RP λ _ _ _ _ _ q=>neg_int q
end
def KN:V->V->Bool
 | .a_,.a_=>true| .a_,.int _=>true| .int _,.a_=>true| .a_,.bl _=>true| .bl _,.a_=>true| .a_,.str _=>true| .str _,.a_=>true
 | .int _,.int _=>true| .bl _,.bl _=>true| .str _,.str _=>true| .xQ _,.xQ _=>true
 | .int _,.str _=>true| .str _,.int _=>true| .bl _,.str _=>true| .str _,.bl _=>true
 |_,_=>false
def R_:R2:=λ x y H Q=>KN x y=true/\Q (.bl (decide (x=y))) H
def R7:R2:=λ x y H Q=>KN x y=true/\Q (.bl (!decide (x=y))) H
theorem vo{i j:Int}:decide (V.int i=V.int j)=(i==j):=by
 rw[u7]
 simp
theorem Bd{i j:Bool}:decide (V.bl i=V.bl j)=(i==j):=by
 rw[u7]
 simp
theorem vn{i j:Str}:decide (V.str i=V.str j)=(i==j):=by
 rw[u7]
 simp
theorem vp{i j:Array UInt8}:decide (V.xQ i=V.xQ j)=(i.toList==j.toList):=by
 rw[u7]
 cases i
 cases j
 simp
section
variable {X:Cx}{a b c:Expr}{ta tb tc:TE}{pos:Pos}
theorem aQ{pins:List (Addr×Obj)}{σ:St}{H:Hp}{s:Shared}{Q:VK}{k k':Bool}(I:Inv X pins σ H s)(q:Q (.bl k) H)(e:k=k'):EP X pins σ Q (.bool k') s:=by
 subst e
 exact⟨.bl k,H,I,rfl,q⟩
theorem Lv:eo X (compareOp .Eq) R_:=by
 intro pins s σ H x y v u Q I rx ry h
 obtain⟨hs,q⟩:=h
 cases x with
 |a_=>
  cases rx
  cases y with
  |a_=>cases ry;exact PySem.EqNone.eq_none_none (aQ I q (by simp))
  |bl j=>cases ry;exact PySem.EqNone.eq_none_bool (aQ I q (by simp))
  |int j=>obtain⟨t',rfl⟩:=ry;exact PySem.EqNone.eq_none_int (aQ I q (by simp))
  |str j=>obtain⟨t',rfl⟩:=ry;exact PySem.EqNone.eq_none_str (aQ I q (by simp))
  |_=>exact absurd (show false=true from hs) l8
 |bl i=>
  cases rx
  cases y with
  |a_=>cases ry;exact PySem.EqNone.eq_bool_none (aQ I q (by simp))
  |bl j=>cases ry;exact eq_bool (aQ I q Bd)
  |str j=>obtain⟨t',rfl⟩:=ry;exact PySem.EqMixed.eq_bool_str (aQ I q (by simp))
  |_=>exact absurd (show false=true from hs) l8
 |int i=>
  obtain⟨t,rfl⟩:=rx
  cases y with
  |a_=>cases ry;exact PySem.EqNone.eq_int_none (aQ I q (by simp))
  |int j=>obtain⟨t',rfl⟩:=ry;exact eq_int (aQ I q vo)
  |str j=>obtain⟨t',rfl⟩:=ry;exact PySem.EqMixed.eq_int_str (aQ I q (by simp))
  |_=>exact absurd (show false=true from hs) l8
 |str i=>
  obtain⟨t,rfl⟩:=rx
  cases y with
  |a_=>cases ry;exact PySem.EqNone.eq_str_none (aQ I q (by simp))
  |bl j=>cases ry;exact PySem.EqMixed.eq_str_bool (aQ I q (by simp))
  |int j=>obtain⟨t',rfl⟩:=ry;exact PySem.EqMixed.eq_str_int (aQ I q (by simp))
  |str j=>obtain⟨t',rfl⟩:=ry;exact eq_str (aQ I q vn)
  |_=>exact absurd (show false=true from hs) l8
 |xQ i=>
  obtain⟨t,rfl⟩:=rx
  cases y with
  |xQ j=>obtain⟨t',rfl⟩:=ry;exact PySem.W.eq_bytes (aQ I q vp)
  |_=>exact absurd (show false=true from hs) l8
 |_=>cases y <;> exact absurd (show false=true from hs) l8
theorem Lq:eo X (compareOp .NotEq) R7:=by
 intro pins s σ H x y v u Q I rx ry h
 obtain⟨hs,q⟩:=h
 cases x with
 |a_=>
  cases rx
  cases y with
  |a_=>cases ry;exact PySem.EqNone.ne_none_none (aQ I q (by simp))
  |bl j=>cases ry;exact PySem.EqNone.ne_none_bool (aQ I q (by simp))
  |int j=>obtain⟨t',rfl⟩:=ry;exact PySem.EqNone.ne_none_int (aQ I q (by simp))
  |str j=>obtain⟨t',rfl⟩:=ry;exact PySem.EqNone.ne_none_str (aQ I q (by simp))
  |_=>exact absurd (show false=true from hs) l8
 |bl i=>
  cases rx
  cases y with
  |a_=>cases ry;exact PySem.EqNone.ne_bool_none (aQ I q (by simp))
  |bl j=>cases ry;exact ne_bool (aQ I q (B1 not Bd))
  |str j=>obtain⟨t',rfl⟩:=ry;exact PySem.EqMixed.ne_bool_str (aQ I q (by simp))
  |_=>exact absurd (show false=true from hs) l8
 |int i=>
  obtain⟨t,rfl⟩:=rx
  cases y with
  |a_=>cases ry;exact PySem.EqNone.ne_int_none (aQ I q (by simp))
  |int j=>obtain⟨t',rfl⟩:=ry;exact ne_int (aQ I q (B1 not vo))
  |str j=>obtain⟨t',rfl⟩:=ry;exact PySem.EqMixed.ne_int_str (aQ I q (by simp))
  |_=>exact absurd (show false=true from hs) l8
 |str i=>
  obtain⟨t,rfl⟩:=rx
  cases y with
  |a_=>cases ry;exact PySem.EqNone.ne_str_none (aQ I q (by simp))
  |bl j=>cases ry;exact PySem.EqMixed.ne_str_bool (aQ I q (by simp))
  |int j=>obtain⟨t',rfl⟩:=ry;exact PySem.EqMixed.ne_str_int (aQ I q (by simp))
  |str j=>obtain⟨t',rfl⟩:=ry;exact ne_str (aQ I q (B1 not vn))
  |_=>exact absurd (show false=true from hs) l8
 |xQ i=>
  obtain⟨t,rfl⟩:=rx
  cases y with
  |xQ j=>obtain⟨t',rfl⟩:=ry;exact PySem.W.ne_bytes (aQ I q (B1 not vp))
  |_=>exact absurd (show false=true from hs) l8
 |_=>cases y <;> exact absurd (show false=true from hs) l8
theorem Lr:eo X (compareOp .Lt) (C5 λ i j=>.bl (decide (i < j))):=Ir λ _ _ _ _ _ _ _ q=>lt_int q
theorem Ls:eo X (compareOp .Gt) (C5 λ i j=>.bl (decide (j < i))):=Ir λ _ _ _ _ _ _ _ q=>gt_int q
theorem Lu:eo X (compareOp .GtE) (C5 λ i j=>.bl (decide (j<=i))):=Ir λ _ _ _ _ _ _ _ q=>ge_int q
theorem wC:eo X (compareOp .In) (λ x y H Q=>∃i j,x=.str i/\y=.str j/\Q (.bl (!(Builtin.Str.occurrences j i 0 j.length 1).isEmpty)) H):=by
 intro pins s σ H x y v u Q I rx ry h
 obtain⟨i,j,rfl,rfl,q⟩:=h
 obtain⟨t,rfl⟩:=rx
 obtain⟨t',rfl⟩:=ry
 exact in_str (aQ I q rfl)
theorem Il:eo X (compareOp .Is) (λ x y H Q=>y=.a_/\Q (.bl (decide (x=.a_))) H):=by
 intro pins s σ H x y v u Q I rx ry h
 obtain⟨rfl,q⟩:=h
 cases ry
 refine is_none_gen (aQ I q ?_)
 cases x <;> first
  |(cases rx;rfl)
  |(obtain⟨t,rfl⟩:=rx;rfl)
theorem eo.or {f:Value->Value->Sem Value}{r r':R2}(h:eo X f r)(h':eo X f r'):eo X f (λ x y H Q=>r x y H Q\/r' x y H Q):=by
 intro pins s σ H x y v u Q I rx ry q
 rcases q with q|q
 ·exact h pins s σ H x y v u Q I rx ry q
 ·exact h' pins s σ H x y v u Q I rx ry q
theorem bf(b:Expr){op:CmpOp}(h:op≠.In:=by decide)(h2:op≠.NotIn:=by decide):behindInMarks op b=false:=by
 have e1:(op==CmpOp.In)=false:=by cases op <;> first|rfl|exact absurd rfl h
 have e2:(op==CmpOp.NotIn)=false:=by cases op <;> first|rfl|exact absurd rfl h2
 cases b <;> simp[behindInMarks,e1,e2]
theorem DC{op:CmpOp}{r:R2}(ho:eo X (compareOp op) r)(ha:PE X a ta)(hb:PE X b tb)(hm:behindInMarks op b=false):PE X (.Compare a [op] [b] pos) (JV r ta tb):=by
 intro pins s σ H Q I h
 exact wpAny_Compare1 (JI ha hb I h λ v u s2 x y H2 I2 rx ry q=>ho pins s2 σ H2 x y v u Q I2 rx ry q) hm
def Kt(t:TE):TT:=λ σ H Q=>t σ H λ x H'=>∃k,x=.bl k/\Q k H'
theorem Dq{op:CmpOp}{r:R2}(ho:eo X (compareOp op) r)(ha:PE X a ta)(hb:PE X b tb)(hm:behindInMarks op b=false):PT X (.Compare a [op] [b] pos) (Kt (JV r ta tb)):=by
 intro pins s σ H Q I h
 refine wpAny_isTrue_Compare1 (cg (ha pins s σ H _ I h) λ v s1 ⟨x,H1,I1,r1,q1⟩=>cg (hb pins s1 σ H1 _ I1 q1) λ u s2 ⟨y,H2,I2,r2,q2⟩=>
  cg (ho pins s2 σ H2 x y v u _ I2 r1 r2 q2) λ c s3 ⟨z,H3,I3,r3,k,e,q3⟩=>?_) hm
 subst e
 cases r3
 exact o8 ⟨H3,I3,q3⟩
theorem ir:(sizeLine:Nat) < 2^63:=by rw[A3];decide
theorem sP:eo X (binaryOp .Add) (λ x y H Q=>∃i j,x=.str i/\y=.str j/\i.length+j.length<=sizeLine/\Q (.str (i++j)) H):=by
 intro pins s σ H x y v u Q I rx ry h
 obtain⟨i,j,rfl,rfl,hz,q⟩:=h
 obtain⟨t,rfl⟩:=rx
 obtain⟨t',rfl⟩:=ry
 exact add_str (λ t' tk=>⟨.str (i++j),H,I.tok _,⟨_,rfl⟩,q⟩) hz
theorem vals1{x:V}{us:List Value}(r:Vals [x] us):∃u,us=[u]/\RelV x u:=by
 cases r with
 |cons r1 r2=>cases r2;exact⟨_,rfl,r1⟩
theorem vals2{x y:V}{us:List Value}(r:Vals [x,y] us):∃u w',us=[u,w']/\RelV x u/\RelV y w':=by
 cases r with
 |cons r1 r2=>
  cases r2 with
  |cons r3 r4=>cases r4;exact⟨_,_,rfl,r1,r3⟩
theorem xt(hc:X.calm=true):b_ X (.builtin "min") (λ xs H Q=>∃i j,xs=[.int i,.int j]/\Q (.int (if j < i then j else i)) H):=by
 intro pins s σ H xs us Q I r h
 obtain⟨i,j,rfl,q⟩:=h
 obtain⟨u,w',rfl,⟨t,rfl⟩,⟨t',rfl⟩⟩:=vals2 r
 refine min_two_ints (I.ok.hd hc) λ h' tk k=>⟨_,H,I.kept k,?_,q⟩
 by_cases hj:j < i
 ·rw[B3 hj,B3 hj];exact⟨_,rfl⟩
 ·rw[B4 hj,B4 hj];exact⟨_,rfl⟩
theorem xx:b_ X (.type "int") (λ xs H Q=>(∃i,xs=[.int i]/\Q (.int i) H)\/∃k,xs=[.bl k]/\Q (.int (if k then 1 else 0)) H):=by
 intro pins s σ H xs us Q I r h
 rcases h with⟨i,rfl,q⟩|⟨k,rfl,q⟩
 ·obtain⟨u,rfl,t,rfl⟩:=vals1 r
  exact call_int_int ⟨.int i,H,I,⟨_,rfl⟩,q⟩
 ·obtain⟨u,rfl,r1⟩:=vals1 r
  cases r1
  exact call_int_bool ⟨.int (if k then 1 else 0),H,I.tok _,⟨_,rfl⟩,q⟩
end
structure JP(h:Heap)(x dx C:Addr)(mA:Str->Option Value):Prop where
 obj:h.get? x=some (PySem.W.instObj C dx)
 ns:h.Ns1 dx mA
 ne:dx≠x
set_option tactic.hygienic true in
theorem iq{h:Heap}{dx:Addr}{mA:Str->Option Value}(n:h.Ns1 dx mA):∃od,h.get? dx=some od/\∀name,PySem.W.lookIn name od=some (mA name):=by
 obtain⟨o,es,ep,ho,hd,hk,_,hm⟩:=n
 refine⟨o,ho,λ name=>?_⟩
 have e:=hm name
 unfold nsFind findBy at e
 rw[<- Array.find?_toList]at e
 unfold PySem.W.lookIn
 rw[hd]
 dsimp only
 split
 ·rename_i y q
  rw[q]at e
  exact B1 some e
 ·rename_i q
  rw[q]at e
  have a:es.toList.any (·.refKey)=false:=by
   rw[List.any_eq_false]
   intro y hy
   obtain⟨z,t,AD⟩:=hk y (Array.mem_toList_iff.mp hy)
   simp[DictEntry.refKey,AD]
  have a':¬es.toList.any (·.refKey)=true:=by rw[a];exact l8
  rw[B4 a']
  exact B1 some e
theorem JP.look {h:Heap}{x dx C:Addr}{mA:Str->Option Value}(I:JP h x dx C mA):∃od,PySem.W.InstAt h x (PySem.W.instObj C dx) C (some od)/\∀name,PySem.W.lookIn name od=some (mA name):=
 let⟨od,ho,hl⟩:=iq I.ns
 ⟨od,⟨I.obj,rfl,rfl,ho⟩,hl⟩
theorem fb.some_of {v:V}{o:Option Value}(r:fb (some v) o):∃u,o=some u/\RelV v u:=by
 cases o with
 |none=>exact(show False from r).elim
 |some u=>exact⟨u,rfl,r⟩
theorem xf{v:V}{u:Value}(r:RelV v u):PySem.W.handedIn u=true:=by
 cases v with
 |a_=>cases(show u=Value.none from r);rfl
 |bl b=>cases(show u=Value.bool b from r);rfl
 |int i=>obtain⟨t,e⟩:=(show ∃t,u=Value.int i t from r);cases e;rfl
 |str x=>obtain⟨t,e⟩:=(show ∃t,u=Value.str x t from r);cases e;rfl
 |xQ b=>obtain⟨t,e⟩:=(show ∃t,u=Value.bytes b t from r);cases e;rfl
 |Jr b=>obtain⟨t,e⟩:=(show ∃t,u=Value.float b t from r);cases e;rfl
 |ref a=>cases(show u=Value.ref a from r);rfl
 |ty n=>cases(show u=Value.type n from r);rfl
section
variable {P:Program}{w:World}{H H':Hp}{h h':Heap}{a C dx:Addr}{fs TU:List (Str×V)}
theorem Er(aL:eA P w H h)(e:H a=some (.ins C dx fs)):∃mA,JP h a dx C mA/\(∀f,fb (fs.lookup f) (mA f))/\PySem.Within mA (fs.map (·.1))/\fs.length<=1000/\H dx=some (.own a):=by
 obtain⟨d,z,ne,ob,mA,n,r,q⟩:=(show bb P w H h a (.ins C dx fs)from aL a _ e)
 exact⟨mA,⟨ob,n,ne⟩,r,q,z,d⟩
end
structure QQ(K:PySem.W.Frag)(C:Addr):Prop where
 pg:PySem.W.plainGet K C Str.empty=true
 hd:PySem.W.hasDictIn K C=true
 po:PySem.W.plainOver K C=true
 sa:PySem.W.findIn K (.ref C) "__setattr__"=some (some (.builtin "object.__setattr__"))
theorem QQ.get {K:PySem.W.Frag}{C:Addr}(c:QQ K C)(f:Str):PySem.W.plainGet K C f=true:=c.pg
section
variable {X:Cx}{pins:List (Addr×Obj)}{σ:St}{H:Hp}{s:Shared}{a C dx:Addr}{fs:List (Str×V)}{f:Str}{v:V}{A:Around}{E:Value->Shared->Prop}
theorem Fh{prog:Program}{w:World}{env:Env}{e:Expr}{f:Str}{pos:Pos}{s:Shared}{Q:Value->Shared->Prop}(hb:attributeBase e f env (eval e env)=eval e env)
  (h:wpAny (model prog w) A (eval e env) (λ o s₁=>wpAny (model prog w) A (getAttr o f true) Q E s₁) E s):wpAny (model prog w) A (eval (.Attribute e f pos) env) Q E s:=
 Attribute_any_ h (by rw[arm_eval_Attribute,hb])
end
section
variable {X:Cx}{pins:List (Addr×Obj)}{σ:St}{H:Hp}{s:Shared}{A:Around}{E:Value->Shared->Prop}{Q:Value->Shared->Prop}{c:Value}{b:Bool}
inductive i_(K:PySem.W.Frag)(H:Hp):V->Value->Prop where
 |a_:i_ K H .a_ (.type "NoneType")
 |bl (x:Bool):i_ K H (.bl x) (.type "bool")
 |int (i:Int):i_ K H (.int i) (.type "int")
 |str (x:Str):i_ K H (.str x) (.type "str")
 |Jr (x:UInt64):i_ K H (.Jr x) (.type "float")
 |lst {a:Addr} {xs:List V} (e:H a=some (.lst xs)):i_ K H (.ref a) (.type "list")
 |jm {a:Addr} {o:Obj} {xs:List V} (e:H a=some (.jm o (.lst xs))):i_ K H (.ref a) (.type "list")
 |tup {a:Addr} {xs:List V} (e:H a=some (.tup xs)):i_ K H (.ref a) (.type "tuple")
 |dK {a:Addr} {kvs:List (Key×V)} (e:H a=some (.dK kvs)):i_ K H (.ref a) (.type "dict")
 |dT {a:Addr} {kvs:List (List Key×V)} (e:H a=some (.dT kvs)):i_ K H (.ref a) (.type "dict")
 |ins {a C dx:Addr} {fs:List (Str×V)} (e:H a=some (.ins C dx fs)) (cl:QQ K C) (ha:PySem.W.findIn K (.ref C) "__class__"=some (some (.builtin "object.__class__")))
   (hn:PySem.W.specialIn K (.builtin "object.__class__") "__get__"=some (some (.builtin "getset_descriptor.__get__"))) (Rb:PySem.W.takesIn K (.builtin "object.__class__")=some true)
   (hm:PySem.W.mroIn K C (.type "object")=some true):i_ K H (.ref a) (.ref C)
theorem fP{x:V}{u t:Value}(I:Inv X pins σ H s)(rx:RelV x u)(ty:i_ X.K H x t)(e:PySem.W.kitOne X.K t c=some b)(h:∀tk,Q (.bool b) {s with toks:=tk}):
  wpAny (model X.prog X.w) A (call (.builtin "isinstance") [u,c]) Q E s:=by
 cases ty with
 |a_=>cases(show u=Value.none from rx);exact x6 PySem.W.kitx_none I.eQ True.intro e (λ z=>nomatch z) h
 |bl y=>cases(show u=Value.bool y from rx);exact x6 PySem.W.kitx_bool I.eQ True.intro e (λ z=>nomatch z) h
 |int i=>obtain⟨t,q⟩:=(show ∃t,u=Value.int i t from rx);cases q;exact x6 PySem.W.kitx_int I.eQ True.intro e (λ z=>nomatch z) h
 |str y=>obtain⟨t,q⟩:=(show ∃t,u=Value.str y t from rx);cases q;exact x6 PySem.W.kitx_str I.eQ True.intro e (λ z=>nomatch z) h
 |Jr y=>obtain⟨t,q⟩:=(show ∃t,u=Value.float y t from rx);cases q;exact x6 PySem.W.kitx_float I.eQ True.intro e (λ z=>nomatch z) h
 |@lst a xs ea=>
  cases(show u=Value.ref a from rx)
  obtain⟨_,_,n,_,h1⟩:=(show bb X.prog X.w H s.heap a (.lst xs)from I.aL a _ ea)
  exact x6 PySem.W.kitx_list I.eQ ⟨_,h1,rfl⟩ e (λ z=>nomatch z) h
 |@jm a ob xs ea=>
  cases(show u=Value.ref a from rx)
  obtain⟨_,_,_,n,_,h1⟩:=(show bb X.prog X.w H s.heap a (.jm ob (.lst xs))from I.aL a _ ea)
  exact x6 PySem.W.kitx_list I.eQ ⟨_,h1,rfl⟩ e (λ z=>nomatch z) h
 |@tup a xs ea=>
  cases(show u=Value.ref a from rx)
  obtain⟨_,_,_,p⟩:=(show bb X.prog X.w H s.heap a (.tup xs)from I.aL a _ ea)
  obtain⟨o,h1,h2,_⟩:=p
  exact x6 PySem.W.kitx_tuple I.eQ ⟨o,h1,h2⟩ e (λ z=>nomatch z) h
 |@dK a kvs ea=>
  cases(show u=Value.ref a from rx)
  obtain⟨_,_,vs,_,p⟩:=(show bb X.prog X.w H s.heap a (.dK kvs)from I.aL a _ ea)
  obtain⟨o,es,ep,h1,h2,_⟩:=p
  exact x6 PySem.W.kitx_dict I.eQ ⟨o,h1,h2.1⟩ e (λ z=>nomatch z) h
 |@dT a kvs ea=>
  cases(show u=Value.ref a from rx)
  obtain⟨_,_,xs,_,o,es,ep,h1,h2,_⟩:=(show bb X.prog X.w H s.heap a (.dT kvs)from I.aL a _ ea)
  exact x6 PySem.W.kitx_dict I.eQ ⟨o,h1,h2.1⟩ e (λ z=>nomatch z) h
 |@ins a C dx fs ea cl ha hn Rb hm=>
  cases(show u=Value.ref a from rx)
  obtain⟨mA,O,_⟩:=Er I.aL ea
  obtain⟨od,J,_⟩:=O.look
  exact x6 (PySem.W.kitx_own (cl.get _) cl.hd ha hn Rb hm) I.eQ J e (λ z=>nomatch z) h
end
structure bA(k:Nat)(A:Around):Prop where
 hd:A.handled=none
 dp:A.depth+2*k+5 < recursionLimit
 un:A.units+16*k+200 < cLine
theorem bA.mono {j k:Nat}{A:Around}(r:bA k A)(h:j<=k):bA j A:=⟨r.hd,by have:=r.dp;omega,by have:=r.un;omega⟩
theorem bA.deeper {k:Nat}{A:Around}(r:bA (k+1) A)(env:Env):bA k (A.deeper env):=
 ⟨r.hd,by have:=r.dp;show A.depth+1+2*k+5 < _;omega,by have:=r.un;show A.units+3+16*k+200 < _;omega⟩
theorem bA.in1 {k:Nat}{A:Around}(r:bA (k+1) A):bA k A.in1:=
 ⟨r.hd,by have:=r.dp;show A.depth+2*k+5 < _;omega,by have:=r.un;show A.units+1+16*k+200 < _;omega⟩
theorem sY{A:Around}{C:Addr}{us:List Value}{kw:List (Str×Value)}:(A.under (.builtin "type.__call__" ⟨.ref C::us,kw⟩)).depth=A.depth+1:=by
 first|rfl|simp[Around.under,Code.weight,Code.isCreation,Code.isGuard,Code.isCaller,Code.frames,Code.isFrame,guardIds]
theorem sX{A:Around}{C:Addr}{us:List Value}{kw:List (Str×Value)}:(A.under (.builtin "type.__call__" ⟨.ref C::us,kw⟩)).units=A.units+1:=by
 first|rfl|simp[Around.under,Code.cUnits,Code.frames,Code.isFrame]
theorem bA.make {k:Nat}{A:Around}(r:bA (k+1) A)(C:Addr)(us:List Value)(kw:List (Str×Value)):bA k (A.under (.builtin "type.__call__" ⟨.ref C::us,kw⟩)):=
 ⟨r.hd,by have:=r.dp;rw[sY];omega,by have:=r.un;rw[sX];omega⟩
theorem bA.depth {k:Nat}{A:Around}(r:bA k A):A.depth < recursionLimit:=by have:=r.dp;omega
theorem bA.units {k:Nat}{A:Around}(r:bA k A):A.units+64 < cLine:=by have:=r.un;omega
def kW:TA:=λ _ H Q=>Q [] H
def dq(ta:TE)(tr:TA):TA:=λ σ H Q=>ta σ H λ x H1=>tr σ H1 λ xs H2=>Q (x::xs) H2
section
variable {X:Cx}{e:Expr}{es:List Expr}{te:TE}{t:TA}{pos:Pos}
theorem cu:PA X [] kW:=λ _ _ _ _ H Q I h=>Calls.spliced_nil ⟨[],H,I,.nil,h⟩
theorem aK(ha:PE X e te)(hr:PA X es t)(hs:starEach (e::es) X.env=(false,eval e X.env)::starEach es X.env:=by rfl):PA X (e::es) (dq te t):=by
 intro pos pins s σ H Q I h
 rw[hs]
 show wpAny _ _ (spliced ((false,eval e X.env)::backTo pos (starEach es X.env))) _ _ s
 refine Calls.spliced_cons (cg (ha pins s σ H _ I h) λ u s1 ⟨x,H1,I1,r1,q1⟩=>?_)
 exact cg (hr pos pins s1 σ H1 _ I1 q1) λ us s2 ⟨xs,H2,I2,r2,q2⟩=>⟨x::xs,H2,I2,.cons r1 r2,q2⟩
def Cb(t:TA):TE:=λ σ H Q=>t σ H λ xs H1=>xs.length<=sizeLine/\∀p,H1 p=none->Q (.ref p) (upd H1 p (.tup xs))
def Kw(t:TA):TE:=λ σ H Q=>t σ H λ xs H1=>xs.length<=sizeLine/\∀p,H1 p=none->Q (.ref p) (upd H1 p (.lst xs))
theorem nM{x1}(h:PA X es t):PE X (.Tuple es x1 pos) (Cb t):=by
 intro pins s σ H Q I hq
 refine wpAny_Tuple_spliced (cg (h pos pins s σ H _ I hq) λ us s1 ⟨xs,H1,I1,r,z,q⟩=>⟨by rw[<- r.length];exact z,?_⟩)
 have hf:H1 s1.heap.objs.size=none:=I1.aL.fresh (A2 _)
 refine⟨.ref s1.heap.objs.size,upd H1 s1.heap.objs.size (.tup xs),I1.laid (t':=s1.toks) (λ b u e=>j2 _ e) (A2 _) ?_,rfl,q _ hf⟩
 exact⟨z,us,r,⟨_,l6 _ rfl,rfl,_,rfl⟩⟩
theorem zx(h:PA X es t):PE X (.List es pos) (Kw t):=by
 intro pins s σ H Q I hq
 refine wpAny_List_spliced (cg (h pos pins s σ H _ I hq) λ us s1 ⟨xs,H1,I1,r,z,q⟩=>⟨by rw[<- r.length];exact z,?_⟩)
 have hf:H1 s1.heap.objs.size=none:=I1.aL.fresh (A2 _)
 refine⟨.ref s1.heap.objs.size,upd H1 s1.heap.objs.size (.lst xs),I1.laid (t':=s1.toks) (λ b u e=>j2 _ e) (A2 _) ?_,rfl,q _ hf⟩
 exact⟨z,us,0,r,l6 _ rfl⟩
end
abbrev Sp:=List V->Hp->VK->XK->Prop
abbrev xT:=List Env->Hp->Shared->XK->Value->Shared->Prop
structure kR(P:Program)(w:World)(K:PySem.W.Frag)(mg:Str->Option Value)(base:Heap)(A:Around)(outer:List Env)(s:Shared)(H:Hp):Prop where
 frames:A.frames=some outer
 mod:Mod K mg base
 bs:∀b o,base.get? b=some o->s.heap.get? b=some o/\H b=none
 xR:base.objs.size<=s.heap.objs.size
 gW:s.heap.FunFrames base outer
 EO:∀b∈gf outer,H b=none
 aL:eA P w H s.heap
 bare:AllBare s.gens
def CE(outer:List Env)(P:Program)(w:World)(H:Hp)(s:Shared)(Q:VK)(u:Value)(s':Shared):Prop:=
 ∃v H',s'.os=s.os/\AllBare s'.gens/\Un (gf outer) [] H H' s.heap s'.heap/\eA P w H' s'.heap/\RelV v u/\Q v H'
def CR(CX:xT)(outer:List Env)(P:Program)(w:World)(H:Hp)(s:Shared)(Q:VK)(E:XK)(r:Result)(s':Shared):Prop:=
 match r with
 | .ok (.ret u)=>CE outer P w H s Q u s'
 | .ok _=>False
 | .error e=>CX outer H s E e s'
structure bw(P:Program)(w:World)(K:PySem.W.Frag)(mg:Str->Option Value)(base:Heap)(CX:xT)(k:Nat)(f:Addr)(fd:FuncData)(ps:List Str)(sp:Sp):Prop where
 len:∀vs H Q E,sp vs H Q E->vs.length=ps.length
 run:∀(A:Around) (outer:List Env) (s:Shared) (H:Hp) (args:Args) (us:List Value) (vs:List V) (Q:VK) (E:XK),bA k A->kR P w K mg base A outer s H->BindsTo s fd args (ps.zip us)->Vals vs us->sp vs H Q E->
  codeAny (model P w) A (.call (.ref f) args) (CR CX outer P w H s Q E) s
theorem kR.make {P:Program}{w:World}{K:PySem.W.Frag}{mg:Str->Option Value}{base:Heap}{A:Around}{outer:List Env}{s:Shared}{H:Hp}(e:kR P w K mg base A outer s H)(C:Addr)(us:List Value)(kw:List (Str×Value)):
  kR P w K mg base (A.under (.builtin "type.__call__" ⟨.ref C::us,kw⟩)) outer s H:=⟨by first|exact e.frames|(simpa[Around.under,Code.envs,Code.isFrame,pushEnvs]using e.frames),e.mod,e.bs,e.xR,e.gW,e.EO,e.aL,e.bare⟩
theorem kR.in1 {P:Program}{w:World}{K:PySem.W.Frag}{mg:Str->Option Value}{base:Heap}{A:Around}{outer:List Env}{s:Shared}{H:Hp}(e:kR P w K mg base A outer s H):
  kR P w K mg base A.in1 outer s H:=⟨e.frames,e.mod,e.bs,e.xR,e.gW,e.EO,e.aL,e.bare⟩
section
variable {X:Cx}{pins:List (Addr×Obj)}{σ:St}{H:Hp}{s s':Shared}
theorem Inv.EU (I:Inv X pins σ H s):kR X.prog X.w X.K X.mg X.base X.A X.stack s H:=
 ⟨I.ok.frames,I.ok.mod,I.bs,A1 I.ok.xR I.sz,I.stack,I.jc,I.aL,I.bare⟩
theorem Inv.after {Q:VK}{u:Value}(I:Inv X pins σ H s)(h:CE X.stack X.prog X.w H s Q u s'):EP X pins σ Q u s':=by
 obtain⟨v,H',os,bare,un,aL,r,q⟩:=h
 obtain⟨hh,g,d,t,FL⟩:=s'
 obtain rfl:FL=s.os:=os
 exact⟨v,H',I.call (h':=hh) (g':=g) (d':=d) (t':=t) (ch:=[]) un aL bare (λ b z=>absurd z (by simp)),r,q⟩
end
def Fw(sp:Sp)(AX:List V)(E:XK)(t:TA):TE:=λ σ H Q=>t σ H λ vs H1=>sp (vs++AX) H1 Q E
def Binds(K:PySem.W.Frag)(fd:FuncData)(ps:List Str)(ds:List Value):Prop:=
 ∀(s:Shared) (us:List Value),K.In s.heap->(us++ds).length=ps.length->BindsTo s fd ⟨us,[]⟩ (ps.zip (us++ds))
theorem Binds.all {K:PySem.W.Frag}{fd:FuncData}{ps:List Str}(h:∀us:List Value,us.length=ps.length->bindArgs fd ⟨us,[]⟩=pure (ps.zip us)):Binds K fd ps []:=λ s us _ hl=>by
 rw[u9]at hl ⊢
 exact .of_eq (h us hl)
def Passes(CX:xT)(X:Cx)(E:XK):Prop:=∀(pins:List (Addr×Obj)) (σ:St) (H:Hp) (s:Shared) (e:Value) (s':Shared),Inv X pins σ H s->CX X.stack H s E e s'->X.xe e s'
section
variable {X:Cx}{CX:xT}{k:Nat}{f C:Addr}{fd:FuncData}{ps:List Str}{sp:Sp}{AX:List V}{ds:List Value}{E:XK}{x m:Str}{p pos apos:Pos}{e o:Expr}{es:List Expr}{ta:TE}{t:TA}
theorem GZ{pins:List (Addr×Obj)}{σ:St}{H:Hp}{s:Shared}{Q:VK}{us:List Value}{vs:List V}(F:bw X.prog X.w X.K X.mg X.base CX k f fd ps sp)(hr:bA k X.A)(hb:Binds X.K fd ps ds)(hd:Vals AX ds)(hx:Passes CX X E)
  (I:Inv X pins σ H s) (r:Vals vs us) (h:sp (vs++AX) H Q E):wpAny (model X.prog X.w) X.A (call (.ref f) us) (EP X pins σ Q) X.xe s:=by
 have r2:Vals (vs++AX) (us++ds):=r.append hd
 have hl:(us++ds).length=ps.length:=by rw[<- r2.length];exact F.len _ _ _ _ h
 refine wpAny_call (codeAny_mono (F.run X.A X.stack s H ⟨us,[]⟩ (us++ds) (vs++AX) Q E hr I.EU (hb s us I.eQ hl) r2 h) λ r s' hq=>?_)
 cases r with
 |error e=>exact hx pins σ H s e s' I hq
 |ok fl=>
  cases fl with
  |ret u=>exact I.after hq
  |next=>exact False.elim hq
  |brk=>exact False.elim hq
  |cont=>exact False.elim hq
theorem DD(F:bw X.prog X.w X.K X.mg X.base CX k f fd ps sp)(hr:bA k X.A)(hg:Gl X x)(hm:X.mg x=some (.ref f))(hk:PySem.W.keepIn X.K (.ref f)=true)(hb:Binds X.K fd ps ds)(hd:Vals AX ds)(hx:Passes CX X E)
  (ha:PA X (e::es) t) (hdb:(x==("__debug__":Str))=false:=by decide) (he:starEach (e::es) X.env=(false,eval e X.env)::starEach es X.env:=by rfl) (hpl:(backTo pos (starEach es X.env)).any (·.1)=false:=by rfl):
  PE X (.Call (.Name x p) (e::es) [] pos) (Fw sp AX E t):=by
 intro pins s σ H Q I h
 refine n0 (eJ I hg hm ?_ hdb)
 refine PySem.W.callWith_K (h₀:=X.base) I.ok.mod.JZ hk (cg (ha pos pins s σ H _ I h) λ us s1 ⟨vs,H1,I1,r,q⟩=>⟨I1.eQ,?_⟩) he hpl
 exact GZ F hr hb hd hx I1 r q
end
def PK(X:Cx)(LM:List Keyword)(t:TA):Prop:=
 ∀(pos:Pos) (pins:List (Addr×Obj)) (s:Shared) (σ:St) (H:Hp) (Q:List V->Hp->Prop),Inv X pins σ H s->t σ H Q->wpAny (model X.prog X.w) X.A (evalAll ((backToKw pos (keywordEach LM X.env)).map (·.2))) (AP X pins σ Q) X.xe s
section
variable {X:Cx}{CX:xT}{k:Nat}{f C:Addr}{fd:FuncData}{ps ks:List Str}{sp:Sp}{E:XK}{x m:Str}{p pos apos O8:Pos}{e o:Expr}{es:List Expr}{LM:List Keyword}{te ta:TE}{t tk:TA}{nm:Option Str}
theorem HX:PK X [] kW:=λ _ _ _ _ H Q I h=>wpAny_evalAll_nil ⟨[],H,I,.nil,h⟩
theorem Dv(ha:PE X e te)(hr:PK X LM t):PK X (⟨nm,e,O8⟩::LM) (dq te t):=by
 intro pos pins s σ H Q I h
 show wpAny _ _ (evalAll ((do let v <- eval e X.env;standAt pos;pure v)::(backToKw pos (keywordEach LM X.env)).map (·.2))) _ _ s
 refine wpAny_evalAll_cons (A6 (cg (ha pins s σ H _ I h) λ u s1 ⟨x,H1,I1,r1,q1⟩=>A6 (wpAny_standAt (A7 ?_))))
 exact cg (hr pos pins s1 σ H1 _ I1 q1) λ us s2 ⟨xs,H2,I2,r2,q2⟩=>⟨x::xs,H2,I2,.cons r1 r2,q2⟩
variable {g:List Value->List Value->List Value}{gV:List V->List V->List V}
end
structure aH(N P:List Str)(sc:Scope):Prop where
 kind:sc.kind=.function
 co:sc.isCoroutine=false
 gen:sc.isGenerator=false
 nd:N.Nodup
 pre:N.take P.length=P
 par:∀x∈P,sc.names.lookup x=some .local\/sc.names.lookup x=some .cell
 ID:∀y∈sc.names,y.2≠.free
theorem mI{kindOf:Str->Option NameKind}{x:Str}:∀{binds:List (Str×Value)} {m:Str->Option Value},(∀v,(x,v)∉binds)->bindL kindOf binds m x=m x
 |[],_,_=>rfl
 |(n,v)::r,m,h=>by
  unfold bindL
  rw[mI λ w hw=>h w (k4 _ hw)]
  split
  ·have:x≠n:=by rintro rfl;exact h v l7
   simp[this]
  ·rfl
theorem mK{kindOf:Str->Option NameKind}{x:Str}:∀{binds:List (Str×Value)} {m:Str->Option Value},(∀v,(x,v)∉binds)->bindC kindOf binds m x=m x
 |[],_,_=>rfl
 |(n,v)::r,m,h=>by
  unfold bindC
  rw[mK λ w hw=>h w (k4 _ hw)]
  split
  ·rfl
  ·have:x≠n:=by rintro rfl;exact h v l7
   simp[this]
theorem mJ{kindOf:Str->Option NameKind}{x:Str}{v:Value}:∀{P:List Str} {vs:List Value} {i:Nat} {m:Str->Option Value},P.Nodup->P[i]?=some x->vs[i]?=some v->kindOf x=some .local->
  bindL kindOf (P.zip vs) m x=some v
 |[],_,_,_,_,h,_,_=>by simp at h
 |_::_,[],_,_,_,_,h,_=>by simp at h
 |p::P,w::vs,0,m,nd,h1,h2,hk=>by
  simp at h1 h2;subst h1;subst h2
  show bindL kindOf ((p,w)::P.zip vs) m p=_
  unfold bindL
  rw[mI λ v hv=>(nodup_cons.mp nd).1 (of_mem_zip hv).1,B3 hk]
  simp
 |p::P,w::vs,i+1,m,nd,h1,h2,hk=>by
  show bindL kindOf ((p,w)::P.zip vs) m x=_
  unfold bindL
  exact mJ (i:=i) (nodup_cons.mp nd).2 (by simpa using h1) (by simpa using h2) hk
theorem mL{kindOf:Str->Option NameKind}{x:Str}{v:Value}:∀{P:List Str} {vs:List Value} {i:Nat} {m:Str->Option Value},P.Nodup->P[i]?=some x->vs[i]?=some v->kindOf x≠some .local->
  bindC kindOf (P.zip vs) m x=some v
 |[],_,_,_,_,h,_,_=>by simp at h
 |_::_,[],_,_,_,_,h,_=>by simp at h
 |p::P,w::vs,0,m,nd,h1,h2,hk=>by
  simp at h1 h2;subst h1;subst h2
  show bindC kindOf ((p,w)::P.zip vs) m p=_
  unfold bindC
  rw[mK λ v hv=>(nodup_cons.mp nd).1 (of_mem_zip hv).1,B4 hk]
  simp
 |p::P,w::vs,i+1,m,nd,h1,h2,hk=>by
  show bindC kindOf ((p,w)::P.zip vs) m x=_
  unfold bindC
  exact mL (i:=i) (nodup_cons.mp nd).2 (by simpa using h1) (by simpa using h2) hk
def start(N:List Str)(vs:List V):St:=vs.map some++List.replicate (N.length - vs.length) none
def lr(CX:xT)(P:Program)(w:World)(K:PySem.W.Frag)(mg:Str->Option Value)(base:Heap)(N:List Str)(qual:Str)(scope:Scope)(f:Addr)(cd:Value)(A:Around)(outer:List Env)(s:Shared)(H:Hp)(E:XK):Cx where
 prog:=P
 w:=w
 K:=K
 mg:=mg
 base:=base
 A:=A.deeper (envOfC qual scope s.heap.objs.size f cd)
 N:=N
 s₀:=s
 H₀:=H
 env:=envOfC qual scope s.heap.objs.size f cd
 outer:=outer
 stack:=envOfC qual scope s.heap.objs.size f cd::outer
 ex:=[]
 calm:=true
 fn:=λ _=>true
 pn:=[]
 xe:=λ e s'=>wpAny (model P w) (A.deeper (envOfC qual scope s.heap.objs.size f cd)) (leaving (envOfC qual scope s.heap.objs.size f cd) e) (λ _ KO=>CX outer H s E e KO) (λ e' KO=>CX outer H s E e' KO) s'
theorem qY{sc:Scope}{n:Nat}{x:Str}(h:sc.names.lookup x=some .cell):∃c,(cellsFrom n sc.names []).lookup x=some c:=by
 have q:=PySem.W.cellsFrom_some sc.names n [] (.inl h)
 exact Option.isSome_iff_exists.mp q
theorem wY{CX:xT}{P:Program}{w:World}{K:PySem.W.Frag}{mg:Str->Option Value}{base:Heap}{N ps:List Str}{qual:Str}{scope:Scope}{f:Addr}{cd:Value}{A:Around}{outer:List Env}{s s1:Shared}{H:Hp}{E:XK}{us:List Value}{vs:List V}
  (S:aH N ps scope) (hd:A.handled=none) (e0:kR P w K mg base A outer s H) (hl:vs.length=ps.length) (r:Vals vs us)
  (x:InCallC s s.heap.objs.size (bindL (envOfC qual scope s.heap.objs.size f cd).kindOf (ps.zip us) λ _=>none) (cellsFrom (s.heap.objs.size+1) scope.names []) (bindC (envOfC qual scope s.heap.objs.size f cd).kindOf (ps.zip us) λ _=>none) s1):
  Inv (lr CX P w K mg base N qual scope f cd A outer s H E) [] (start N vs) H s1:=by
 have hpl:ps.length<=N.length:=by have:=B1 List.length S.pre;rw[u5]at this;omega
 obtain⟨h1,tk,rfl,hk⟩:=x.done
 have LG:∀b:Addr,b∉(lr CX P w K mg base N qual scope f cd A outer s H E).ex:=λ b z=>absurd (show b∈([]:List Addr)from z) (by simp)
 refine⟨⟨e0.mod,S.kind,rfl,rfl,A2 _,λ y z c h1 h2=>?_,λ y hy=>?_,λ y c _ h=>?_,λ _=>hd,Around.frames_deeper e0.frames,.inr ⟨rfl,rfl⟩,λ b z=>absurd z (LG b),e0.bs,e0.xR,λ b _ _=>LG b,λ b z=>absurd z (LG b),e0.gW,e0.EO⟩,
  rfl,e0.bare,Un.kept hk,⟨_,x.toInCall.ns,λ i y v h1 h2 h3=>?_⟩,λ y c h=>⟨_,x.cell y c h⟩,e0.aL.fresh (A2 _),λ y c h=>?_,λ p hp=>absurd (show p∈([]:List (Addr×Obj))from hp) (by simp),e0.aL.kept hk,?_⟩
 ·exact name_of_addr x.apart (l3 h1) (l3 h2)
 ·have hy:scope.names.lookup y=some .cell\/scope.names.lookup y=some .free:=hy
  rcases hy with hy|hy
  ·exact qY hy
  ·exact absurd rfl (S.ID _ (l3 hy))
 ·exact Nat.le_of_lt (x.above y c (l3 h))
 ·have hi:i < vs.length:=by
   unfold start at h2
   by_cases hi:i < vs.length
   ·exact hi
   ·rw[c6 (by simpa using hi)]at h2
    rw[i8]at h2
    split at h2 <;> cases h2
  have ha:vs[i]?=some v:=by
   unfold start at h2
   rw[c8 (by simpa using hi),n4]at h2
   cases e:vs[i]? with
   |none=>rw[e]at h2;cases h2
   |some a=>rw[e]at h2;cases h2;rfl
  obtain⟨u,hu,rv⟩:=r.get ha
  have hp:ps[i]?=some y:=by
   rw[<- S.pre,getElem?_take_of_lt (by omega)];exact h1
  have Q3:ps.Nodup:=by rw[<- S.pre];exact S.nd.sublist (take_sublist _ _)
  refine⟨u,rv,?_⟩
  rcases S.par y (k7 hp)with k|k
  ·exact .inl ⟨k,mJ Q3 hp hu k⟩
  ·obtain⟨c,e⟩:=qY (n:=s.heap.objs.size+1) k
   refine .inr ⟨.inl k,c,e,?_⟩
   have q:=x.cell y c e
   rw[mL Q3 hp hu (by show scope.names.lookup y≠_;rw[k];decide)]at q
   exact q
 ·exact e0.aL.fresh (Nat.le_of_lt (x.above y c (l3 h)))
 ·unfold start
  show _=N.length
  rw[l9,x8,j8]
  omega
theorem F_{CX:xT}{P:Program}{w:World}{K:PySem.W.Frag}{mg:Str->Option Value}{base:Heap}{k:Nat}{f:Addr}{name qual:Str}{params:Arguments}{body:List Stmt}{scope:Scope}{dV kV doc pm bW ct oc:Value}{an od:Option Addr}
  {wB:Array (Option Value)} {N ps:List Str} {sp:Sp} (lk:K.lookup f=some ⟨oc,od,.func (PySem.W.fnOf name qual params body scope dV kV doc pm an bW ct),wB⟩) (hcd:PySem.W.codeIn K bW qual=true) (S:aH N ps scope)
  (len:∀vs H Q E,sp vs H Q E->vs.length=ps.length)
  (dW:∀(A:Around) (outer:List Env) (s:Shared) (H:Hp) (vs:List V) (Q:VK) (E:XK),bA k (A.deeper (envOfC qual scope s.heap.objs.size f bW))->sp vs H Q E->
   ∃t,lB (lr CX P w K mg base N qual scope f bW A outer s H E) body t/\t {nx:=λ _ H'=>Q .a_ H',rt:=Q} (start N vs) H):
  bw P w K mg base CX (k+1) f (PySem.W.fnOf name qual params body scope dV kV doc pm an bW ct) ps sp:=by
 refine⟨len,λ A outer s H args us vs Q E hr e0 hb r Aw=>?_⟩
 have hl:=len _ _ _ _ Aw
 have KX:K.In s.heap:=e0.mod.JZ.keeps λ b o e=>(e0.bs b o e).1
 have lim:s.heap.NoLimit:=e0.mod.nolimit.keeps λ b o e=>(e0.bs b o e).1
 have AB:∀y∈ps.zip us,scope.names.lookup y.1=some .local\/(scope.names.lookup y.1=some .cell/\((cellsFrom (s.heap.objs.size+1) scope.names []).lookup y.1).isSome=true):=λ⟨n,v⟩ hy=>by
  rcases S.par n (of_mem_zip hy).1 with q|q
  ·exact .inl q
  ·exact .inr ⟨q,PySem.W.cellsFrom_some _ _ _ (.inl q)⟩
 refine codeAny_call_function hr.depth (KX _ _ lk) rfl S.co S.gen rfl (PySem.W.codeRec_of KX hcd) (hb _ _ _ _ ?_)
 refine wpAny_newFunctionEnv_cells S.kind AB λ env he s1 x=>?_
 subst he
 refine⟨lim.keeps x.toInCall.keep,codeAny_func ?_⟩
 obtain⟨t,ht,hq⟩:=dW A outer s H vs Q E (hr.deeper _) Aw
 have I:Inv (lr CX P w K mg base N qual scope f bW A outer s H E) [] (start N vs) H s1:=wY S hr.hd e0 hl r x
 refine A9 (ht [] s1 (start N vs) H _ I hq) (λ fl s' hs=>?_) λ e s' hs=>hs
 have fin:∀{σ':St} {H':Hp} {v:V} {u:Value},Inv (lr CX P w K mg base N qual scope f bW A outer s H E) [] σ' H' s'->RelV v u->Q v H'->CE outer P w H s Q u s':=
  λ{σ' H' v u} J rv q=>⟨v,H',J.os,J.bare,J.base,J.aL,rv,q⟩
 cases fl with
 |ret u=>
  obtain⟨v,σ',H',J,rv,q⟩:=hs
  exact fin J rv q
 |next=>
  obtain⟨σ',H',J,q⟩:=hs
  exact fin (v:=V.a_) (u:=Value.none) J rfl q
 |brk=>
  obtain⟨_,_,_,q⟩:=hs
  exact False.elim q
 |cont=>
  obtain⟨_,_,_,q⟩:=hs
  exact False.elim q
section
variable {X:Cx}{x:Str}{p pos:Pos}{e:Expr}{es:List Expr}{t:TA}{id T:String}{r:List V->Hp->VK->Prop}
def GN(r:List V->Hp->VK->Prop)(t:TA):TE:=λ σ H Q=>t σ H λ vs H1=>r vs H1 Q
theorem gL(hc:b_ X (.builtin id) r)(hg:Gl X x)(hm:X.mg x=none)(hv:bootBuiltins x=some (.builtin id))(ha:PA X (e::es) t)(hn:x≠"__name__":=by decide)(hdb:(x==("__debug__":Str))=false:=by decide)
  (he:starEach (e::es) X.env=(false,eval e X.env)::starEach es X.env:=by rfl) (hpl:(backTo pos (starEach es X.env)).any (·.1)=false:=by rfl):PE X (.Call (.Name x p) (e::es) [] pos) (GN r t):=by
 intro pins s σ H Q I h
 refine n0 (eK I hg hm hv ?_ hn hdb)
 exact PyProof.Rows.callWith_builtin1 (cg (ha pos pins s σ H _ I h) λ us s1 ⟨vs,H1,I1,r1,q1⟩=>hc pins s1 σ H1 vs us Q I1 r1 q1) he hpl
theorem ig(hc:b_ X (.type T) r)(hg:Gl X x)(hm:X.mg x=none)(hv:bootBuiltins x=some (.type T))(ha:PA X (e::es) t)(hn:x≠"__name__":=by decide)(hdb:(x==("__debug__":Str))=false:=by decide)
  (he:starEach (e::es) X.env=(false,eval e X.env)::starEach es X.env:=by rfl) (hpl:(backTo pos (starEach es X.env)).any (·.1)=false:=by rfl):PE X (.Call (.Name x p) (e::es) [] pos) (GN r t):=by
 intro pins s σ H Q I h
 refine n0 (eK I hg hm hv ?_ hn hdb)
 exact c4 (cg (ha pos pins s σ H _ I h) λ us s1 ⟨vs,H1,I1,r1,q1⟩=>hc pins s1 σ H1 vs us Q I1 r1 q1) he hpl
end
end L2
namespace HT
open PySem PyProof.Rows
def lexLt:List Int->List Int->Bool
 |[],[]=>false
 |[],_::_=>true
 |_::_,[]=>false
 |x::xs,y::ys=>if x=y then lexLt xs ys else decide (x < y)
theorem cj(x y:Int)(xs ys:List Int):lexLt (x::xs) (y::ys)=if x=y then lexLt xs ys else decide (x < y):=rfl
theorem cP:lexLt [] []=false:=rfl
theorem cz(y:Int)(ys:List Int):lexLt [] (y::ys)=true:=rfl
theorem cA(x:Int)(xs:List Int):lexLt (x::xs) []=false:=rfl
theorem AV(A:Around)(s:Shared)(a:Int)(t:Tok)(c:Int)(u:Tok):∃e,SeqAt.EqAt A s (.int a t) (.int c u) e/\(e=true↔a=c):=
 ⟨(a==c),SeqAt.EqAt.int_int a t c u,by simp⟩
theorem jO(A:Around)(s:Shared)(a:Int)(t:Tok)(c:Int)(u:Tok)(prog:Program)(w:World)(E:Value->Shared->Prop)(Q:Value->Shared->Prop)(h:Q (.bool (decide (a < c))) s):
  wpAny (model prog w) A (richCompare .Lt (.int a t) (.int c u)) Q E s:=
 (PyProof.Rows.lt_int h:wpAny (model prog w) A (compareOp .Lt (.int a t) (.int c u)) Q E s)
section
open PySem.SeqAt
open PySem.AutoSeq1 (wpAny_loadPart')
open PySem.MeetsSeq PySem.MeetsSeq2 PySem.MeetsSeq3
theorem kU(l b:Addr)(items dM:Array Value)(n n2:Nat)(dd Kk:Option Addr)(sl JW:Array (Option Value))(ns ms:List Int)(hi:IntsAre items.toList ns)(hj:IntsAre dM.toList ms):
  Meets (Builtin.«tuple.__lt__» ⟨[.ref l,.ref b],[]⟩)
   (λ _ R s=>s.heap.get? l=some {cls:=.type "tuple",dict:=dd,data:=.seq items n,slots:=sl}/\s.heap.get? b=some {cls:=.type "tuple",dict:=Kk,data:=.seq dM n2,slots:=JW}/\
    R (.ok (.ret (.bool (lexLt ns ms)))) s):=
 .of_wp λ prog w A R s h=>by
  obtain⟨hp,g,d,tk,os⟩:=s;obtain⟨hl,hb,h⟩:=h
  have f2:=AutoSeq1.sub_tuple_tuple
  have z1:items.size=ns.length:=by rw[<- hi.length];simp
  have z2:dM.size=ms.length:=by rw[<- hj.length];simp
  wp_walk using w5 hl,w5 hb,wpAny_forIn_list _ (λ rest b s'=>b.1=none/\s'=⟨hp,g,d,tk,os⟩/\∃(vs ws:List Value) (dD JY:List Int),rest=vs.zip ws/\
   IntsAre vs dD/\IntsAre ws JY/\dD.length+dM.size=JY.length+items.size/\R (.ok (.ret (.bool (lexLt dD JY)))) ⟨hp,g,d,tk,os⟩) _
  case turn=>
   rintro⟨y,x⟩ rest b s' ⟨AI,rfl,vs,ws,dD,JY,hz,Pn,NI,hlen,hR⟩
   cases Pn with
   |nil=>rw[zip_nil_left]at hz;cases hz
   |cons a t Pk=>
    cases NI with
    |nil=>rw[zip_nil_right]at hz;cases hz
    |cons c u Pj=>
     rw[zip_cons_cons]at hz
     injection hz with Sy LV
     injection Sy with hy hx
     subst hy hx
     rw[cj]at hR
     simp only[q9]at hlen
     obtain⟨e,he,Mj⟩:=AV A.in1 ⟨hp,g,d,tk,os⟩ a t c u
     refine A6 (he prog w _ _ ?_)
     cases e with
     |true=>
      rw[B3 (Mj.mp rfl)]at hR
      wp_walk
      exact⟨rfl,rfl,_,_,_,_,LV,Pk,Pj,by omega,hR⟩
     |false=>
      rw[B4 (λ q=>absurd (Mj.mpr q) l8)]at hR
      have SK:=jO A.in1 ⟨hp,g,d,tk,os⟩ a t c u prog w
      wp_walk using SK
      exact⟨_,rfl,by simpa using hR⟩
  case fin=>
   rintro⟨b1,b2⟩ s' ⟨AI,rfl,vs,ws,dD,JY,hz,Pn,NI,hlen,hR⟩
   simp only at AI
   subst AI
   have hv:lexLt dD JY=decide (items.size < dM.size):=by
    cases Pn with
    |nil=>
     cases NI with
     |nil=>
      simp only[length_nil]at hlen
      rw[cP]
      exact(v8 (by omega)).symm
     |cons c u hw=>
      simp only[length_nil,q9]at hlen
      rw[cz]
      exact(y2 (by omega)).symm
    |cons a t hv=>
     cases NI with
     |nil=>
      simp only[length_nil,q9]at hlen
      rw[cA]
      exact(v8 (by omega)).symm
     |cons c u hw=>
      rw[zip_cons_cons]at hz
      cases hz
   rw[hv]at hR
   wp_walk
   exact⟨_,rfl,by simpa[Builtin.Tuple.tupleCompareSizes]using hR⟩
  case h=>
   exact⟨rfl,rfl,items.toList,dM.toList,ns,ms,rfl,hi,hj,by omega,h⟩
end
section
variable {prog:Program}{w:World}{A:Around}{E:Value->Shared->Prop}{s:Shared}
theorem sZ{l b:Addr}{items dM:Array Value}{ns ms:List Int}{Q:Value->Shared->Prop}(hl:IsTup s.heap l items)(hb:IsTup s.heap b dM)(hi:IntsAre items.toList ns)(hj:IntsAre dM.toList ms)
  (hu:A.units < cLine) (h:Q (.bool (lexLt ns ms)) s):wpAny (model prog w) A (compareOp .Lt (.ref l) (.ref b)) Q E s:=by
 obtain⟨⟨cls,dd,data,sl⟩,ho,hc,n,hd⟩:=id hl
 obtain⟨⟨Qq,Kk,data2,JW⟩,Je,Ms,n2,hd2⟩:=id hb
 simp only at hc hd Ms hd2
 subst hc hd Ms hd2
 exact richCompare_meets_room (op:=.Lt) ⟨_,ho,rfl⟩ ⟨_,Je,rfl⟩ PySem.F.slot_tuple_lt PySem.F.entry_tuple_lt (PySem.F.args_tuple_lt_2 _ _) (kU l b items dM n n2 dd Kk sl JW ns ms hi hj)
  ⟨ho,Je,show Value.bool (lexLt ns ms)≠Value.notImplemented/\Q (.bool (lexLt ns ms)) s from⟨(λ x=>nomatch x),h⟩⟩ hu
theorem E8{t b:Addr}{vs ws:List Value}{Q:Value->Shared->Prop}(ht:IsTup s.heap t vs.toArray)(hb:IsTup s.heap b ws.toArray)(hv:vs≠[])
  (h1:ws=[]->Q (.ref t) s) (h2:ws≠[]->Q (.ref s.heap.objs.size) {s with heap:=s.heap.push {cls:=.type "tuple",data:=.seq (vs++ws).toArray}})
  (hsz:vs.length+ws.length<=sizeLine):wpAny (model prog w) A (binaryOp .Add (.ref t) (.ref b)) Q E s:=by
 obtain⟨⟨cls,dd,data,sl⟩,ho,hc,n,hd⟩:=id ht
 obtain⟨⟨Qq,Kk,data2,JW⟩,Je,Ms,n2,hd2⟩:=id hb
 simp only at hc hd Ms hd2
 subst hc hd Ms hd2
 have e:vs.toArray++ws.toArray=(vs++ws).toArray:=by simp
 by_cases hw:ws=[]
 ·exact concat_meets ⟨_,ho,rfl⟩ ⟨_,Je,rfl⟩ noFill_tuple_add seq_tuple_add PySem.F.slot_tuple_add PySem.F.entry_tuple_add (PySem.F.args_tuple_add_2 _ _)
   (tuple_addW1 t b vs.toArray ws.toArray n n2 dd Kk sl JW (by simpa using hv) (by simp[hw])) ⟨ho,Je,h1 hw⟩
 ·refine concat_meets ⟨_,ho,rfl⟩ ⟨_,Je,rfl⟩ noFill_tuple_add seq_tuple_add PySem.F.slot_tuple_add PySem.F.entry_tuple_add (PySem.F.args_tuple_add_2 _ _)
   (tuple_addW2 t b vs.toArray ws.toArray n n2 dd Kk sl JW (by simpa using hv) (by simpa using hw) (by rw[p7,p7];exact hsz)) ⟨ho,Je,?_⟩
  rw[e]
  exact h2 hw
def bS(n d:Nat):Option Int->Nat
 |none=>d
 |some v=>if v < 0 then(v+(n:Int)).toNat else min v.toNat n
theorem sj(n d:Nat)(hd:d<=n)(o:Option Int):bS n d o<=n:=by
 cases o with
 |none=>exact hd
 |some v=>
  show(if v < 0 then(v+(n:Int)).toNat else min v.toNat n)<=n
  by_cases hv:v < 0
  ·rw[B3 hv];omega
  ·rw[B4 hv];exact Nat.min_le_right _ _
theorem vB(v:Int)(n d:Nat):(if v < 0 then max (v+(n:Int)) 0 else min v (n:Int))=((bS n d (some v):Nat):Int):=by
 show(if v < 0 then max (v+(n:Int)) 0 else min v (n:Int))=(((if v < 0 then(v+(n:Int)).toNat else min v.toNat n):Nat):Int)
 by_cases hv:v < 0
 ·simp only[B3 hv];omega
 ·simp only[B4 hv];omega
theorem tW(lo hi:Option Int)(n:Nat):Builtin.Slice.sliceAdjust lo hi 1 (n:Int)=(((bS n 0 lo:Nat):Int),((bS n n hi:Nat):Int)):=by
 have h1:¬((1:Int) < 0):=by omega
 unfold Builtin.Slice.sliceAdjust
 simp only[h1,B0]
 refine Prod.ext ?_ ?_
 ·cases lo with
  |none=>rfl
  |some v=>exact vB v n 0
 ·cases hi with
  |none=>rfl
  |some v=>exact vB v n n
theorem sH(i j:Nat):Builtin.Slice.slicePlaces (i:Int) (j:Int) 1=j - i:=by
 unfold Builtin.Slice.slicePlaces
 have h1:(1:Int) > 0:=by omega
 simp only[h1,if_true,Int.ediv_one]
 split <;> omega
theorem jH{v:Value}{o:Option Int}{Q:Option Int->Shared->Prop}(p:IsPart v o)(h:Q o s):wpAny (model prog w) A (Builtin.Slice.slicePartIndex v) Q E s:=by
 cases p with
 |none=>exact slicePart_none h
 |int i t=>exact slicePart_int h
theorem dU{sl:Addr}{vl vu:Value}{lo hi:Option Int}{n:Nat}{Q:Int×Int×Nat->Shared->Prop}(hs:s.heap.IsSliceOf sl vl vu .none)(pl:IsPart vl lo)(pu:IsPart vu hi)
  (h:Q (((bS n 0 lo:Nat):Int),1,bS n n hi - bS n 0 lo) s):wpAny (model prog w) A (Builtin.Slice.sliceApplied (.ref sl) (pure (n:Int))) Q E s:=by
 obtain⟨os,iW,Kd,EJ⟩:=id hs
 unfold Builtin.Slice.sliceApplied Builtin.Slice.sliceFields
 refine A6 (A6 (A5 iW EJ (x:=vl) rfl (A6 (A5 iW EJ (x:=vu) rfl (A6 (A5 iW EJ (x:=.none) rfl (A7 ?_)))))))
 refine A6 (slicePart_none ?_)
 show wpAny _ _ (if((1:Int)==0)=true then _ else _) _ _ s
 rw[B4 (by decide)]
 refine A6 (jH pl (A6 (jH pu (A6 (A7 ?_)))))
 show wpAny _ _ (match Builtin.Slice.sliceAdjust lo hi 1 (n:Int)with|(lo,hi)=>pure (lo,(1:Int),Builtin.Slice.slicePlaces lo hi 1)) _ _ s
 rw[tW lo hi n]
 show wpAny _ _ (pure (((bS n 0 lo:Nat):Int),(1:Int),Builtin.Slice.slicePlaces ((bS n 0 lo:Nat):Int) ((bS n n hi:Nat):Int) 1)) _ _ s
 rw[sH]
 exact A7 h
theorem zq(xs:Array Value)(i k:Nat):((List.range k).filterMap λ(m:Nat)=>xs[((i:Int)+(m:Int)*1).toNat]?).toArray=((xs.toList.drop i).take k).toArray:=by
 have e:(λ(m:Nat)=>xs[((i:Int)+(m:Int)*1).toNat]?)=λ m=>xs[i+m]?:=by
  funext m
  have:((i:Int)+(m:Int)*1).toNat=i+m:=by omega
  rw[this]
 rw[e]
 have:=pick_run xs i k
 rw[filterMap_map]at this
 have e2:((λ x=>xs[x]?)∘λ x=>i+x)=λ m=>xs[i+m]?:=rfl
 rw[e2]at this
 rw[this]
theorem gR{t sl:Addr}{items:Array Value}{vl vu:Value}{lo hi:Option Int}{Q:Value->Shared->Prop}(ht:IsTup s.heap t items)(hs:s.heap.IsSliceOf sl vl vu .none)(pl:IsPart vl lo)(pu:IsPart vu hi)
  (hw:¬(bS items.size 0 lo=0/\bS items.size items.size hi=items.size))
  (h:Q (.ref s.heap.objs.size) {s with heap:=s.heap.push {cls:=.type "tuple",data:=.seq ((items.toList.drop (bS items.size 0 lo)).take (bS items.size items.size hi - bS items.size 0 lo)).toArray}})
  (hsz:items.size<=sizeLine):wpAny (model prog w) A (getItem (.ref t) (.ref sl)) Q E s:=by
 have vd:sizeOk (.seq ((items.toList.drop (bS items.size 0 lo)).take (bS items.size items.size hi - bS items.size 0 lo)).toArray):=by
  show((items.toList.drop (bS items.size 0 lo)).take (bS items.size items.size hi - bS items.size 0 lo)).toArray.size<=sizeLine
  rw[p7,u5,length_drop,l5]
  omega
 have hj:bS items.size items.size hi<=items.size:=sj _ _ (A2 _) hi
 obtain⟨os,iW,Kd,EJ⟩:=id hs
 have PU:s.TypeIs (.ref sl) "slice":=⟨os,iW,Kd⟩
 unfold getItem
 try with_reducible refine y7 ?_
 first|refine A6 (A7 ?_)|skip
 refine A6 (wpAny_sequenceKey ht.typeIs (by decide) ?_)
 refine A6 (i9 (name:=Str.ofString "__getitem__") ht.typeIs a0
  (s9 a0 ht.typeIs entry_tuple_getitem ?_ (args_tuple_getitem _ _)))
 show wpAny _ _ (Builtin.Tuple.tupleItemsOf (.ref t) >>= _) _ _ s
 refine A6 (tupleItemsOf_ ht ?_)
 refine A6 (wpAny_typeOf PU ?_)
 rw[B3 (by decide)]
 refine A6 (dU hs pl pu ?_)
 have SV:¬((((bS items.size 0 lo:Nat):Int)==0&&(1:Int)==1&&(bS items.size items.size hi - bS items.size 0 lo)==items.size)=true):=by
  intro q
  rw[u4,u4]at q
  have q1:((bS items.size 0 lo:Nat):Int)=0:=eq_of_beq q.1.1
  have q2:bS items.size items.size hi - bS items.size 0 lo=items.size:=eq_of_beq q.2
  exact hw ⟨by omega,by omega⟩
 show wpAny _ _ (if(((bS items.size 0 lo:Nat):Int)==0&&(1:Int)==1&&(bS items.size items.size hi - bS items.size 0 lo)==items.size)=true then _ else _) _ _ s
 rw[B4 SV,zq]
 first
  |exact A6 (m:=Builtin.Tuple.tupleExact _) (n9 (A7 ⟨_,rfl,A7 h⟩) vd)
  |exact A6 (m:=Builtin.Tuple.tupleExact _) (n9 (A6 (A7 (A7 ⟨_,rfl,A7 h⟩))) vd)
  |exact A6 (A6 (m:=Builtin.Tuple.tupleExact _) (n9 (A7 (A7 ⟨_,rfl,A7 h⟩)) vd))
  |exact A6 (A6 (m:=Builtin.Tuple.tupleExact _) (n9 (A7 ⟨_,rfl,A7 h⟩) vd))
end
end HT
namespace L2
open PySem PySem.Spec PyProof.Rows
abbrev TO:=St->Hp->(Option Int->Hp->Prop)->Prop
def PO(X:Cx)(e:Option Expr)(t:TO):Prop:=
 ∀(pins:List (Addr×Obj)) (s:Shared) (σ:St) (H:Hp) (Q:Option Int->Hp->Prop),Inv X pins σ H s->t σ H Q->
  wpAny (model X.prog X.w) X.A (evalPart e X.env) (λ u s'=>∃o H',Inv X pins σ H' s'/\IsPart u o/\Q o H') X.xe s
def Cd:TO:=λ _ H Q=>Q none H
def Kv(t:TE):TO:=λ σ H Q=>t σ H λ x H1=>∃i,x=.int i/\Q (some i) H1
theorem intsAre_of{ns:List Int}:∀{us:List Value},Vals (ns.map V.int) us->IntsAre us ns:=by
 induction ns with
 |nil=>intro us r;rw[map_nil]at r;cases r;exact .nil
 |cons n ns ih=>
  intro us r
  rw[z4]at r
  cases r with
  |cons r1 r2=>
   obtain⟨t,e⟩:=r1
   subst e
   exact .cons n t (ih r2)
section
variable {X:Cx}{e:Expr}{te:TE}{lo hi:Option Expr}{tl th:TO}{pos p2:Pos}
theorem Dt:PO X none Cd:=by
 intro pins s σ H Q I h
 rw[evalPart_none]
 exact A7 ⟨none,H,I,.none,h⟩
theorem Ds(h:PE X e te):PO X (some e) (Kv te):=by
 intro pins s σ H Q I hw
 rw[evalPart_some]
 refine cg (h pins s σ H _ I hw) λ u s1 ⟨x,H1,I1,r1,q1⟩=>?_
 obtain⟨i,rfl,q⟩:=q1
 obtain⟨t,rfl⟩:=r1
 exact⟨some i,H1,I1,.int i t,q⟩
def vJ(X:Cx)(r:V->Option Int->Option Int->Hp->VK->Prop):Prop:=
 ∀(pins:List (Addr×Obj)) (s:Shared) (σ:St) (H:Hp) (x:V) (v vl vu:Value) (lo hi:Option Int) (sl:Addr) (Q:VK),Inv X pins σ H s->RelV x v->s.heap.IsSliceOf sl vl vu .none->IsPart vl lo->IsPart vu hi->r x lo hi H Q->
  ∃T id,typeLookup (.type T) "__getitem__"=pure (some (.builtin id))/\s.TypeIs v T/\wpAny (model X.prog X.w) X.A (getItem v (.ref sl)) (EP X pins σ Q) X.xe s
theorem vJ.or {r r':V->Option Int->Option Int->Hp->VK->Prop}(h:vJ X r)(h':vJ X r'):vJ X (λ x lo hi H Q=>r x lo hi H Q\/r' x lo hi H Q):=by
 intro pins s σ H x v vl vu lo hi sl Q I rx hs pl pu q
 rcases q with q|q
 ·exact h pins s σ H x v vl vu lo hi sl Q I rx hs pl pu q
 ·exact h' pins s σ H x v vl vu lo hi sl Q I rx hs pl pu q
def RW(r:V->Option Int->Option Int->Hp->VK->Prop)(te:TE)(tl th:TO):TE:=λ σ H Q=>te σ H λ x H1=>tl σ H1 λ l H2=>th σ H2 λ u H3=>r x l u H3 Q
theorem zw{r:V->Option Int->Option Int->Hp->VK->Prop}(hr:vJ X r)(he:PE X e te)(hl:PO X lo tl)(hu:PO X hi th):PE X (.Subscript e (.Slice lo hi none p2) pos) (RW r te tl th):=by
 intro pins s σ H Q I h
 refine Subscript_ (cg (he pins s σ H _ I h) λ v s1 ⟨x,H1,I1,r1,q1⟩=>?_)
 refine wpAny_Slice (cg (hl pins s1 σ H1 _ I1 q1) λ vl s2 ⟨l,H2,I2,pl,q2⟩=>cg (hu pins s2 σ H2 _ I2 q2) λ vu s3 ⟨u,H3,I3,pu,q3⟩=>?_)
 rw[evalPart_none]
 refine A7 ?_
 have I4:Inv X pins σ H3 {s3 with heap:=s3.heap.push {cls:=.type "slice",data:=.fields #[vl,vu,.none]}}:=I3.kept (t':=s3.toks) λ b ob q=>j2 _ q
 obtain⟨T,id,hT,ht,hg⟩:=hr pins {s3 with heap:=s3.heap.push {cls:=.type "slice",data:=.fields #[vl,vu,.none]}} σ H3 x v vl vu l u s3.heap.objs.size Q I4 r1 (Heap.IsSliceOf.new ..) pl pu q3
 show wpAny (model X.prog X.w) X.A (subscriptTail e (.Slice lo hi none p2) v (.ref s3.heap.objs.size)) (EP X pins σ Q) X.xe {s3 with heap:=s3.heap.push {cls:=.type "slice",data:=.fields #[vl,vu,.none]}}
 exact tail_any (ops:=[.ref s3.heap.objs.size,v]) ht hT hg (by with_unfolding_all rfl)
def qU(xs:List V)(lo hi:Option Int):List V:=(xs.drop (HT.bS xs.length 0 lo)).take (HT.bS xs.length xs.length hi - HT.bS xs.length 0 lo)
theorem iO(xs:List V)(lo hi:Option Int):(qU xs lo hi).length<=xs.length:=by
 unfold qU
 rw[u5,length_drop]
 omega
def K1(K:PySem.W.Frag):V->Option Int->Option Int->Hp->VK->Prop:=λ x lo hi H Q=>∃a xs,x=.ref a/\ef K H a xs/\
 ¬(HT.bS xs.length 0 lo=0/\HT.bS xs.length xs.length hi=xs.length)/\∀p,H p=none->Q (.ref p) (upd H p (.tup (qU xs lo hi)))
theorem GR:vJ X (K1 X.K):=by
 intro pins s σ H x v vl vu lo hi sl Q I rx hs pl pu h
 obtain⟨a,xs,rfl,hx,hw,q⟩:=h
 cases rx
 obtain⟨ah,r,ht,hz⟩:=I.tuple hx
 have hlen:ah.toArray.size=xs.length:=by rw[p7];exact r.length.symm
 refine⟨"tuple",_,a0.lookup,ht.typeIs,?_⟩
 refine HT.gR ht hs pl pu (by rw[hlen];exact hw) ?_ (by rw[hlen];exact hz)
 rw[hlen]
 refine⟨.ref s.heap.objs.size,_,I.laid (t':=s.toks) (o:=.tup (qU xs lo hi)) (λ b ob q=>j2 _ q) (A2 _) ?_,rfl,q _ (I.aL.fresh (A2 _))⟩
 exact⟨A1 (iO xs lo hi) hz,_,(r.drop (HT.bS xs.length 0 lo)).take (HT.bS xs.length xs.length hi - HT.bS xs.length 0 lo),IsTup.new _ _⟩
def K_(K:PySem.W.Frag):R2:=λ x y H Q=>∃a b xs ys,x=.ref a/\y=.ref b/\ef K H a xs/\ef K H b ys/\xs≠[]/\xs.length+ys.length<=sizeLine/\
 (ys=[]->Q (.ref a) H)/\(ys≠[]->∀p,H p=none->Q (.ref p) (upd H p (.tup (xs++ys))))
theorem Vals.nR {xs:List V}{us:List Value}(r:Vals xs us):us=[]↔xs=[]:=by
 cases r with
 |nil=>simp
 |cons _ _=>simp
theorem DM:eo X (binaryOp .Add) (K_ X.K):=by
 intro pins s σ H x y v u Q I rx ry h
 obtain⟨a,b,xs,ys,rfl,rfl,ha,hb,hx,hz,q1,q2⟩:=h
 cases rx
 cases ry
 obtain⟨ah,r1,p1,_⟩:=I.tuple ha
 obtain⟨I_,r2,p2,_⟩:=I.tuple hb
 refine HT.E8 p1 p2 (λ z=>hx (r1.nR.mp z)) (λ z=>⟨.ref a,H,I,rfl,q1 (r2.nR.mp z)⟩) (λ z=>?_) (by rw[<- r1.length,<- r2.length];exact hz)
 refine⟨.ref s.heap.objs.size,_,I.laid (t':=s.toks) (o:=.tup (xs++ys)) (λ b ob q=>j2 _ q) (A2 _) ?_,rfl,q2 (λ w=>z (r2.nR.mpr w)) _ (I.aL.fresh (A2 _))⟩
 exact⟨by rw[l9];exact hz,_,r1.append r2,IsTup.new _ _⟩
end
def uZ(n:Nat)(i:Int):Option Nat:=if 0<=i then(if i < n then some i.toNat else none)else if -(n:Int)<=i then some (i+n).toNat else none
def e_{α:Type}(xs:List α)(i:Int):Option α:=(uZ xs.length i).bind λ j=>xs[j]?
theorem uY{n:Nat}{i:Int}{j:Nat}(h:uZ n i=some j):seqIndex? i n=some j/\j < n/\-(n:Int)<=i/\i < n:=by
 unfold uZ at h
 by_cases h0:0<=i
 ·rw[B3 h0]at h
  by_cases h1:i < n
  ·rw[B3 h1]at h
   have e:i.toNat=j:=w9 h
   exact⟨by rw[seqIndex_of h0 h1,e],by omega,by omega,h1⟩
  ·rw[B4 h1]at h;cases h
 ·rw[B4 h0]at h
  by_cases h1: -(n:Int)<=i
  ·rw[B3 h1]at h
   have e:(i+n).toNat=j:=w9 h
   exact⟨by rw[seqIndex_neg (by omega) h1,e],by omega,h1,by omega⟩
  ·rw[B4 h1]at h;cases h
theorem oS{α:Type}{xs:List α}{i:Int}{v:α}(h:e_ xs i=some v):∃j,seqIndex? i xs.length=some j/\xs[j]?=some v/\j < xs.length/\-(xs.length:Int)<=i/\i < xs.length:=by
 unfold e_ at h
 cases e:uZ xs.length i with
 |none=>rw[e]at h;cases h
 |some j=>
  rw[e]at h
  obtain⟨h1,h2,h3,h4⟩:=uY e
  exact⟨j,h1,h,h2,h3,h4⟩
theorem bC{α:Type}{xs:List α}{j:Nat}{v:α}(h:xs[j]?=some v):e_ xs (j:Int)=some v:=by
 have hj:j < xs.length:=(g9.mp h).1
 have e:uZ xs.length (j:Int)=some j:=by
  unfold uZ
  rw[B3 (by omega),B3 (by omega)];simp
 unfold e_;rw[e];exact h
def oW(b:Expr):Prop:=∀o i,subscripted b false o i=operate [o,i] (getItem o i)
def tZ(X:Cx)(r:R2):Prop:=
 ∀(value slice:Expr) (pins:List (Addr×Obj)) (s:Shared) (σ:St) (H:Hp) (x y:V) (v u:Value) (Q:VK),Inv X pins σ H s->RelV x v->RelV y u->r x y H Q->
  subscripted slice false v u=operate [v,u] (getItem v u)->wpAny (model X.prog X.w) X.A (subscriptTail value slice v u) (EP X pins σ Q) X.xe s
def QF(X:Cx)(id:String)(r:V->List V->Hp->VK->Prop):Prop:=
 ∀(pins:List (Addr×Obj)) (s:Shared) (σ:St) (H:Hp) (x:V) (xs:List V) (v:Value) (us:List Value) (Q:VK),Inv X pins σ H s->RelV x v->Vals xs us->r x xs H Q->
  wpAny (model X.prog X.w) X.A (call (.builtin id) (v::us)) (EP X pins σ Q) X.xe s
section
variable {X:Cx}{a b:Expr}{ta tb:TE}{pos:Pos}
theorem tZ.or {r r':R2}(h:tZ X r)(h':tZ X r'):tZ X (λ x y H Q=>r x y H Q\/r' x y H Q):=by
 intro value slice pins s σ H x y v u Q I rx ry q hs
 rcases q with q|q
 ·exact h value slice pins s σ H x y v u Q I rx ry q hs
 ·exact h' value slice pins s σ H x y v u Q I rx ry q hs
theorem FJ{r:R2}(hr:tZ X r)(ha:PE X a ta)(hb:PE X b tb)(hs:oW b):PE X (.Subscript a b pos) (JV r ta tb):=by
 intro pins s σ H Q I h
 exact Subscript_ (JI ha hb I h λ v u s2 x y H2 I2 rx ry q=>hr a b pins s2 σ H2 x y v u Q I2 rx ry q (hs _ _))
def K7(K:PySem.W.Frag):R2:=λ x y H Q=>∃p xs i v,x=.ref p/\y=.int i/\cS K H p xs/\e_ xs i=some v/\Q v H
def K5(K:PySem.W.Frag):R2:=λ x y H Q=>∃p xs i v,x=.ref p/\y=.int i/\ef K H p xs/\e_ xs i=some v/\Q v H
def K6:R2:=λ x y H Q=>∃z i c,x=.str z/\y=.int i/\z.length<=sizeLine/\e_ z.cps.toList i=some c/\Q (.str ⟨#[c]⟩) H
theorem Ek:tZ X (K7 X.K):=by
 intro value slice pins s σ H x y v u Q I rx ry h hs
 obtain⟨p,xs,i,z,rfl,rfl,hq,he,q⟩:=h
 cases rx
 obtain⟨t,rfl⟩:=ry
 obtain⟨ah,r,pl,hz⟩:=I.list hq
 obtain⟨j,h1,h2,h3,h4,h5⟩:=oS he
 obtain⟨w,ew,sk⟩:=r.get h2
 have hl:=r.length
 have hn:=ir
 have fin:EP X pins σ Q w s:=⟨z,H,I,sk,q⟩
 by_cases h0:0<=i
 ·have hj:i.toNat=j:=by
   rw[seqIndex_of h0 h5]at h1
   exact w9 h1
  exact item_listR pl.isList h0 (by omega) (by rw[hj];simpa using ew) fin hs
 ·have hj:(i+(ah.toArray.size:Int)).toNat=j:=by
   rw[seqIndex_neg (by omega) h4]at h1
   rw[p7,<- hl]
   exact w9 h1
  exact subscriptTail_builtinR (x:=w) pl.isList.typeIs slot_list_getitem.lookup
   (wpAny_getItem_list_neg (Q:=λ r s'=>r=w/\EP X pins σ Q r s') pl.isList (by omega) (by rw[p7] <;> omega) (by omega) (by rw[hj];simpa using ew) ⟨rfl,fin⟩) hs
theorem IV:tZ X (K5 X.K):=by
 intro value slice pins s σ H x y v u Q I rx ry h hs
 obtain⟨p,xs,i,z,rfl,rfl,hq,he,q⟩:=h
 cases rx
 obtain⟨t,rfl⟩:=ry
 obtain⟨ah,r,pl,hz⟩:=I.tuple hq
 obtain⟨j,h1,h2,h3,h4,h5⟩:=oS he
 obtain⟨w,ew,sk⟩:=r.get h2
 have hl:=r.length
 have hn:=ir
 have fin:EP X pins σ Q w s:=⟨z,H,I,sk,q⟩
 exact subscriptTail_builtinR (x:=w) pl.typeIs slot_tuple_getitem.lookup
  (getItem_tuple (j:=j) (Q:=λ r s'=>r=w/\EP X pins σ Q r s') pl (by omega) (by omega) (by rw[p7,<- hl];exact h1) (by simpa using ew) ⟨rfl,fin⟩) hs
theorem IW:tZ X K6:=by
 intro value slice pins s σ H x y v u Q I rx ry h hs
 obtain⟨z,i,c,rfl,rfl,hz,he,q⟩:=h
 obtain⟨t,rfl⟩:=rx
 obtain⟨t',rfl⟩:=ry
 obtain⟨j,h1,h2,h3,h4,h5⟩:=oS he
 have hl:z.cps.toList.length=z.length:=by simp[Str.length]
 rw[hl]at h1 h4 h5
 have hn:=ir
 exact tail_any (typeIs_str s z t) slot_str_getitem.lookup (getItem_str (c:=c) (by
  have e1:decide (i < -(2^63:Int))=false:=v8 (by omega)
  have e2:decide (i ≥ 2^63)=false:=v8 (by omega)
  rw[e1,e2,Bool.or_false]) (by rw[h1];simpa using h2) ⟨.str ⟨#[c]⟩,H,I.tok _,⟨_,rfl⟩,q⟩) hs
def R8(K:PySem.W.Frag):R2:=λ x y H Q=>K7 K x y H Q\/K5 K x y H Q\/K6 x y H Q
theorem IY:tZ X (R8 X.K):=Ek.or (IV.or IW)
theorem sW(ah:List Value)(n j:Nat)(u:Value):Obj.mapSeq (·.setIfInBounds j u) {cls:=.type "list",data:=.seq ah.toArray n}={cls:=.type "list",data:=.seq (ah.set j u).toArray n}:=by
 simp[Obj.mapSeq]
theorem Inv.lst {pins:List (Addr×Obj)}{σ:St}{H:Hp}{s:Shared}{p:Addr}{xs:List V}(I:Inv X pins σ H s)(h:H p=some (.lst xs)):
  ∃(ah:List Value) (n:Nat),Vals xs ah/\s.heap.get? p=some {cls:=.type "list",data:=.seq ah.toArray n}/\xs.length<=sizeLine:=by
 obtain⟨z,ah,n,r,e⟩:=I.aL p _ h
 exact⟨ah,n,r,e,z⟩
theorem Inv.IG {pins:List (Addr×Obj)}{σ:St}{H:Hp}{s:Shared}{p:Addr}{xs ys:List V}{ah its':List Value}{n n':Nat}{f:Obj->Obj}(I:Inv X pins σ H s)(h:H p=some (.lst xs))
  (ho:s.heap.get? p=some {cls:=.type "list",data:=.seq ah.toArray n}) (hf:f {cls:=.type "list",data:=.seq ah.toArray n}={cls:=.type "list",data:=.seq its'.toArray n'}) (r:Vals ys its') (hz:ys.length<=sizeLine) (t:Nat):
  Inv X pins σ (upd H p (.lst ys)) {s with heap:=s.heap.update p f,toks:=t}:=by
 have e:(s.heap.update p f).get? p=some {cls:=.type "list",data:=.seq its'.toArray n'}:=by
  rw[j4 f ho (by rw[hf] <;> rfl),hf]
 refine I.write (x:=p) (e:=p) (by rw[h];trivial) (.inl rfl) (λ b u hb q=>(j3 _ _ (B2 hb)).trans q) ⟨_,e⟩ ?_
 exact⟨hz,its',n',r,e⟩
def K3:V->V->V->Hp->(Hp->Prop)->Prop:=λ o i v H Q=>∃p xs k j,o=.ref p/\i=.int k/\H p=some (.lst xs)/\uZ xs.length k=some j/\Q (upd H p (.lst (xs.set j v)))
theorem set_list:oX X K3:=by
 intro pins s σ H o i v ov iv u Q I ro ri rv h
 obtain⟨p,xs,k,j,rfl,rfl,hp,hj,q⟩:=h
 cases ro
 obtain⟨t,rfl⟩:=ri
 obtain⟨ah,n,r,ho,hz⟩:=I.lst hp
 obtain⟨h1,h2,h3,h4⟩:=uY hj
 have hl:=r.length
 have hn:=ir
 have I':Inv X pins σ (upd H p (.lst (xs.set j v))) {s with heap:=s.heap.update p (Obj.mapSeq (·.setIfInBounds j u))}:=
  I.IG hp ho (sW ah n j u) (r.set rv j) (by rw[length_set];exact hz) s.toks
 by_cases h0:0<=k
 ·have hk:k.toNat=j:=by
   rw[seqIndex_of h0 h4]at h1
   exact w9 h1
  exact PySem.W.ki_setAt ho h0 (by omega) (by rw[p7,<- hl];exact h4) (by rw[hk];exact⟨_,I',q⟩)
 ·have hk:(k+(ah.toArray.size:Int)).toNat=j:=by
   rw[seqIndex_neg (by omega) h3]at h1
   rw[p7,<- hl]
   exact w9 h1
  exact PySem.W.ki_setBack ho (by omega) (by rw[p7,<- hl];exact h3) (by omega) (by rw[hk];exact⟨_,I',q⟩)
theorem gE(lo hi:Option Int)(n:Nat):(sliceBounds lo hi none n).1=((HT.bS n 0 lo:Nat):Int)/\(sliceBounds lo hi none n).2.1=((HT.bS n n hi:Nat):Int)/\(sliceBounds lo hi none n).2.2=1:=by
 refine⟨?_,?_,rfl⟩
 ·cases lo with
  |none=>simp[sliceBounds,HT.bS]
  |some i=>
   simp only[sliceBounds,HT.bS,Option.getD_none,show(1:Int) > 0 by decide,if_true]
   by_cases h:i < 0
   ·simp only[h,if_true] <;> omega
   ·simp only[h,B0] <;> omega
 ·cases hi with
  |none=>simp[sliceBounds,HT.bS]
  |some i=>
   simp only[sliceBounds,HT.bS,Option.getD_none,show(1:Int) > 0 by decide,if_true]
   by_cases h:i < 0
   ·simp only[h,if_true] <;> omega
   ·simp only[h,B0] <;> omega
theorem kX(ah:List Value)(lo hi:Option Int):slicePick ah.toArray lo hi none=((ah.drop (HT.bS ah.length 0 lo)).take (HT.bS ah.length ah.length hi - HT.bS ah.length 0 lo)).toArray:=by
 obtain⟨h1,h2,h3⟩:=gE lo hi ah.toArray.size
 unfold slicePick
 rw[h1,h2,h3]
 simp only[sliceRange_one,pick_run,p7] <;> rfl
def K2(K:PySem.W.Frag):V->Option Int->Option Int->Hp->VK->Prop:=λ x lo hi H Q=>∃a xs,x=.ref a/\cS K H a xs/\∀p,H p=none->Q (.ref p) (upd H p (.lst (qU xs lo hi)))
theorem Ck:vJ X (K2 X.K):=by
 intro pins s σ H x v vl vu lo hi sl Q I rx hs pl pu h
 obtain⟨a,xs,rfl,hx,q⟩:=h
 cases rx
 obtain⟨ah,r,ht,hz⟩:=I.list hx
 have hlen:=r.length
 refine⟨"list",_,slot_list_getitem.lookup,ht.isList.typeIs,?_⟩
 refine wpAny_getItem_list_slice ht.isList hs pl pu .none (by simp) ?_ (by rw[p7] <;> omega)
 rw[kX,<- hlen]
 refine⟨.ref s.heap.objs.size,_,I.laid (t':=s.toks) (o:=.lst (qU xs lo hi)) (λ b ob q=>j2 _ q) (A2 _) ?_,rfl,q _ (I.aL.fresh (A2 _))⟩
 exact⟨A1 (iO xs lo hi) hz,_,0,(r.drop (HT.bS xs.length 0 lo)).take (HT.bS xs.length xs.length hi - HT.bS xs.length 0 lo),l6 _ rfl⟩
def eT:V->Bool
 | .a_=>true
 | .bl _=>true
 | .int _=>true
 | .str _=>true
 |_=>false
def Gb:V->V->Bool
 | .a_,.a_=>true
 | .bl a,.bl b=>a==b
 | .bl a,.int b=>(if a then 1 else 0)==b
 | .int a,.bl b=>a==(if b then 1 else 0)
 | .int a,.int b=>a==b
 | .str a,.str b=>a==b
 |_,_=>false
theorem Js{A:Around}{s:Shared}{y x:V}{u v:Value}(ry:RelV y u)(rx:RelV x v)(fy:eT y=true)(fx:eT x=true):SeqAt.EqAt A s u v (Gb y x):=by
 cases y with
 |a_=>
  cases ry
  cases x with
  |a_=>cases rx;exact SeqAt.EqAt.same _
  |bl b=>cases rx;exact SeqAt.EqAt.none_bool b
  |int b=>obtain⟨t,rfl⟩:=rx;exact SeqAt.EqAt.none_int b t
  |str b=>obtain⟨t,rfl⟩:=rx;exact SeqAt.EqAt.none_str b t
  |_=>exact absurd (show false=true from fx) l8
 |bl a=>
  cases ry
  cases x with
  |a_=>cases rx;exact SeqAt.EqAt.bool_none a
  |bl b=>cases rx;exact SeqAt.EqAt.bool_bool a b
  |int b=>obtain⟨t,rfl⟩:=rx;exact SeqAt.EqAt.bool_int a b t
  |str b=>obtain⟨t,rfl⟩:=rx;exact SeqAt.EqAt.bool_str a b t
  |_=>exact absurd (show false=true from fx) l8
 |int a=>
  obtain⟨t',rfl⟩:=ry
  cases x with
  |a_=>cases rx;exact SeqAt.EqAt.int_none a t'
  |bl b=>cases rx;exact SeqAt.EqAt.int_bool a t' b
  |int b=>obtain⟨t,rfl⟩:=rx;exact SeqAt.EqAt.int_int a t' b t
  |str b=>obtain⟨t,rfl⟩:=rx;exact SeqAt.EqAt.int_str a t' b t
  |_=>exact absurd (show false=true from fx) l8
 |str a=>
  obtain⟨t',rfl⟩:=ry
  cases x with
  |a_=>cases rx;exact SeqAt.EqAt.str_none a t'
  |bl b=>cases rx;exact SeqAt.EqAt.str_bool a t' b
  |int b=>obtain⟨t,rfl⟩:=rx;exact SeqAt.EqAt.str_int a t' b t
  |str b=>obtain⟨t,rfl⟩:=rx;exact SeqAt.EqAt.str_str a t' b t
  |_=>exact absurd (show false=true from fx) l8
 |_=>exact absurd (show false=true from fy) l8
def ET(x:V)(u:Value):Bool:=match u with
 | .none=>Gb .a_ x
 | .bool b=>Gb (.bl b) x
 | .int i _=>Gb (.int i) x
 | .str z _=>Gb (.str z) x
 |_=>false
theorem AU{x y:V}{u:Value}(r:RelV y u)(f:eT y=true):ET x u=Gb y x:=by
 cases y with
 |a_=>cases r;rfl
 |bl b=>cases r;rfl
 |int i=>obtain⟨t,rfl⟩:=r;rfl
 |str z=>obtain⟨t,rfl⟩:=r;rfl
 |_=>exact absurd (show false=true from f) l8
theorem oU{x:V}:∀{xs:List V} {us:List Value},Vals xs us->xs.all eT=true->us.any (ET x)=xs.any λ y=>Gb y x
 |_,_,.nil,_=>rfl
 |y::xs,u::us,.cons r t,f=>by
  rw[all_cons,u4]at f
  rw[any_cons,any_cons,AU r f.1,oU t f.2]
theorem jX{A:Around}{s:Shared}{x:V}{v:Value}(rx:RelV x v)(fx:eT x=true):∀{xs:List V} {us:List Value},Vals xs us->xs.all eT=true->∀u∈us,SeqAt.EqAt A s u v (ET x u)
 |_,_,.nil,_=>λ u hu=>by cases hu
 |y::xs,u::us,.cons r t,f=>λ u' hu=>by
  rw[all_cons,u4]at f
  rcases z5.mp hu with rfl|hu
  ·rw[AU r f.1];exact Js r rx f.1 fx
  ·exact jX rx fx t f.2 u' hu
def FT(x:V)(xs:List V):Bool:=xs.any λ y=>Gb y x
def R9(K:PySem.W.Frag)(neg:Bool):R2:=λ x y H Q=>∃p xs,y=.ref p/\(cS K H p xs\/ef K H p xs)/\eT x=true/\xs.all eT=true/\Q (.bl (if neg then !FT x xs else FT x xs)) H
theorem wD:eo X (compareOp .In) (R9 X.K false):=by
 intro pins s σ H x y v u Q I rx ry h
 obtain⟨p,xs,rfl,hq,fx,fs,q⟩:=h
 cases ry
 rcases hq with hq|hq
 ·obtain⟨ah,r,pl,hz⟩:=I.list hq
  refine SeqAt.in_listAt (ET x) pl.isList (λ w hw=>jX rx fx r fs w (by simpa using hw)) ⟨.bl _,H,I,rfl,?_⟩
  rw[show ah.toArray.any (ET x)=ah.any (ET x) by simp,oU r fs]
  exact q
 ·obtain⟨ah,r,pl,hz⟩:=I.tuple hq
  refine SeqAt.in_tupleAt (ET x) pl (λ w hw=>jX rx fx r fs w (by simpa using hw)) ⟨.bl _,H,I,rfl,?_⟩
  rw[show ah.toArray.any (ET x)=ah.any (ET x) by simp,oU r fs]
  exact q
theorem nN:eo X (compareOp .NotIn) (λ x y H Q=>∃i j,x=.str i/\y=.str j/\Q (.bl (!(!(Builtin.Str.occurrences j i 0 j.length 1).isEmpty))) H):=by
 intro pins s σ H x y v u Q I rx ry h
 obtain⟨i,j,rfl,rfl,q⟩:=h
 obtain⟨t,rfl⟩:=rx
 obtain⟨t',rfl⟩:=ry
 exact notIn_str ⟨.bl _,H,I,rfl,q⟩
theorem oQ:b_ X (.builtin "len") (λ xs H Q=>∃p ys,xs=[.ref p]/\(cS X.K H p ys\/ef X.K H p ys)/\Q (.int ys.length) H):=by
 intro pins s σ H xs us Q I r h
 obtain⟨p,ys,rfl,hq,q⟩:=h
 obtain⟨u,rfl,rx⟩:=vals1 r
 cases rx
 have hn:=ir
 rcases hq with hq|hq
 ·obtain⟨ah,r',pl,hz⟩:=I.list hq
  have hlen:=r'.length
  exact Calls.call_len_list pl.isList (by simp only[p7] <;> omega) ⟨.int ys.length,H,I.tok _,⟨s.toks+1,by rw[p7,hlen]⟩,q⟩
 ·obtain⟨ah,r',pl,hz⟩:=I.tuple hq
  have hlen:=r'.length
  exact len_tuple pl (by simp only[p7] <;> omega) ⟨.int ys.length,H,I.tok _,⟨s.toks+1,by rw[p7,hlen]⟩,q⟩
theorem oP:b_ X (.builtin "len") (λ xs H Q=>∃z,xs=[.str z]/\z.length<=sizeLine/\Q (.int z.length) H):=by
 intro pins s σ H xs us Q I r h
 obtain⟨z,rfl,hz,q⟩:=h
 obtain⟨u,rfl,t,rfl⟩:=vals1 r
 have hn:=ir
 exact len_str (by omega) ⟨.int z.length,H,I.tok _,⟨_,rfl⟩,q⟩
theorem b_.or {f:Value}{r r':List V->Hp->VK->Prop}(h:b_ X f r)(h':b_ X f r'):b_ X f (λ xs H Q=>r xs H Q\/r' xs H Q):=by
 intro pins s σ H xs us Q I rs q
 rcases q with q|q
 ·exact h pins s σ H xs us Q I rs q
 ·exact h' pins s σ H xs us Q I rs q
theorem oO:b_ X (.type "list") (λ xs H Q=>∃p ys,xs=[.ref p]/\(cS X.K H p ys\/ef X.K H p ys)/\∀l,H l=none->Q (.ref l) (upd H l (.lst ys))):=by
 intro pins s σ H xs us Q I r h
 obtain⟨p,ys,rfl,hq,q⟩:=h
 obtain⟨u,rfl,rx⟩:=vals1 r
 cases rx
 have fin:∀(ah:List Value),Vals ys ah->ys.length<=sizeLine->∀(h':Heap) (c':Nat),(∀b o',s.heap.get? b=some o'->h'.get? b=some o')->
   h'.get? s.heap.objs.size=some {cls:=.type "list",dict:=none,data:=.seq ah.toArray c',slots:=#[]}->EP X pins σ Q (.ref s.heap.objs.size) {s with heap:=h'}:=λ ah r' hz h' c' kp e=>
  ⟨.ref s.heap.objs.size,_,I.laid (t':=s.toks) kp (A2 _) (show bb X.prog X.w _ h' _ (.lst ys)from⟨hz,ah,c',r',e⟩),rfl,q _ (I.aL.fresh (A2 _))⟩
 rcases hq with hq|hq
 ·obtain⟨ah,r',pl,hz⟩:=I.list hq
  have hlen:=r'.length
  obtain⟨o,ho,hc,n,hd⟩:=pl.isList
  exact call_list_seq p (.inl rfl) ho hc hd (λ h' c' kp e=>fin ah r' hz h' c' kp e) (by simp only[p7] <;> omega)
 ·obtain⟨ah,r',pl,hz⟩:=I.tuple hq
  have hlen:=r'.length
  obtain⟨o,ho,hc,n,hd⟩:=pl
  exact call_list_seq p (.inr rfl) ho hc hd (λ h' c' kp e=>fin ah r' hz h' c' kp e) (by simp only[p7] <;> omega)
theorem ly:b_ X (.type "tuple") (λ xs H Q=>∃p ys,xs=[.ref p]/\((cS X.K H p ys/\∀l,H l=none->Q (.ref l) (upd H l (.tup ys)))\/(ef X.K H p ys/\Q (.ref p) H))):=by
 intro pins s σ H xs us Q I r h
 obtain⟨p,ys,rfl,h⟩:=h
 obtain⟨u,rfl,rx⟩:=vals1 r
 cases rx
 rcases h with⟨hq,q⟩|⟨hq,q⟩
 ·obtain⟨ah,r',pl,hz⟩:=I.list hq
  have hlen:=r'.length
  refine call_tuple_list pl.isList (λ h' kp=>?_) (by simp only[p7] <;> omega)
  have I1:Inv X pins σ H {s with heap:=h'}:=I.kept (t':=s.toks) kp
  have I2:Inv X pins σ (upd H h'.objs.size (.tup ys)) {s with heap:=h'.push {cls:=.type "tuple",data:=.seq ah.toArray}}:=
   I1.laid (t':=s.toks) (λ b o e=>j2 _ e) (A2 _) (show bb X.prog X.w _ _ _ (.tup ys)from⟨hz,ah,r',IsTup.new _ _⟩)
  exact⟨.ref h'.objs.size,_,I2,rfl,q _ (I1.aL.fresh (A2 _))⟩
 ·obtain⟨ah,r',pl,hz⟩:=I.tuple hq
  exact call_tuple_same pl ⟨.ref p,H,I,rfl,q⟩
def Od(K:PySem.W.Frag)(T:String)(x:V)(H:Hp):Prop:=match x with
 | .str _=>T="str"
 | .int _=>T="int"
 | .ref p=>(T="list"/\∃xs,cS K H p xs)\/(T="tuple"/\∃o,K.lookup p=some o/\o.cls=.type "tuple"/\o.dict=none)\/
   (T="dict"/\((∃kvs,H p=some (.dK kvs))\/∃kvs,H p=some (.dT kvs)))\/(T="set"/\∃S n,H p=some (.set S n))
 |_=>False
theorem GB{pins:List (Addr×Obj)}{σ:St}{H:Hp}{s:Shared}{T:String}{x:V}{v:Value}(I:Inv X pins σ H s)(r:RelV x v)(ty:Od X.K T x H):
  s.TypeIs v T/\∀a,v=.ref a->∃ob,s.heap.get? a=some ob/\ob.dict=none:=by
 cases x with
 |str z=>
  obtain⟨t,rfl⟩:=r
  cases(show T="str" from ty)
  exact⟨typeIs_str s z t,λ _ e=>nomatch e⟩
 |int i=>
  obtain⟨t,rfl⟩:=r
  cases(show T="int" from ty)
  exact⟨typeIs_int s i t,λ _ e=>nomatch e⟩
 |ref p=>
  cases r
  rcases ty with⟨rfl,xs,hq⟩|⟨rfl,o,hk,hc,hd⟩|⟨rfl,hk⟩|⟨rfl,S,n,hk⟩
  ·obtain⟨ah,_,pl,_⟩:=I.list hq
   refine⟨pl.isList.typeIs,λ a e=>?_⟩
   cases e
   obtain⟨o,n,e,c,hd,_⟩:=pl
   exact⟨o,e,hd⟩
  ·refine⟨⟨o,I.eQ p o hk,hc⟩,λ a e=>?_⟩
   cases e
   exact⟨o,I.eQ _ o hk,hd⟩
  ·have z:∃o,s.heap.get? p=some o/\o.ExactDict:=by
    rcases hk with⟨kvs,hk⟩|⟨kvs,hk⟩
    ·obtain⟨_,_,_,_,o,_,_,e,ex,_⟩:=I.aL p _ hk
     exact⟨o,e,ex⟩
    ·obtain⟨_,_,_,_,o,_,_,e,ex,_⟩:=I.aL p _ hk
     exact⟨o,e,ex⟩
   obtain⟨o,e,ex⟩:=z
   refine⟨⟨o,e,ex.1⟩,λ a e2=>?_⟩
   cases e2
   exact⟨o,e,ex.2.1⟩
  ·obtain⟨o,_,_,_,e,ex,_⟩:=I.aL p _ hk
   refine⟨⟨o,e,ex.1⟩,λ a e2=>?_⟩
   cases e2
   exact⟨o,e,ex.2.1⟩
 |_=>exact False.elim ty
def RZ(K:PySem.W.Frag)(T:String)(r:V->List V->Hp->VK->Prop)(to:TE)(t:TA):TE:=λ σ H Q=>to σ H λ x H1=>Od K T x H1/\t σ H1 λ xs H2=>r x xs H2 Q
variable {o e:Expr}{es:List Expr}{to:TE}{t:TA}{name:Str}{apos aZ:Pos}{T id:String}{r:V->List V->Hp->VK->Prop}
theorem FK(pa:PlainAttrs T)(slot:Slot T name id)(hty:typeOf (.builtin id)=pure (.type "method_descriptor"))(hm:QF X id r)(ho:PE X o to)(ha:PA X (e::es) t)
  (hbase:attributeBase o name X.env (eval o X.env)=eval o X.env:=by rfl)
  (hfew:((backTo aZ (starEach (e::es) X.env)).all (λ x=>!x.1)&&(backToKw aZ (keywordEach [] X.env)).all (λ x=>x.1.isSome)
   &&decide ((e::es).length+([]:List Keyword).length+(if([]:List Keyword).isEmpty then 0 else 1) < 30))=true:=by rfl)
  (hline:(apos.endLine==aZ.line)=true:=by rfl) (hs:starEach (e::es) X.env=(false,eval e X.env)::starEach es X.env:=by rfl) (hplain:(backTo aZ (starEach es X.env)).any (·.1)=false:=by rfl):
  PE X (.Call (.Attribute o name apos) (e::es) [] aZ) (RZ X.K T r to t):=by
 intro pins s σ H Q I h
 refine wpAny_Call_method_late hbase hfew hline rfl (cg (ho pins s σ H _ I h) λ v s1 ⟨x,H1,I1,r1,ty,q1⟩=>?_)
 obtain⟨h1,h2⟩:=GB I1 r1 ty
 refine⟨T,id,pa,slot,hty,h1,h2,?_⟩
 have hA:=ha aZ pins s1 σ H1 _ I1 q1
 rw[hs]at hA ⊢
 refine Calls.callWith_builtin (by show(false||(backTo aZ (starEach es X.env)).any (·.1))=false;rw[hplain] <;> rfl) (Calls.evalArgs_plain ?_)
 exact cg hA λ us s2 ⟨vs,H2,I2,r2,q2⟩=>hm pins s2 σ H2 x vs v us Q I2 r1 r2 q2
end
def UO(X:Cx)(id:String)(r:V->List V->Hp->VK->Prop):Prop:=
 ∀(pins:List (Addr×Obj)) (s:Shared) (σ:St) (H:Hp) (x:V) (xs:List V) (v:Value) (us:List Value) (Q:VK),Inv X pins σ H s->RelV x v->Vals xs us->r x xs H Q->
  wpAny (model X.prog X.w) X.A (call (.builtin id) (v::us)) (EP X pins σ Q) X.xe s
theorem Vals.one:∀{x:V} {us:List Value},Vals [x] us->∃u,us=[u]/\RelV x u
 |_,_,.cons r .nil=>⟨_,rfl,r⟩
theorem Vals.rep {xs:List V}{us:List Value}(h:Vals xs us):∀k:Nat,Vals (List.replicate k xs).flatten (List.replicate k us).flatten
 |0=>.nil
 |k+1=>by
  rw[l4,l4,o7,o7]
  exact Vals.append h (Vals.rep h k)
theorem foldl_rep(ah:List Value):∀(k:Nat) (acc:List Value),
  List.foldl (λ x1 x2=>x1++x2) acc.toArray (List.replicate k ah.toArray)=(acc++(List.replicate k ah).flatten).toArray
 |0,acc=>by simp
 |k+1,acc=>by
  have e:acc.toArray++ah.toArray=(acc++ah).toArray:=by simp
  have e2:(acc++ah)++(List.replicate k ah).flatten=acc++(List.replicate (k+1) ah).flatten:=by
   rw[l4,o7,append_assoc]
  rw[<- e2,<- foldl_rep ah k (acc++ah),<- e,l4,foldl_cons]
section
variable {X:Cx}{pins:List (Addr×Obj)}{σ:St}{H:Hp}{s:Shared}{l b:Addr}{xs ys zs:List V}
theorem Inv.O3 {ah its':List Value}{n:Nat}{f:Array Value->Array Value}{t':Nat}(I:Inv X pins σ H s)(hH:H l=some (.lst xs))
  (e:s.heap.get? l=some {cls:=.type "list",data:=.seq ah.toArray n}) (hf:f ah.toArray=its'.toArray) (hv:Vals ys its') (hz:ys.length<=sizeLine):
  Inv X pins σ (upd H l (.lst ys)) {s with heap:=s.heap.update l (Obj.mapSeq f),toks:=t'}:=by
 have q:=PySem.IsL.update e f
 rw[hf]at q
 refine I.write (x:=l) (e:=l) (by rw[hH];exact trivial) (.inl rfl) (λ b' u hb hu=>(j3 s.heap (Obj.mapSeq f) (B2 hb)).trans hu) ⟨_,q⟩ ?_
 exact⟨hz,its',_,hv,q⟩
theorem Inv.LK {ah:List Value}{t':Nat}(I:Inv X pins σ H s)(hv:Vals ys ah)(hz:ys.length<=sizeLine):
  Inv X pins σ (upd H s.heap.objs.size (.lst ys)) {s with heap:=s.heap.push {cls:=.type "list",data:=.seq ah.toArray},toks:=t'}:=
 I.laid (λ _ _ q=>j2 _ q) (A2 _) ⟨hz,ah,0,hv,l6 _ rfl⟩
theorem Inv.fresh (I:Inv X pins σ H s):H s.heap.objs.size=none:=I.aL.fresh (A2 _)
theorem Inv.Ec (I:Inv X pins σ H s)(hH:H l=some (.lst xs)):xs.length<=sizeLine/\∃(ah:List Value) (n:Nat),Vals xs ah/\xs.length=ah.length/\s.heap.get? l=some {cls:=.type "list",data:=.seq ah.toArray n}:=by
 obtain⟨z,ah,n,r,e⟩:=I.aL l _ hH
 exact⟨z,ah,n,r,r.length,e⟩
theorem zP{n:Nat}(h:n<=sizeLine):Builtin.List.listTooLong n=false:=by
 unfold Builtin.List.listTooLong
 exact v8 (by omega)
end
section
variable {X:Cx}
def uD:V->List V->Hp->VK->Prop:=λ x vs H Q=>∃l xs y,x=.ref l/\vs=[y]/\H l=some (.lst xs)/\xs.length < sizeLine/\Q .a_ (upd H l (.lst (xs++[y])))
theorem wL:UO X "list.append" uD:=by
 intro pins s σ H x vs v us Q I rx rv h
 obtain⟨l,xs,y,rfl,rfl,hH,hz,q⟩:=h
 cases rx
 obtain⟨u,rfl,ru⟩:=rv.one
 obtain⟨z,ah,n,r,hl,e⟩:=I.Ec hH
 refine A8 F.slot_list_append ⟨_,e,rfl⟩ F.entry_list_append (F.args_list_append_2 _ _) (PySem.list_append l ah.toArray n u (by rw[p7];omega)) ⟨e,?_⟩
 refine⟨.a_,_,I.O3 (its':=ah++[u]) hH e (by simp) (r.append (.cons ru .nil)) ?_,rfl,q⟩
 rw[l9,j6]
 omega
def OF:R2:=λ x y H Q=>∃l b xs zs,x=.ref l/\y=.ref b/\H l=some (.lst xs)/\H b=some (.lst zs)/\xs.length+zs.length<=sizeLine/\∀p,H p=none->Q (.ref p) (upd H p (.lst (xs++zs)))
theorem Ip:eo X (binaryOp .Add) OF:=by
 intro pins s σ H x y v u Q I rx ry h
 obtain⟨l,b,xs,zs,rfl,rfl,hH,hB,hz,q⟩:=h
 cases rx
 cases ry
 obtain⟨z,ah,n,r,hl,e⟩:=I.Ec hH
 obtain⟨z2,I_,n2,r2,PD,e2⟩:=I.Ec hB
 refine PySem.P.add_list e e2 ?_ (by rw[p7,p7];omega)
 have ea:ah.toArray++I_.toArray=(ah++I_).toArray:=by simp
 rw[ea]
 exact⟨.ref _,_,I.LK (t':=s.toks) (r.append r2) (by rw[l9];omega),rfl,q _ I.fresh⟩
def OD:R2:=λ x y H Q=>∃l k xs,x=.ref l/\y=.int k/\H l=some (.lst xs)/\-(2^63)<=k/\k < 2^63/\xs.length*k.toNat<=sizeLine/\
 ∀p,H p=none->Q (.ref p) (upd H p (.lst (List.replicate k.toNat xs).flatten))
theorem len_rep{α:Type}(xs:List α)(k:Nat):(List.replicate k xs).flatten.length=k*xs.length:=by
 induction k with
 |zero=>simp
 |succ k ih=>rw[l4,o7,l9,ih,Nat.succ_mul,Nat.add_comm]
theorem Ig:eo X (binaryOp .Mult) OD:=by
 intro pins s σ H x y v u Q I rx ry h
 obtain⟨l,k,xs,rfl,rfl,hH,h1,h2,hz,q⟩:=h
 cases rx
 obtain⟨t,rfl⟩:=ry
 obtain⟨z,ah,n,r,hl,e⟩:=I.Ec hH
 have hlen:ah.toArray.size*k.toNat<=sizeLine:=by rw[p7,<- hl];exact hz
 have PQ:¬ah.toArray.size*k.toNat > (2^63 - 1) / 8:=by
  have:(sizeLine:Nat)<=(2^63 - 1) / 8:=by decide
  omega
 have Mo:¬(!Builtin.List.listFitsIndex k)=true:=by
  rw[fitsIndex_both h1 h2]
  exact l8
 have Mf:¬Builtin.List.listTooLong (ah.toArray.size*k.toNat)=true:=by
  rw[zP hlen]
  exact l8
 have Jf:List.foldl (λ x1 x2=>x1++x2) #[] (List.replicate (if ah.toArray.isEmpty=true then 0 else k.toNat) ah.toArray)=(List.replicate k.toNat ah).flatten.toArray:=by
  have f0:∀m:Nat,List.foldl (λ x1 x2=>x1++x2) #[] (List.replicate m ah.toArray)=(List.replicate m ah).flatten.toArray:=λ m=>by
   have:=foldl_rep ah m []
   rw[nil_append]at this
   exact this
  rw[f0]
  cases ah with
  |nil=>simp
  |cons a r'=>rw[B4 (by simp)]
 refine wpAny_binaryOp_repeat_ref (T:="list") (U:="int") (by decide) ⟨_,e,rfl⟩ (λ s'=>typeIs_int s' k t) noFill_list_mul F.fills_int_mul F.slot_int_rmul repeat_list F.slot_int_index.lookup
  (A8 F.slot_int_rmul (typeIs_int s k t) F.entry_int_rmul (F.args_int_rmul_2 _ _) (int___rmul___int_list k t l ah.toArray n)
   ⟨e,rfl,⟨_,e,rfl⟩,A8 F.slot_list_mul ⟨_,e,rfl⟩ F.entry_list_mul (F.args_list_mul_2 _ _) (AutoListH.list___mul___list_int_3 l ah.toArray n k t Mo PQ Mf) ⟨e,?_⟩⟩)
 rw[Jf]
 exact⟨.ref _,_,I.LK (t':=s.toks) (r.rep k.toNat) (by rw[len_rep,Nat.mul_comm];exact hz),rfl,q _ I.fresh⟩
end
section
variable {prog:Program}{w:World}{A:Around}{E:Value->Shared->Prop}{s:Shared}
set_option maxRecDepth 100000 in
end
end L2
namespace RL
open PySem PySem.W PySem.Calls PyProof.Rows
theorem iU{P:Params}{h:Heap}:∀(ns:List Int) (vs:List Value),WellAll P h vs (ns.map WData.int)->IntsAre vs ns:=by
 intro ns
 induction ns with
 |nil=>
  intro vs w
  rw[map_nil]at w
  cases w
  exact .nil
 |cons n ns ih=>
  intro vs w
  rw[z4]at w
  cases w with
  |cons a b=>
   cases a
   exact .cons _ _ (ih _ b)
theorem wa{l:OpenLaw}{n:Nat}(hn:l.most=some n){P:Params}{h:Heap}{args:List WData}{vals:List Value}
  (EB:l.row.toRowW.claim.pre args=true) (Ph:WellAll P h vals args):
  ∃a vs ns,vals=[Value.ref a]/\args=[WData.list (ns.map WData.int)]/\h.get? a=some {cls:=.type "list",data:=.seq vs.toArray}/\IntsAre vs ns/\ns.length<=n:=by
 have SH:WShape.hasAll [] args [.list .int]=true:=(pre_splitW EB).1
 have hc:l.pre.holds [] {args:=args}=true:=(pre_splitW EB).2
 obtain⟨d,r,rfl,h1,h2⟩:=hasAllW_cons SH
 obtain rfl:=hasAllW_nil h2
 obtain⟨xs,rfl,h3⟩:=hasW_list h1
 obtain⟨ns,rfl⟩:=items_int h3
 have hlen:ns.length<=n:=by
  unfold OpenLaw.pre at hc
  have h4:(WTm.not (.lt (.lit (.int (n:Int))) (.len (.arg 0)))).holds [] {args:=[.list (ns.map .int)]}=true:=by
   have h4:=(holds_andW hc).1
   rw[hn]at h4
   exact h4
  have h5:=condW_of h4 (w_not (w_lt w_lit (w_len_list (w_arg rfl))))
  rw[x8]at h5
  refine q8 λ q=>?_
  have q':(n:Int) < ((ns.length:Nat):Int):=by omega
  first
   |(rw[y2 q']at h5;exact absurd h5 (by decide))
   |(simp at h5;omega)
 cases Ph with
 |cons w1 w2=>
  cases w2
  cases w1 with
  |list ho AJ=>exact⟨_,_,ns,rfl,rfl,ho,iU ns _ AJ,hlen⟩
theorem wz(l:OpenLaw)(args:List WData):l.row.toRowW.claim.post args (.bool true) args=true:=
 postW_of (r:=l.row.toRowW) (X:=(true==true))
  (show WShape.has [] (.bool true) .bool=true by first|rfl|decide|simp[WShape.has,WShape.arms,WShape.armsAll])
  (show(WTm.eq .res (.lit (.bool true))).value [] {args:=args,res:=some (.bool true),after:=args}=some (.bool (true==true))from w_eq_bool (w_res rfl) w_lit) rfl
theorem rq{l:OpenLaw}{n:Nat}{q:Program}{loose:List Str}{XP:(Str->Option Value)->Heap->Prop}{YP:World->Heap->Prop}{d:DefRec}
  (hn:l.most=some n) (AG:d.params.defaults=[])
  (call:∀(w:World) (s₀ s₁:Shared) (mg mb:Str->Option Value) (fa:Addr) (o:Obj) (pm cd doc:Value) (a:Addr) (vs:List Value) (ns:List Int),
   Ground q loose [] XP w s₀ mg mb s₁.heap->YP w s₁.heap->
   s₁.heap.get? fa=some o->o.data=.func (docDef d.name d.params d.body d.scope pm cd doc)->s₁.heap.CodeRec cd d.name->mg d.name=some (.ref fa)->
   s₁.heap.get? a=some {cls:=.type "list",data:=.seq vs.toArray}->IntsAre vs ns->ns.length<=n->s₁.gens=#[]->
   codeAny (model l.prog w) callerA (.call (.ref fa) ⟨[.ref a],[]⟩) (λ r s'=>r=.ok (.ret (.bool true))/\OldK s₁.heap s'.heap/\s'.os=s₁.os/\AllBare s'.gens) s₁):
  WalkO q loose XP YP l.row.toRowW d [] (λ f vs=>PySem.call f vs):=by
 intro w s₀ s₁ mg mb G Y fa o pm cd doc dV kV ho hd hcd hD Mb hg args vals as EB S7 U4 Ph U8
 obtain rfl:dV=.none:=Dflts.none hD AG
 obtain rfl:kV=.none:=Dflts.noKw hD
 obtain⟨a,vs,ns,rfl,rfl,Ay,hints,hlen⟩:=wa hn EB Ph
 refine enter_call (codeAny_mono (call w s₀ s₁ mg mb fa o pm cd doc a vs ns G Y ho (fd_plain hd) hcd Mb Ay hints hlen hg) λ r s' hq=>?_)
 obtain⟨rfl,h2,h3,h4⟩:=hq
 exact⟨.inl ⟨.bool true,.bool true,[],rfl,λ _=>rfl,.bool true,wz l _,λ _=>⟨List.Pairwise.nil,λ _ hm=>(nomatch hm)⟩⟩,h2,h3,h4⟩
end RL
namespace L2
open PySem PySem.Spec PyProof.Rows
theorem lL:∀{vs:List Value} {ns:List Int},IntsAre vs ns->Vals (ns.map V.int) vs
 |_,_,.nil=>.nil
 |_,_,.cons n t h=>.cons ⟨t,rfl⟩ (lL h)
def Fp(H:Hp):Prop:=∀b,H b=none\/∃o xs,H b=some (.jm o (.lst xs))
theorem zY{P:Program}{w:World}{K:PySem.W.Frag}{mg mb:Str->Option Value}{CX:xT}{k:Nat}{fa a:Addr}{fd:FuncData}{x:Str}{sp:Sp}{s₁:Shared}{vs:List Value}{ns:List Int}
  (KX:K.In s₁.heap) (Kb:s₁.heap.Ns mainGlobals mg) (hb:s₁.heap.Ns builtinsNs mb) (To:∀x:Str,x≠"__name__"->mb x=bootBuiltins x) (PC:s₁.heap.NoLimit) (hg:s₁.gens=#[])
  (ha:s₁.heap.get? a=some {cls:=.type "list",data:=.seq vs.toArray}) (hi:IntsAre vs ns) (hl:ns.length<=sizeLine) (hr:bA k callerA)
  (F:∀base:Heap,K.In base->base.Ns mainGlobals mg->bw P w K mg base CX k fa fd [x] sp) (Mt:∀(s:Shared) (u:Value),BindsTo s fd ⟨[u],[]⟩ [(x,u)])
  (Aw:∀H:Hp,Fp H->cS K H a (ns.map V.int)->sp [.ref a] H (λ v _=>v=.bl true) λ _ _ _=>False)
  (P_:∀H e s',CX [] H s₁ (λ _ _ _=>False) e s'->False):
  codeAny (model P w) callerA (.call (.ref fa) ⟨[.ref a],[]⟩) (λ r s'=>r=.ok (.ret (.bool true))/\OldK s₁.heap s'.heap/\s'.os=s₁.os/\AllBare s'.gens) s₁:=by
 have rv:=lL hi
 have O5:=hi.length
 have core:∀H:Hp,Fp H->cS K H a (ns.map V.int)->eA P w H s₁.heap->(∀b,H b≠none->b=a)->(H a≠none->K.lookup a=none)->
   codeAny (model P w) callerA (.call (.ref fa) ⟨[.ref a],[]⟩) (λ r s'=>r=.ok (.ret (.bool true))/\OldK s₁.heap s'.heap/\s'.os=s₁.os/\AllBare s'.gens) s₁:=by
  intro H hO hS aL hA hK
  have vF:∀{b:Addr} {o:Obj},s₁.heap.get? b=some o->H b=none->(ow s₁.heap H).get? b=some o:=λ e n=>AF e n
  have LG:∀{b:Addr} {o:Obj} {es:Array DictEntry} {ep:Nat},s₁.heap.get? b=some o->o.data=.dict es ep->H b=none:=λ{b o es ep} e d=>by
   cases q:H b with
   |none=>rfl
   |some u=>
    have e':b=a:=hA b (by rw[q];simp)
    subst e'
    rw[ha]at e;cases e
    have d':Data.seq vs.toArray _=Data.dict es ep:=d
    cases d'
  have Nz:∀{b:Addr} {m:Str->Option Value},s₁.heap.Ns b m->(ow s₁.heap H).Ns b m:=λ{b m} ⟨o,es,ep,e,d,r⟩=>⟨o,es,ep,vF e (LG e d),d,r⟩
  have Ru:K.In (ow s₁.heap H):=λ b o e=>vF (KX b o e) (by
   cases q:H b with
   |none=>rfl
   |some u=>
    have e':b=a:=hA b (by rw[q];simp)
    subst e'
    rw[hK (by rw[q];simp)]at e;cases e)
  have hM:Mod K mg (ow s₁.heap H):=⟨Ru,Nz Kb,⟨mb,Nz hb,To⟩,let⟨mc,h1,h2⟩:=PC;⟨mc,Nz h1,h2⟩⟩
  have e0:kR P w K mg (ow s₁.heap H) callerA [] s₁ H:=⟨rfl,hM,λ b o e=>DX e,Nat.le_of_eq (w_ _ _),trivial,λ b hb=>absurd (show b∈([]:List Addr)from hb) (by simp),aL,.of_eq hg⟩
  refine codeAny_mono ((F _ Ru (Nz Kb)).run callerA [] s₁ H ⟨[.ref a],[]⟩ [.ref a] [.ref a] _ _ hr e0 (Mt s₁ (.ref a)) (.cons rfl .nil) (Aw H hO hS)) λ r s' h=>?_
  cases r with
  |error e=>exact(P_ H e s' h).elim
  |ok fl=>
   cases fl with
   |next=>exact False.elim h
   |brk=>exact False.elim h
   |cont=>exact False.elim h
   |ret u=>
    obtain⟨v,H',os,bare,un,Pw,r',q⟩:=h
    have q':v=.bl true:=q
    subst q'
    obtain rfl:u=Value.bool true:=r'
    refine⟨rfl,OldK.of_keep λ b o e=>?_,os,bare⟩
    cases q:H b with
    |none=>exact un.keep b o e q (by intro z;exact absurd (show b∈([]:List Addr)from z) (by simp)) (by simp)
    |some u=>
     rcases hO b with z|⟨ob,xs,z⟩
     ·rw[q]at z;cases z
     ·have z2:=un.dN b ob _ z
      obtain⟨e1,_⟩:=aL b _ z
      obtain⟨e2,_⟩:=Pw b _ z2
      rw[e]at e1;cases e1
      exact e2
 cases hk:K.lookup a with
 |some o=>
  have e:=KX a o hk
  rw[ha]at e
  cases e
  refine core (λ _=>none) (λ _=>.inl rfl) (.inr ⟨_,vs.toArray,_,hk,rfl,rfl,rfl,by rw[p7,O5];exact hl,by simpa using rv⟩) (λ b u z=>by have z':(none:Option HO)=some u:=z;cases z') (λ b z=>absurd rfl z) λ z=>absurd rfl z
 |none=>
  refine core (λ b=>if b=a then some (.jm {cls:=.type "list",data:=.seq vs.toArray} (.lst (ns.map V.int)))else none) (λ b=>?_) (.inl (.inr ⟨{cls:=.type "list",data:=.seq vs.toArray},B3 rfl⟩)) (λ b u z=>?_) (λ b z=>?_) λ _=>hk
  ·by_cases hb:b=a
   ·exact .inr ⟨_,_,B3 hb⟩
   ·exact .inl (B4 hb)
  ·by_cases hb:b=a
   ·have z':=(B3 hb).symm.trans z
    cases z'
    subst hb
    exact⟨ha,by rw[x8];exact hl,vs,_,rv,ha⟩
   ·have z':=(B4 hb).symm.trans z
    cases z'
  ·by_cases hb:b=a
   ·exact hb
   ·exact absurd (B4 hb) z
theorem B6{l:PySem.W.OpenLaw}{n k:Nat}{q:Program}{loose:List Str}{XP:(Str->Option Value)->Heap->Prop}{YP:World->Heap->Prop}{d:DefRec}{K:Params->PySem.W.Frag}{CX:World->xT}{sp:World->Sp}{x:Str}
  (hn:l.most=some n) (SX:n<=sizeLine) (AG:d.params.defaults=[]) (hr:bA k callerA)
  (hY:∀(w:World) (h:Heap),YP w h->(K w.params).In h)
  (F:∀(w:World) (mg:Str->Option Value) (fa:Addr) (h:Heap),(K w.params).In h->h.Ns mainGlobals mg->mg d.name=some (.ref fa)->
   ∃fd:FuncData,(∀(s:Shared) (u:Value),BindsTo s fd ⟨[u],[]⟩ [(x,u)])/\
    ∀base:Heap,(K w.params).In base->base.Ns mainGlobals mg->bw l.prog w (K w.params) mg base (CX w) k fa fd [x] (sp w))
  (Aw:∀(w:World) (H:Hp) (a:Addr) (ns:List Int),ns.length<=n->Fp H->cS (K w.params) H a (ns.map V.int)->sp w [.ref a] H (λ v _=>v=.bl true) λ _ _ _=>False)
  (P_:∀(w:World) (H:Hp) (s:Shared) (e:Value) (s':Shared),CX w [] H s (λ _ _ _=>False) e s'->False):
  PySem.W.WalkO q loose XP YP l.row.toRowW d [] (λ f vs=>PySem.call f vs):=by
 refine RL.rq hn AG λ w s₀ s₁ mg mb fa o pm cd doc a vs ns G Y ho hd hcd Mb Ay hints hlen hg=>?_
 have KX:=hY w _ Y
 obtain⟨fd,hb,hF⟩:=F w mg fa _ KX G.T.g Mb
 exact zY KX G.T.g G.T.b G.T.builtins G.T.nolimit hg Ay hints (A1 hlen SX) hr hF hb (λ H hO hS=>Aw w H a ns hlen hO hS) λ H e s'=>P_ w H s₁ e s'
def c_(s:Stmt):Arguments:=match s with
 | .FunctionDef _ a _ _ _ _ _ _ _ _=>a
 |_=>{posonlyargs:=[],args:=[],vararg:=none,kwonlyargs:=[],kw_defaults:=[],kwarg:=none,defaults:=[]}
def bN(s:Stmt):List Stmt:=match s with
 | .FunctionDef _ _ b _ _ _ _ _ _ _=>b
 |_=>[]
def aj(s:Stmt):Scope:=match s with
 | .FunctionDef _ _ _ _ _ _ sc _ _ _=>sc
 |_=>{kind:=.function,names:=[],isGenerator:=false,isCoroutine:=false}
abbrev eP:xT:=λ _ _ _ _ _ _=>False
abbrev E0:XK:=λ _ _ _=>False
theorem Lp{X:Cx}:Passes eP X E0:=λ _ _ _ _ _ _ _ h=>h.elim
structure ff(K:PySem.W.Frag)(x qual:Str)(st:Stmt)(f:Addr)(fd:FuncData):Prop where
 ex:∃(oc:Value) (od:Option Addr) (kV doc pm:Value) (an:Option Addr) (bW ct:Value) (wB:Array (Option Value)),
  fd=PySem.W.fnOf x qual (c_ st) (bN st) (aj st) .none kV doc pm an bW ct/\K.lookup f=some ⟨oc,od,.func fd,wB⟩/\PySem.W.codeIn K bW qual=true
 kp:PySem.W.keepIn K (.ref f)=true
section
variable {P:Program}{w:World}{K:PySem.W.Frag}{mg:Str->Option Value}{base:Heap}
theorem ff.ok {x qual:Str}{st:Stmt}{f:Addr}{fd:FuncData}{N ps:List Str}{k:Nat}{sp:Sp}(F:ff K x qual st f fd)(S:aH N ps (aj st))(len:∀vs H Q E,sp vs H Q E->vs.length=ps.length)
  (dW:∀(bW:Value) (A:Around) (outer:List Env) (s:Shared) (H:Hp) (vs:List V) (Q:VK) (E:XK),bA k (A.deeper (envOfC qual (aj st) s.heap.objs.size f bW))->sp vs H Q E->
   ∃t,lB (lr eP P w K mg base N qual (aj st) f bW A outer s H E).uN (bN st) t/\t {nx:=λ _ H'=>Q .a_ H',rt:=Q} (start N vs) H):bw P w K mg base eP (k+1) f fd ps sp:=by
 obtain⟨oc,od,kV,doc,pm,an,bW,ct,wB,rfl,lk,hcd⟩:=F.ex
 refine F_ lk hcd S len λ A outer s H vs Q E hr Aw=>?_
 obtain⟨t,h,q⟩:=dW bW A outer s H vs Q E hr Aw
 exact⟨t,h.uN,q⟩
theorem ff.binds {x qual:Str}{st:Stmt}{f:Addr}{fd:FuncData}{ps:List Str}(F:ff K x qual st f fd)
  (h:∀(kV doc pm:Value) (an:Option Addr) (bW ct:Value) (us:List Value),us.length=ps.length->bindArgs (PySem.W.fnOf x qual (c_ st) (bN st) (aj st) .none kV doc pm an bW ct) ⟨us,[]⟩=pure (ps.zip us)):Binds K fd ps []:=by
 obtain⟨oc,od,kV,doc,pm,an,bW,ct,wB,rfl,lk,hcd⟩:=F.ex
 exact .all (h kV doc pm an bW ct)
theorem AN{x qual:Str}{st:Stmt}{f:Addr}{oc:Value}{od an:Option Addr}{wB:Array (Option Value)}{kV doc pm bW ct:Value}(l:K.lookup f=some ⟨oc,od,.func (PySem.W.fnOf x qual (c_ st) (bN st) (aj st) .none kV doc pm an bW ct),wB⟩)
  (c:PySem.W.codeIn K bW qual=true) (k:PySem.W.keepIn K (.ref f)=true):ff K x qual st f (PySem.W.fnOf x qual (c_ st) (bN st) (aj st) .none kV doc pm an bW ct):=⟨⟨oc,od,kV,doc,pm,an,bW,ct,wB,rfl,l,c⟩,k⟩
end
section
variable {X:Cx}
theorem pv(i:Nat){x:Str}{pos:Pos}(hN:X.N[i]?=some x:=by rfl)(hv:MT X.env.scope x:=by first|exact Or.inl rfl|exact Or.inr (Or.inl rfl)|exact Or.inr (Or.inr rfl))(hd:(x==("__debug__":Str))=false:=by decide)
  (hcd:(x==("__classdict__":Str))=false:=by decide):PE X (.Name x pos) (ye i):=zv hN hv hd hcd
end
end L2
namespace L2
open PySem PySem.Spec PyProof.Rows
section
variable {X:Cx}{pins:List (Addr×Obj)}{σ:St}{H:Hp}{s:Shared}
theorem Inv.ue {D:Addr}{o:HO}(I:Inv X pins σ H s)(hn:H D=none)(new:bb X.prog X.w (upd H D o) s.heap D o)
  (hL:D≠X.env.locals) (hs:X.s₀.heap.objs.size<=D) (hc:∀x c,X.env.cells.lookup x=some c->c≠D) (hp:∀p∈X.pn++pins,p.1≠D):Inv X pins σ (upd H D o) s:=by
 have ne:∀{b:Addr} {u:HO},H b=some u->b≠D:=λ e=>aD e hn
 have nb:∀(b:Addr) (ob:Obj),X.s₀.heap.get? b=some ob->b≠D:=λ b ob e=>z7 (m8 (z8 e) hs)
 refine⟨I.ok,I.os,I.bare,⟨I.base.keep,I.base.slot,λ b ob e n hx=>?_,I.base.there,λ b xs e=>?_,λ b ob u e=>?_,λ b ps e=>?_⟩,I.loc,I.cell,?_,λ x c e=>?_,λ p LY=>?_,λ b u e=>?_,I.len⟩
 ·rw[av (nb b ob e)];exact I.base.free b ob e n hx
 ·have q:=I.base.dR b xs e;rw[av (ne q)];exact q
 ·have q:=I.base.dN b ob u e;rw[av (ne q)];exact q
 ·obtain⟨m,q⟩:=I.base.eB b ps e;exact⟨m,by rw[av (ne q)];exact q⟩
 ·rw[av (B2 hL)];exact I.free
 ·rw[av (hc x c e)];exact I.dz x c e
 ·obtain⟨e,n,r⟩:=I.pin p LY;exact⟨e,by rw[av (hp p LY)];exact n,r⟩
 ·by_cases hb:b=D
  ·subst hb;rw[aI]at e;cases e;exact new
  ·rw[av hb]at e
   exact(I.aL b u e).dr (λ c v _ q=>q) (λ c q=>by rw[av (ne q)];exact q) λ c xs q=>by rw[av (ne q)];exact q
end
def cY(cells:List (Str×Addr)):List (Str×NameKind)->List (Str×Addr)->List (Str×Addr)
 |[],acc=>acc
 |(n,k)::r,acc=>if(k==.free)=true then cY cells r ((n,(cells.lookup n).getD 0)::acc)else cY cells r acc
theorem gm{cells:List (Str×Addr)}:∀(names:List (Str×NameKind)) (acc:List (Str×Addr)),(∀n,(n,NameKind.free)∈names->∃c,cells.lookup n=some c)->
  (∀x c,acc.lookup x=some c->cells.lookup x=some c)->∀x c,(cY cells names acc).lookup x=some c->cells.lookup x=some c
 |[],acc,_,h,x,c,e=>h x c e
 |(n,k)::r,acc,hc,h,x,c,e=>by
  unfold cY at e
  by_cases hk:(k==NameKind.free)=true
  ·rw[B3 hk]at e
   refine gm r _ (λ m hm=>hc m (k4 _ hm)) (λ y d q=>?_) x c e
   have vg:k=NameKind.free:=by simpa using hk
   obtain⟨c0,e0⟩:=hc n (by rw[vg];exact l7)
   rw[p9]at q
   cases hy:(y==n)with
   |true=>
    rw[hy]at q
    have yn:y=n:=by simpa using hy
    subst yn
    rw[e0]at q
    rw[e0];exact q
   |false=>rw[hy]at q;exact h y d q
  ·rw[B4 hk]at e
   exact gm r _ (λ m hm=>hc m (k4 _ hm)) h x c e
theorem fE{cells:List (Str×Addr)}{x:Str}:∀(names:List (Str×NameKind)) (acc:List (Str×Addr)),((acc.lookup x).isSome=true)->((cY cells names acc).lookup x).isSome=true
 |[],acc,h=>h
 |(n,k)::r,acc,h=>by
  unfold cY
  split
  ·refine fE r _ ?_
   rw[p9]
   cases hy:(x==n)with
   |true=>rfl
   |false=>exact h
  ·exact fE r _ h
theorem ix{cells:List (Str×Addr)}{x:Str}:∀(names:List (Str×NameKind)) (acc:List (Str×Addr)),(x,NameKind.free)∈names->((cY cells names acc).lookup x).isSome=true
 |[],acc,h=>absurd h (by simp)
 |(n,k)::r,acc,h=>by
  unfold cY
  rcases z5.mp h with e|h
  ·cases e
   rw[B3 (by decide)]
   refine fE r _ ?_
   rw[p9]
   simp
  ·split
   ·exact ix r _ h
   ·exact ix r _ h
theorem dY{scope:Scope}{env:Env}(hc:∀n,(n,NameKind.free)∈scope.names->∃c,env.cells.lookup n=some c):closureFor scope env=pure (cY env.cells scope.names []):=by
 unfold closureFor
 have all:∀(names:List (Str×NameKind)) (acc:List (Str×Addr)),(∀n,(n,NameKind.free)∈names->∃c,env.cells.lookup n=some c)->
   (forIn names acc (λ(x:Str×NameKind) (cs:List (Str×Addr))=>(match x with|(name,kind)=>if(kind==.free)=true then(do let c <- cellOf env name;pure (ForInStep.yield ((name,c)::cs)))else pure (ForInStep.yield cs):Sem (ForInStep (List (Str×Addr))))))=(pure (cY env.cells names acc):Sem (List (Str×Addr))):=by
  intro names
  induction names with
  |nil=>intro acc _;rfl
  |cons y r ih=>
   intro acc hc
   obtain⟨n,k⟩:=y
   rw[forIn_cons]
   unfold cY
   dsimp only
   by_cases hk:(k==NameKind.free)=true
   ·rw[B3 hk,B3 hk]
    have vg:k=NameKind.free:=by simpa using hk
    obtain⟨c0,e0⟩:=hc n (by rw[vg];exact l7)
    unfold cellOf
    rw[e0]
    exact ih _ λ m hm=>hc m (k4 _ hm)
   ·rw[B4 hk,B4 hk]
    exact ih _ λ m hm=>hc m (k4 _ hm)
 have q:=all scope.names [] hc
 refine Eq.trans ?_ (B1 (λ m=>m >>= pure) q)
 rfl
theorem jM{env:Env}:∀{names:List (Str×NameKind)} {x:Str},names.lookup x=some .free->
  (names.map λ(n,k)=>if(k==NameKind.free&&env.scope.kind==.function&&env.kindOf n==some .cell)then(n,NameKind.cell)else(n,k)).lookup x=some .cell\/
  (names.map λ(n,k)=>if(k==NameKind.free&&env.scope.kind==.function&&env.kindOf n==some .cell)then(n,NameKind.cell)else(n,k)).lookup x=some .free
 |[],_,h=>by simp at h
 |(n,k)::r,x,h=>by
  have ih:=@jM env r x
  rw[z4]
  dsimp only
  cases hx:x==n with
  |true=>
   rw[p9,hx]at h
   have h':k=NameKind.free:=by simpa using h
   subst h'
   split
   ·left;rw[p9,hx]
   ·right;rw[p9,hx]
  |false=>
   rw[p9,hx]at h
   have ih:=ih h
   split
   ·rw[p9,hx];exact ih
   ·rw[p9,hx];exact ih
theorem oK{prog:Program}{w:World}{A:Around}{R:Result->Shared->Prop}{s:Shared}{elt target iter:Expr}{ifs:List Expr}{scope:Scope}{pos:Pos}{it acc:Value}{env:Env}(I:Nat->Shared->Prop)
  (turn:∀n s,I n s->wpAny (model prog w) A (pyNext it) (λ r s1=>match r with
   |none=>R (.ok .next) s1
   |some v=>wpAny (model prog w) A (letOwnedTupleGo target it v) (λ _ s2=>wpAny (model prog w) A (assign target env v) (λ _ s3=>
     wpAny (model prog w) A (forIn ifs true λ c r=>if r=true then do let ok <- isTrue c env (eval c env);pure (ForInStep.yield ok)else pure (ForInStep.yield r)) (λ ok s4=>
      if ok=true then wpAny (model prog w) A (eval elt env) (λ x s5=>
       wpAny (model prog w) A (call (.builtin "list.append") [acc,x]) (λ _ s6=>∃m,m < n/\I m s6) (λ _ _=>False) s5) (λ _ _=>False) s4
      else ∃m,m < n/\I m s4) (λ _ _=>False) s3) (λ _ _=>False) s2) (λ _ _=>False) s1) (λ _ _=>False) s)
  (n:Nat) (h:I n s):
  codeAny (model prog w) A (.compLoop (.ListComp elt [⟨target,iter,ifs,0⟩] scope pos) 0 it acc env) R s:=by
 refine codeAny_loop rfl I (λ n s hI=>?_) n h
 show wpAny _ A ((compTurn (.ListComp elt [⟨target,iter,ifs,0⟩] scope pos) 0 it acc env).onRaise (λ x=>do noteFrame x env;theTreesLotGoes x)) _ _ s
 refine wpAny_noted ?_
 rw[compTurn_list]
 refine wpAny_noRaise (A6 (wpAny_standAt (A6 (A9 (turn n s hI) (λ r s1 h1=>?_) λ _ _ h'=>h'))))
 cases r with
 |none=>exact A7 h1
 |some v=>
  refine A6 (A9 h1 (λ _ s2 h2=>?_) λ _ _ h'=>h')
  refine A6 (A9 h2 (λ _ s3 h3=>A6 (A9 h3 (λ ok s4 h4=>?_) λ _ _ h'=>h')) λ _ _ h'=>h')
  cases ok with
  |false=>exact A7 ⟨rfl,h4⟩
  |true=>
   exact A6 (A6 (A9 h4 (λ x s5 h5=>A6 (A9 h5 (λ _ s6 h6=>A7 (A7 ⟨rfl,h6⟩)) λ _ _ h'=>h')) λ _ _ h'=>h'))
end L2
namespace L2
open PySem PySem.Spec PyProof.Rows
def bg(X:Cx)(scope:Scope)(cl:List (Str×Addr))(tgs:List Str)(fr:List Nat)(C:Addr)(fp:List Addr)(s:Shared)(H:Hp):Cx:=
 {X with N:=tgs++fr.map (λ j=>X.N.getD j ""),s₀:=s,H₀:=H,env:=compEnvC scope cl C X.env,outer:=X.stack,ex:=fp,fn:=λ x=>scope.names.lookup x==some .cell,pn:=[]}
def dF(n:Nat)(fr:List Nat)(σ:St):St:=List.replicate n none++fr.map (λ j=>σ.getD j none)
structure BK(X:Cx)(scope:Scope)(C:Addr)(h1:Heap)(cl:List (Str×Addr)):Prop where
 look:∀x c,cl.lookup x=some c->X.env.cells.lookup x=some c\/(C < c/\h1.IsCell c none)
 inj:∀x y c,cl.lookup x=some c->cl.lookup y=some c->x=y
 has:∀x,(x,NameKind.free)∈scope.names\/(x,NameKind.cell)∈scope.names->∃c,cl.lookup x=some c
 TV:∀x c,scope.names.lookup x=some .free->cl.lookup x=some c->X.env.cells.lookup x=some c
 own:∀x c,scope.names.lookup x=some .cell->cl.lookup x=some c->C < c
structure hX(X:Cx)(scope:Scope)(fr:List Nat):Prop where
 kind:scope.kind=.function
 cells:∀y∈scope.names,y.2=.cell->scope.names.lookup y.1=some .cell
 names:∀y∈scope.names,y.2=.local->scope.names.lookup y.1=some .local
 has:∀n,(n,NameKind.free)∈scope.names->X.env.kindOf n=some .cell\/X.env.kindOf n=some .free
 fr:∀j∈fr,j < X.N.length/\scope.names.lookup (X.N.getD j "")=some .free
def gs(n:Nat)(g:TG):Prop:=∀x σ H Q,g x σ H Q->g x σ H λ σ2 H2=>Q σ2 H2/\σ2.length=σ.length/\∀k,n<=k->σ2[k]?=σ[k]?
theorem oA{n i:Nat}(h:i < n):gs n (cX i):=λ x σ H Q q=>⟨q,by simp,λ k hk=>by rw[getElem?_set_ne (by omega)]⟩
def jq(n:Nat)(g:vH):Prop:=∀xs σ H Q,g xs σ H Q->g xs σ H λ σ2 H2=>Q σ2 H2/\σ2.length=σ.length/\∀k,n<=k->σ2[k]?=σ[k]?
theorem Jq{n:Nat}:jq n xg:=λ xs σ H Q q=>⟨q.1,q.2,rfl,λ _ _=>rfl⟩
def Kn(X:Cx)(ifs:List Expr)(t:TT):Prop:=
 ∀(pins:List (Addr×Obj)) (s:Shared) (σ:St) (H:Hp) (Q:Bool->Hp->Prop),Inv X pins σ H s->t σ H Q->
  wpAny (model X.prog X.w) X.A (forIn ifs true λ c r=>if r=true then do let ok <- isTrue c X.env (eval c X.env);pure (ForInStep.yield ok)else pure (ForInStep.yield r)) (TP X pins σ Q) X.xe s
def Og:TT:=λ _ H Q=>Q true H
theorem Dy{X:Cx}:Kn X [] Og:=λ _ s σ H Q I h=>wpAny_tests_nil ⟨H,I,h⟩
theorem Dx{X:Cx}{c:Expr}{t:TT}(h:PT X c t):Kn X [c] t:=λ pins s σ H Q I q=>wpAny_tests_one (h pins s σ H Q I q)
def jD(wi:TI)(g:TG)(tt:TT)(te:TE)(n:Nat)(fr:List Nat):TE:=λ σ H Q=>wi σ H λ J H1=>∃W:Nat->Nat->List V->Hp->Prop,(∃m,W 0 m [] H1)/\∀i m acc H,W i m acc H->
 acc.length<=sizeLine/\((J.stop i H/\∀p,H p=none->Q (.ref p) (upd H p (.lst acc)))\/
  (J.go i H/\∃N:List V->Hp->Prop,(∀BD H',N BD H'->∃m',m' < m/\W (i+1) m' BD H')/\∀x H',J.BX i H x H'->g x (dF n fr σ) H' λ σ2 H2=>tt σ2 H2 λ b H3=>if b=true then te σ2 H3 λ y H4=>N (acc++[y]) H4 else N acc H3))
theorem fu{env:Env}:∀{names:List (Str×NameKind)} {x:Str} {k0:NameKind},
  (names.map λ(n,k)=>if(k==NameKind.free&&env.scope.kind==.function&&env.kindOf n==some .cell)then(n,NameKind.cell)else(n,k)).lookup x=some k0->(k0=.cell\/k0=.free)->(x,NameKind.free)∈names\/(x,NameKind.cell)∈names
 |[],_,_,h,_=>by simp at h
 |(n,k)::r,x,k0,h,hk=>by
  have ih:=@fu env r x k0
  rw[z4]at h
  dsimp only at h
  cases hx:x==n with
  |true=>
   have xn:x=n:=by simpa using hx
   subst xn
   by_cases Mq:(k==NameKind.free&&env.scope.kind==.function&&env.kindOf x==some .cell)=true
   ·have:k=NameKind.free:=by
     have:=(u4 _ _).mp Mq
     have:=(u4 _ _).mp this.1
     simpa using this.1
    subst this
    exact .inl l7
   ·rw[B4 Mq,p9,hx]at h
    have h':k=k0:=by simpa using h
    subst h'
    rcases hk with e|e
    ·subst e;exact .inr l7
    ·subst e;exact .inl l7
  |false=>
   have z:(x,NameKind.free)∈r\/(x,NameKind.cell)∈r:=by
    refine ih ?_ hk
    split at h
    ·rw[p9,hx]at h;exact h
    ·rw[p9,hx]at h;exact h
   exact z.imp (k4 _) (k4 _)
theorem fM{x n:Str}{a:Addr}{acc:List (Str×Addr)}{c:Addr}(h:((n,a)::acc).lookup x=some c):(x=n/\c=a)\/(x≠n/\acc.lookup x=some c):=by
 rw[p9]at h
 cases e:x==n with
 |true=>rw[e]at h;exact .inl ⟨by simpa using e,(w9 h).symm⟩
 |false=>rw[e]at h;exact .inr ⟨by simpa using e,h⟩
set_option tactic.hygienic true in
theorem oM:∀(names:List (Str×NameKind)) (h:Heap) (acc:List (Str×Addr)) (x:Str) (c:Addr),(cellsFrom h.objs.size names acc).lookup x=some c->acc.lookup x=some c\/(h.objs.size<=c/\(pushCells h names).IsCell c none)
 |[],_,_,_,_,e=>.inl e
 |(n,k)::r,h,acc,x,c,e=>by
  unfold cellsFrom at e
  unfold pushCells
  split at e
  ·rename_i hk
   rw[B3 hk]
   have sz:=y4 h {cls:=.type "cell",data:=.cell none}
   rw[<- sz]at e
   rcases oM r _ _ x c e with z|z
   ·rcases fM z with⟨_,q⟩|⟨_,q⟩
    ·subst q
     exact .inr ⟨A2 _,_,pushCells_keeps r _ _ _ (l6 _ rfl),rfl⟩
    ·exact .inl q
   ·exact .inr ⟨by have:=z.1;rw[sz]at this;omega,z.2⟩
  ·rename_i hk
   rw[B4 hk]
   exact oM r h acc x c e
theorem tP:∀(names:List (Str×NameKind)) (n:Nat) (acc:List (Str×Addr)),(∀x c,acc.lookup x=some c->c < n)->(∀x y c,acc.lookup x=some c->acc.lookup y=some c->x=y)->∀x y c,(cellsFrom n names acc).lookup x=some c->(cellsFrom n names acc).lookup y=some c->x=y
 |[],_,_,_,hi=>hi
 |(m,k)::r,n,acc,lt,hi=>by
  unfold cellsFrom
  split
  ·refine tP r (n+1) _ (λ x c e=>?_) (λ x y c e1 e2=>?_)
   ·rcases fM e with⟨_,q⟩|⟨_,q⟩
    ·rw[q];exact Nat.lt_succ_self n
    ·exact Nat.lt_succ_of_lt (lt x c q)
   ·rcases fM e1 with⟨a1,q1⟩|⟨a1,q1⟩ <;> rcases fM e2 with⟨a2,q2⟩|⟨a2,q2⟩
    ·rw[a1,a2]
    ·exact absurd (q1▸lt y c q2) (z0 _)
    ·exact absurd (q2▸lt x c q1) (z0 _)
    ·exact hi x y c q1 q2
  ·exact tP r n acc lt hi
theorem jn{x:Str}:∀(names:List (Str×NameKind)) (n:Nat) (acc:List (Str×Addr)),(∃c,acc.lookup x=some c)->∃c,(cellsFrom n names acc).lookup x=some c
 |[],_,_,h=>h
 |(m,k)::r,n,acc,⟨c,h⟩=>by
  unfold cellsFrom
  split
  ·refine jn r _ _ ?_
   rw[p9]
   cases x==m with
   |true=>exact⟨_,rfl⟩
   |false=>exact⟨c,h⟩
  ·exact jn r n acc ⟨c,h⟩
theorem tQ{x:Str}:∀(names:List (Str×NameKind)) (n:Nat) (acc:List (Str×Addr)),(x,NameKind.cell)∈names->∃c,(cellsFrom n names acc).lookup x=some c
 |[],_,_,h=>absurd h (by simp)
 |(m,k)::r,n,acc,h=>by
  unfold cellsFrom
  rcases z5.mp h with e|h
  ·cases e
   rw[B3 (by decide)]
   exact jn r _ _ ⟨n,by rw[p9];simp⟩
  ·split
   ·exact tQ r _ _ h
   ·exact tQ r _ _ h
set_option tactic.hygienic true in
theorem tR{x:Str}:∀(names:List (Str×NameKind)) (n:Nat) (acc:List (Str×Addr)),(x,NameKind.cell)∉names->(cellsFrom n names acc).lookup x=acc.lookup x
 |[],_,_,_=>rfl
 |(m,k)::r,n,acc,h=>by
  unfold cellsFrom
  split
  ·rename_i hk
   rw[tR r _ _ λ z=>h (k4 _ z),p9]
   cases e:x==m with
   |false=>rfl
   |true=>
    have e1:x=m:=by simpa using e
    have e2:k=.cell:=by simpa using hk
    subst e1 e2
    exact absurd l7 h
  ·exact tR r n acc λ z=>h (k4 _ z)
set_option tactic.hygienic true in
theorem tO{x:Str}{lo:Nat}:∀(names:List (Str×NameKind)) (n:Nat) (acc:List (Str×Addr)),lo<=n->((x,NameKind.cell)∈names\/∀c,acc.lookup x=some c->lo<=c)->∀c,(cellsFrom n names acc).lookup x=some c->lo<=c
 |[],_,_,_,h,c,e=>by
  rcases h with h|h
  ·cases h
  ·exact h c e
 |(m,k)::r,n,acc,hn,h,c,e=>by
  unfold cellsFrom at e
  split at e
  ·refine tO r (n+1) _ (by omega) ?_ c e
   rcases h with h|h
   ·rcases z5.mp h with q|q
    ·cases q
     exact .inr λ c e=>by
      rcases fM e with⟨_,z⟩|⟨z,_⟩
      ·rw[z];exact hn
      ·exact absurd rfl z
    ·exact .inl q
   ·exact .inr λ c e=>by
     rcases fM e with⟨_,z⟩|⟨_,z⟩
     ·rw[z];exact hn
     ·exact h c z
  ·rename_i hk
   refine tO r n acc hn ?_ c e
   rcases h with h|h
   ·rcases z5.mp h with q|q
    ·cases q;exact absurd rfl hk
    ·exact .inl q
   ·exact .inr h
section
variable {M:Model}{A:Around}{E:Value->Shared->Prop}{s:Shared}
theorem wK{scope:Scope}{globals:Addr}{closure:List (Str×Addr)}{qual:Str}{func:Option Addr}{code:Value}{env:Env}{builtins:Addr}{Q:Env->Shared->Prop}
  (hQ:Q (newEnv scope s.heap.objs.size globals (cellsFrom (s.heap.objs.size+1) scope.names closure) qual func code (some env) builtins) {s with heap:=pushCells (s.heap.push {cls:=.type "dict",data:=.dict #[]}) scope.names}):
  wpAny M A (newFunctionEnv scope globals closure [] qual func code (some env) builtins) Q E s:=by
 simp only[newFunctionEnv,Option.isSome_some,if_true]
 refine A6 (wpAny_alloc ?_)
 refine A6 (wpAny_layCells _ (λ name kind cells=>by cases Ta:kind==NameKind.cell <;> simp[Ta]) _ _ _ _ ?_)
 rw[show({s with heap:=s.heap.push {cls:=.type "dict",data:=.dict #[]}}:Shared).heap.objs.size=s.heap.objs.size+1 from y4 ..]
 exact A6 (A7 (A7 hQ))
end
section
variable {X:Cx}{scope:Scope}{tgs:List Str}{fr:List Nat}
theorem JG{pins:List (Addr×Obj)}{σ:St}{H:Hp}{s:Shared}{fp:List Addr}{C:Addr}{h1:Heap}{cl:List (Str×Addr)}(B:hX X scope fr)(L:BK X scope C h1 cl)(I:Inv X pins σ H s)(hC:s.heap.objs.size<=C)(f:∀b∈fp,gu X pins H b)(BQ:∀b∈fp,b < s.heap.objs.size):
  (bg X scope cl tgs fr C fp s H).Ok:=by
 refine⟨I.ok.mod,B.kind,I.ok.glob,I.ok.blt,hC,L.inj,λ x hx=>?_,λ x c h e=>?_,I.ok.hd,I.ok.frames,.inl rfl,λ b hb=>⟨z7 (m8 (BQ b hb) hC),λ x c e=>?_⟩,
  I.bs,A1 I.ok.xR I.sz,λ b o e hb=>?_,λ b hb hs=>?_,I.stack,I.jc⟩
 ·rcases hx with hx|hx
  ·exact L.has x (fu hx (.inl rfl))
  ·exact L.has x (fu hx (.inr rfl))
 ·exact A1 hC (Nat.le_of_lt (L.own x c (by simpa[bg]using h) e))
 ·rcases L.look x c e with z|z
  ·exact(f b hb).2.2.2.2.1 x c z
  ·exact λ q=>absurd (m7 hC z.1) (Nat.not_lt.mpr (Nat.le_of_lt (q▸BQ b hb)))
 ·rcases(f b hb).2.2.2.1 with z|z
  ·exact I.ok.sS b o e z
  ·exact absurd (m8 (z8 e) (A1 I.ok.xR z)) (z0 _)
 ·rcases z5.mp (I.nj b hs)with z|z
  ·exact(f b hb).2.1 z
  ·exact(f b hb).2.2.1 z
theorem Fg{pins:List (Addr×Obj)}{σ:St}{H:Hp}{s s1:Shared}{fp:List Addr}{C:Addr}{m:Str->Option Value}{cl:List (Str×Addr)}(B:hX X scope fr)(L:BK X scope C s1.heap cl)(I:Inv X pins σ H s)(hC:s.heap.objs.size<=C)(f:∀b∈fp,gu X pins H b)(BQ:∀b∈fp,b < s.heap.objs.size)
  (ho:s1.os=s.os) (hg:AllBare s1.gens) (hk:∀b o,s.heap.get? b=some o->s1.heap.get? b=some o) (hn:s1.heap.Ns C m):
  Inv (bg X scope cl tgs fr C fp s H) [] (dF tgs.length fr σ) H s1:=by
 refine⟨JG B L I hC f BQ,ho,hg,Un.kept hk,⟨m,hn,λ i x v e1 e2 e3=>?_⟩,λ x c e=>?_,I.aL.fresh hC,λ x c e=>?_,λ p hp=>absurd hp (by simp[bg]),I.aL.kept hk,by simp[dF,bg]⟩
 ·-- a free name:ah Qr value
  have e1:(tgs++fr.map (λ j=>X.N.getD j ""))[i]?=some x:=e1
  have hi:tgs.length<=i:=by
   refine q8 λ fX=>?_
   unfold dF at e2
   rw[c8 (by simpa using fX),i8,B3 fX]at e2
   cases e2
  unfold dF at e2
  rw[c6 (by simpa using hi),j8,n4]at e2
  rw[c6 hi,n4]at e1
  cases ej:fr[i - tgs.length]? with
  |none=>rw[ej]at e1;cases e1
  |some j=>
   rw[ej]at e1 e2
   have Jt:X.N.getD j ""=x:=w9 e1
   have NV:σ.getD j none=some v:=w9 e2
   obtain⟨hj,hl⟩:=B.fr j (k7 ej)
   have hN:X.N[j]?=some x:=by
    rw[c7,i5 hj]at Jt
    rw[i5 hj]
    exact B1 some Jt
   have hs:σ[j]?=some (some v):=by
    have Rl:j < σ.length:=by rw[I.len];exact hj
    rw[c7,i5 Rl]at NV
    rw[i5 Rl]
    exact B1 some NV
   rw[Jt]at hl
   obtain⟨m0,Az,S_⟩:=I.loc
   have AA:(x,NameKind.free)∈scope.names:=l3 hl
   have kinds:=B.has x AA
   obtain⟨u,ru,lu⟩:=S_ j x v hN hs (by rcases kinds with z|z;exact .inr (.inl z);exact .inr (.inr z))
   refine⟨u,ru,.inr ⟨jM hl,?_⟩⟩
   obtain⟨c,hc⟩:=L.has x (.inl AA)
   refine⟨c,hc,?_⟩
   rcases lu with⟨kl,_⟩|⟨_,c',xa,z⟩
   ·rcases kinds with z|z <;> (rw[z]at kl;cases kl)
   ·have:c=c':=by
     have:=L.TV x c hl hc
     rw[this]at xa
     exact w9 xa
    subst this
    obtain⟨o,ho,hd⟩:=z
    exact⟨o,hk _ _ ho,hd⟩
 ·rcases L.look x c e with z|z
  ·obtain⟨v,o,oq,hd⟩:=I.cell x c z
   exact⟨v,o,hk _ _ oq,hd⟩
  ·exact⟨none,z.2⟩
 ·rcases L.look x c e with z|z
  ·exact I.dz x c z
  ·exact I.aL.fresh (A1 hC (Nat.le_of_lt z.1))
theorem JH{pins:List (Addr×Obj)}{σ:St}{H:Hp}{s:Shared}{h2:Heap}(B:hX X scope fr)(I:Inv X pins σ H s)(hs:s.heap.objs.size<=h2.objs.size):
  BK X scope h2.objs.size (pushCells (h2.push {cls:=.type "dict",data:=.dict #[]}) scope.names) (cellsFrom (h2.objs.size+1) scope.names (cY X.env.cells scope.names [])):=by
 have look:∀x c,(cY X.env.cells scope.names []).lookup x=some c->X.env.cells.lookup x=some c:=
  gm scope.names [] (λ n hn=>I.ok.has n (B.has n hn)) λ x c e=>by simp at e
 have sz:=y4 h2 {cls:=.type "dict",data:=.dict #[]}
 refine⟨λ x c e=>?_,tP _ _ _ (λ x c e=>?_) (λ x y c e1 e2=>I.ok.inj x y c (look x c e1) (look y c e2)),λ x h=>?_,λ x c h e=>?_,λ x c h e=>?_⟩
 ·rw[<- sz]at e
  rcases oM _ _ _ x c e with z|z
  ·exact .inl (look x c z)
  ·exact .inr ⟨m8 (by rw[sz];exact Nat.lt_succ_self _) z.1,z.2⟩
 ·obtain⟨v,hv⟩:=I.cell x c (look x c e)
  exact Nat.lt_succ_of_lt (m8 hv.lt hs)
 ·rcases h with h|h
  ·exact jn _ _ _ (Option.isSome_iff_exists.mp (ix scope.names [] h))
  ·exact tQ _ _ _ h
 ·rw[tR _ _ _ λ z=>by have:=B.cells _ z rfl;rw[h]at this;cases this]at e
  exact look x c e
 ·exact tO (lo:=h2.objs.size+1) _ _ _ (A2 _) (.inl (l3 h)) c e
end
end L2
namespace L2
open PySem PySem.Spec PyProof.Rows
section
variable {X:Cx}{scope:Scope}{tgs:List Str}{fr:List Nat}{tg elt iter:Expr}{ifs:List Expr}{pos:Pos}{wi:TI}{g:TG}{tt:TT}{te:TE}
theorem toF{α:Type}{M:Model}{A:Around}{E:Value->Shared->Prop}{s:Shared}{t:Sem α}{Q Q':α->Shared->Prop}(hE:∀e s,E e s->False)(h:wpAny M A t Q E s)(hQ:∀a s,Q a s->Q' a s):wpAny M A t Q' (λ _ _=>False) s:=
 A9 h hQ hE
theorem mG{pins:List (Addr×Obj)}{σ:St}{H:Hp}{s:Shared}{R:Value->Addr->Result->Shared->Prop}{E:Value->Shared->Prop}{J:It}{fp:List Addr}{it:Addr}{tn:Nat->Heap->Prop}{Qe:List V->Hp->Prop}
  (B:hX X scope fr) (hc:X.calm=true) (hE:∀e s,X.xe e s->False)
  (hg:∀cl C fp s H,PG (bg X scope cl tgs fr C fp s H) tg g) (gk:gs tgs.length g)
  (ht:∀cl C fp s H,Kn (bg X scope cl tgs fr C fp s H) ifs tt)
  (he:∀cl C fp s H,PE (bg X scope cl tgs fr C fp s H) elt te)
  (I:Inv X pins σ H s) (T:Turn X.prog X.w X.K tg J fp it tn) (st:tn 0 s.heap) (f:∀b∈fp,gu X pins H b)
  (W:Nat->Nat->List V->Hp->Prop) (m0:Nat) (w0:W 0 m0 [] H)
  (turn:∀i m acc H,W i m acc H->acc.length<=sizeLine/\((J.stop i H/\Qe acc H)\/(J.go i H/\∃N:List V->Hp->Prop,(∀BD H',N BD H'->∃m',m' < m/\W (i+1) m' BD H')/\∀x H',J.BX i H x H'->g x (dF tgs.length fr σ) H' λ σ2 H2=>tt σ2 H2 λ b H3=>
   if b=true then te σ2 H3 λ y H4=>N (acc++[y]) H4 else N acc H3)))
  (fin:∀(D C:Addr) (s1:Shared) (H1:Hp) (acc:List V) (ah:List Value),s.heap.objs.size<=D->s.heap.objs.size<=C->D≠C->Inv X pins σ H1 s1->H1 C=none->H1 D=none->(∃m,s1.heap.Ns C m)->
   s1.heap.PlainList D ah.toArray->Vals acc ah->acc.length<=sizeLine->Qe acc H1->R (.ref D) C (.ok .next) s1):
  wpAny (model X.prog X.w) X.A (newList []) (λ acc s3=>wpAny (model X.prog X.w) X.A (newFunctionEnv scope X.env.globals (cY X.env.cells scope.names []) [] X.env.qual none .none (some X.env)) (λ MP s4=>
   codeAny (model X.prog X.w) X.A (.compStart (.ListComp elt [⟨tg,iter,ifs,0⟩] scope pos) 0 (.ref it) acc {MP with scope:=relabel scope X.env}) (R acc MP.locals) s4) E s3) E s:=by
 have BQ:∀b∈fp,b < s.heap.objs.size:=λ b hb=>by obtain⟨o,e,_⟩:=T.obj 0 _ st b hb;exact z8 e
 refine n9 (wK ?_)
 dsimp only
 generalize PY:s.heap.push {cls:=.type "list",dict:=none,data:=.seq ([]:List Value).toArray}=H2
 have hC:H2.objs.size=s.heap.objs.size+1:=by rw[<- PY,y4]
 have L0:=JH (h2:=H2) B I (by omega)
 have L8:(pushCells (H2.push {cls:=.type "dict",data:=.dict #[]}) scope.names).Ns H2.objs.size (λ _=>none):=(Heap.Ns.new H2 (.type "dict")).keeps (pushCells_keeps _ _)
 have O9:∀b o,H2.get? b=some o->(pushCells (H2.push {cls:=.type "dict",data:=.dict #[]}) scope.names).get? b=some o:=λ b o e=>pushCells_keeps _ _ b o (j2 _ e)
 generalize pushCells (H2.push {cls:=.type "dict",data:=.dict #[]}) scope.names=h1 at L0 L8 O9 ⊢
 have Jo:s.heap.objs.size≠H2.objs.size:=by omega
 have EL:s.heap.objs.size<=H2.objs.size:=by omega
 have below:∀b,b < s.heap.objs.size->b≠H2.objs.size/\b≠s.heap.objs.size:=λ b hb=>⟨by omega,by omega⟩
 have old:∀b o,s.heap.get? b=some o->h1.get? b=some o:=λ b o e=>O9 b o (PY▸j2 _ e)
 have AK:h1.PlainList s.heap.objs.size #[]:=⟨_,O9 _ _ (PY▸l6 _ rfl)⟩
 have QZ:tn 0 h1:=T.keep _ _ _ st λ b _ o e=>old b o e
 have O4:∀x c,(cellsFrom (H2.objs.size+1) scope.names (cY X.env.cells scope.names [])).lookup x=some c->X.env.cells.lookup x=some c\/H2.objs.size < c:=λ x c e=>(L0.look x c e).imp id λ z=>z.1
 generalize cellsFrom (H2.objs.size+1) scope.names (cY X.env.cells scope.names [])=cl at L0 O4 ⊢
 generalize Va:H2.objs.size=C at*
 generalize Mw:s.heap.objs.size=D at*
 have TC:∀b,b < D->b < s.heap.objs.size:=λ b hb=>by rw[Mw];exact hb
 have fD:=I.iX (b:=D) (H':=H) (Nat.le_of_eq Mw) (I.aL.fresh (Nat.le_of_eq Mw))
 have Fy:∀b,b≠X.env.locals->b∉X.fs->b∉gf X.stack:=λ b h1 h2 hb=>(z5.mp (I.nj b hb)).elim h1 h2
 have EI:∀b∈fp,b∉gf X.stack:=λ b hb=>Fy b (f b hb).2.1 (f b hb).2.2.1
 have Uy:∀x c,cl.lookup x=some c->c≠D:=λ x c e=>(O4 x c e).elim (fD.2.2.2.2.1 x c) λ z q=>absurd (m7 EL (q▸z)) (z0 _)
 have loop:∀s3:Shared,s3={s with heap:=h1}->
   codeAny (model X.prog X.w) X.A (.compLoop (.ListComp elt [⟨tg,iter,ifs,0⟩] scope pos) 0 (.ref it) (.ref D) (compEnvC scope cl C X.env)) (R (.ref D) C) s3:=by
  rintro s3 rfl
  have UP:Inv (bg X scope cl tgs fr C fp s H) [] (dF tgs.length fr σ) H {s with heap:=h1}:=
   Fg B L0 I (by rw[Mw];exact EL) f (λ b hb=>TC b (BQ b hb)) rfl I.bare old L8
  refine oK (λ n s'=>∃(i:Nat) (acc:List V) (ah:List Value) (H':Hp),Inv (bg X scope cl tgs fr C fp s H) [] (dF tgs.length fr σ) H' s'/\tn i s'.heap/\(∀b∈fp,H' b=none)/\H' D=none/\
   s'.heap.PlainList D ah.toArray/\Vals acc ah/\W i n acc H') ?_ m0 ⟨0,[],[],H,UP,QZ,λ b hb=>(f b hb).1,fD.1,AK,.nil,w0⟩
  rintro n s3 ⟨i,acc,ah,H3,I3,KH,Mx,TF,⟨nl,Ay⟩,Nv,w3⟩
  obtain⟨hz,h⟩:=turn i n acc H3 w3
  have RJ:Inv (bg X scope cl tgs fr C fp s H) [(D,{cls:=.type "list",data:=.seq ah.toArray nl})] (dF tgs.length fr σ) H3 s3:=I3.cZ λ p hp=>by
   have e:p=(D,{cls:=.type "list",data:=.seq ah.toArray nl}):=by simpa using hp
   subst e
   exact⟨Ay,TF,Jo,Fy D fD.2.1 fD.2.2.1,λ v e=>by cases e⟩
  have fY:∀{H':Hp},(∀b∈fp,H' b=none)->∀b∈fp,gu (bg X scope cl tgs fr C fp s H) [(D,{cls:=.type "list",data:=.seq ah.toArray nl})] H' b:=λ hn b hb=>
   ⟨hn b hb,(below b (BQ b hb)).1,EI b hb,.inl hb,λ x c e=>(O4 x c e).elim ((f b hb).2.2.2.2.1 x c) λ z q=>absurd (m8 (BQ b hb) (A1 EL (Nat.le_of_lt (q▸z)))) (z0 _),λ p hp=>by
    have e:p=(D,{cls:=.type "list",data:=.seq ah.toArray nl}):=by simpa[bg]using hp
    subst e
    exact B2 (below b (BQ b hb)).2⟩
  rcases h with⟨stop,q⟩|⟨go,N,hN,step⟩
  ·refine cg (T.done (bg X scope cl tgs fr C fp s H) rfl rfl rfl hc i _ s3 _ H3 _ RJ (fY Mx) KH stop) λ r s4 ⟨hr,I4⟩=>?_
   subst hr
   have pD:=I4.pin (D,{cls:=.type "list",data:=.seq ah.toArray nl}) (by simp)
   have IX:Inv X pins σ H3 s4:=I.rh (ch:=fp) I4.os I4.base I4.aL I4.bare λ b hb=>⟨(f b hb).2.2.2.1,(f b hb).2.1,(f b hb).2.2.2.2.1,(f b hb).2.2.2.2.2⟩
   obtain⟨m4,SW,_⟩:=I4.loc
   exact fin D C s4 H3 acc ah (A2 _) EL Jo IX I4.free pD.2.1 ⟨m4,SW⟩ ⟨nl,pD.1⟩ Nv hz q
  ·refine cg (T.item (bg X scope cl tgs fr C fp s H) rfl rfl rfl hc i _ s3 _ H3 _ RJ (fY Mx) KH go) λ r s4 ⟨u,hr,h4⟩=>?_
   subst hr
   refine cg h4 λ _ s5 ⟨x,H5,I5,r5,y5,Cf,Qf⟩=>?_
   have QP:=I5.pinned (fY Qf) (T.obj _ _ Cf)
   refine toF hE (hg _ _ _ _ _ _ s5 _ H5 x u _ QP r5 (gk x _ H5 _ (step x H5 y5))) λ _ s6 ⟨σ6,H6,I6,q6,O6,k6⟩=>?_
   refine toF hE (ht _ _ _ _ _ _ s6 σ6 H6 _ I6 q6) λ ok s7 ⟨H7,I7,q7⟩=>?_
   have wk:∀{H':Hp} {s':Shared} {pl:List (Addr×Obj)},Inv (bg X scope cl tgs fr C fp s H) pl σ6 H' s'->Inv (bg X scope cl tgs fr C fp s H) pl (dF tgs.length fr σ) H' s':=λ J=>
    J.weak O6.symm λ k v e=>by
     by_cases hk:tgs.length<=k
     ·rw[k6 k hk];exact e
     ·unfold dF at e
      rw[c8 (by simpa using hk),i8,B3 (by omega)]at e
      cases e
   cases ok with
   |false=>
    simp only[m5,B0]at q7 ⊢
    obtain⟨m',hm,w7⟩:=hN _ _ q7
    have pD:=I7.pin (D,{cls:=.type "list",data:=.seq ah.toArray nl}) (by simp)
    refine⟨m',hm,i+1,acc,ah,H7,wk (I7.cZ (pins':=[]) λ p hp=>absurd hp (by simp)),T.keep _ _ _ Cf λ b hb o e=>(I7.pin (b,o) (j5 _ (j5 _ (cL hb e)))).1,λ b hb=>?_,pD.2.1,⟨nl,pD.1⟩,Nv,w7⟩
    obtain⟨o,e,d⟩:=T.obj _ _ Cf b hb
    exact(I7.pin (b,o) (j5 _ (j5 _ (cL hb e)))).2.1
   |true=>
    simp only[if_true]at q7 ⊢
    refine toF hE (he _ _ _ _ _ _ s7 σ6 H7 _ I7 q7) λ uy s8 ⟨y,H8,I8,r8,n8⟩=>?_
    obtain⟨m',hm,w8⟩:=hN _ _ n8
    have pD:=I8.pin (D,{cls:=.type "list",data:=.seq ah.toArray nl}) (by simp)
    have hits:ah.toArray.size<=sizeLine:=by
     have:=Nv.length
     simp only[p7]
     omega
    refine wpAny_list_append_plain (hsz:=hits) (show s8.heap.PlainList D ah.toArray from⟨nl,pD.1⟩) λ h9 S8 Rc=>?_
    have I9:Inv (bg X scope cl tgs fr C fp s H) [] σ6 H8 {s8 with heap:=h9,toks:=s8.toks}:=
     (I8.cZ (pins':=[]) λ p hp=>absurd hp (by simp)).turned (it:=D) (λ b o hb e=>Rc.extBut b o hb e) pD.2.1 Jo (.inr (Nat.le_of_eq Mw)) Uy λ p hp=>absurd hp (by simp[bg])
    refine⟨m',hm,i+1,acc++[y],ah++[uy],H8,wk I9,T.keep _ _ _ Cf λ b hb o e=>Rc.extBut b o (below b (BQ b hb)).2 (I8.pin (b,o) (j5 _ (j5 _ (cL hb e)))).1,λ b hb=>?_,pD.2.1,?_,Nv.append (.cons r8 .nil),w8⟩
    ·obtain⟨o,e,d⟩:=T.obj _ _ Cf b hb
     exact(I8.pin (b,o) (j5 _ (j5 _ (cL hb e)))).2.1
    ·have e:(ah++[uy]).toArray=ah.toArray.push uy:=by simp
     rw[e];exact S8
 exact codeAny_compStart_list (loop _ rfl) (T.self _ 0 _ _ _ QZ (loop _ rfl))
theorem gJ(B:hX X scope fr)(hc:X.calm=true)(hE:∀e s,X.xe e s->False)(hi:PI X tg iter wi)
  (hg:∀cl C fp s H,PG (bg X scope cl tgs fr C fp s H) tg g) (gk:gs tgs.length g)
  (ht:∀cl C fp s H,Kn (bg X scope cl tgs fr C fp s H) ifs tt)
  (he:∀cl C fp s H,PE (bg X scope cl tgs fr C fp s H) elt te)
  (hs:∀x,foldedSetIterable iter X.env x=pure x:=by intro _;rfl):PE X (.ListComp elt [⟨tg,iter,ifs,0⟩] scope pos) (jD wi g tt te tgs.length fr):=by
 intro pins s σ H Q I h
 rw[eval_ListComp]
 have FZ:=dY (scope:=scope) (env:=X.env) λ n hn=>I.ok.has n (B.has n hn)
 refine wpAny_comprehension_free (use:=none) rfl hs FZ B.kind B.names (A9 (hi pins s σ H _ I h) (λ xv s1 h1=>A9 h1 (λ NF s2 h2=>?_) λ _ _ e=>e) λ _ _ e=>e)
 obtain⟨it,fp,tn,J,H2,rfl,I2,T,KI,f2,W,⟨m0,w0⟩,turn⟩:=h2
 refine mG (R:=λ acc C=>compPost (model X.prog X.w) X.A X.xe none (EP X pins σ Q) acc C) (Qe:=λ acc H=>∀p,H p=none->Q (.ref p) (upd H p (.lst acc))) B hc hE hg gk ht he I2 T KI f2 W m0 w0 turn ?_
 intro D C s1 H1 acc ah hD hC Jo I1 nC nD ⟨m,hn⟩ hl rv hz q
 refine⟨m,hn,λ h' cI=>?_⟩
 have fC:=I2.iX (b:=C) (H':=H1) hC nC
 have fD:=I2.iX (b:=D) (H':=H1) hD nD
 have I3:Inv X pins σ H1 {s1 with heap:=h',toks:=s1.toks}:=I1.turned (it:=C) (λ b o hb e=>cI.extBut b o hb e) nC fC.2.1 fC.2.2.2.1 fC.2.2.2.2.1 fC.2.2.2.2.2
 obtain⟨k,e⟩:=hl.extBut cI.extBut Jo
 exact⟨.ref D,upd H1 D (.lst acc),I3.ue nD ⟨hz,ah,k,rv,e⟩ fD.2.1 (A1 I2.sz hD) fD.2.2.2.2.1 fD.2.2.2.2.2,rfl,q D nD⟩
theorem sG{i:Nat}{y:Str}{py fm:Pos}(hN:X.N.Nodup)(hiy:X.N[i]?=some y)(hy:Loc X.env.scope y)(B:hX X scope fr)(hc:X.calm=true)(hE:∀e s,X.xe e s->False)(hi:PI X tg iter wi)
  (hg:∀cl C fp s H,PG (bg X scope cl tgs fr C fp s H) tg g) (gk:gs tgs.length g)
  (ht:∀cl C fp s H,Kn (bg X scope cl tgs fr C fp s H) ifs tt)
  (he:∀cl C fp s H,PE (bg X scope cl tgs fr C fp s H) elt te)
  (hsw:swapsWith (.ListComp elt [⟨tg,iter,ifs,0⟩] scope pos) (some (.Name y py)) fm.line X.env=pure true:=by rfl)
  (hf:X.fn y=true\/X.env.scope.names.lookup y=some .local:=by first|exact .inl rfl|exact .inr rfl|assumption)
  (hs:∀x,foldedSetIterable iter X.env x=pure x:=by intro _;rfl):PS X (.Assign [.Name y py] (.ListComp elt [⟨tg,iter,ifs,0⟩] scope pos) fm) (yg (jD wi g tt te tgs.length fr) (cX i)):=by
 intro pins s σ H D0 I h
 rw[exec_Assign_Name_used _ _ _ _ hsw]
 have FZ:=dY (scope:=scope) (env:=X.env) λ n hn=>I.ok.has n (B.has n hn)
 refine A6 (wpAny_standAt (A6 ?_))
 show wpAny _ X.A (do let _ <- comprehension (.ListComp elt [⟨tg,iter,ifs,0⟩] scope pos) scope X.env _ (newList []) false (eval iter X.env) (some (assign (.Name y py) X.env))) _ _ s
 refine A6 (A9 (wpAny_comprehension_free (use:=some (assign (.Name y py) X.env)) (Q:=λ _ s'=>SP X pins D0 .next s') rfl hs FZ B.kind B.names
  (A9 (hi pins s σ H _ I h) (λ xv s1 h1=>A9 h1 (λ NF s2 h2=>?_) λ _ _ e=>e) λ _ _ e=>e)) (λ _ s' hq=>A7 (A7 hq)) λ _ _ e=>e)
 obtain⟨it,fp,tn,J,H2,rfl,I2,T,KI,f2,W,⟨m0,w0⟩,turn⟩:=h2
 refine mG (R:=λ acc C=>compPost (model X.prog X.w) X.A X.xe (some (assign (.Name y py) X.env)) (λ _ s'=>SP X pins D0 .next s') acc C) (Qe:=λ acc H=>∀p,H p=none->cX i (.ref p) σ (upd H p (.lst acc)) D0.nx) B hc hE hg gk ht he I2 T KI f2 W m0 w0 turn ?_
 intro D C s1 H1 acc ah hD hC Jo I1 nC nD ⟨m,hn⟩ hl rv hz q
 have fC:=I2.iX (b:=C) (H':=H1) hC nC
 have fD:=I2.iX (b:=D) (H':=H1) hD nD
 obtain⟨k,e⟩:=hl
 have I3:Inv X pins σ (upd H1 D (.lst acc)) s1:=I1.ue nD ⟨hz,ah,k,rv,e⟩ fD.2.1 (A1 I2.sz hD) fD.2.2.2.2.1 fD.2.2.2.2.2
 show wpAny _ X.A (assign (.Name y py) X.env (.ref D)) _ _ s1
 refine wpAny_assign_Name (lQ I3 hN hiy hy (show RelV (.ref D) (.ref D)from rfl) (λ s2 J2 ⟨a,SI,ha⟩=>?_) hf)
 have aC:C≠a:=by
  rcases ha with z|z
  ·rw[z];exact fC.2.1
  ·exact B2 (fC.2.2.2.2.1 _ _ z)
 refine⟨m,hn.sameBut SI aC,λ h' cI=>?_⟩
 have Si:(upd H1 D (.lst acc)) C=none:=by rw[av (B2 Jo)];exact nC
 have I4:Inv X pins (σ.set i (some (.ref D))) (upd H1 D (.lst acc)) {s2 with heap:=h',toks:=s2.toks}:=J2.turned (it:=C) (λ b o hb e=>cI.extBut b o hb e) Si fC.2.1 fC.2.2.2.1 fC.2.2.2.2.1 fC.2.2.2.2.2
 exact⟨_,_,I4,q D nD⟩
end
end L2
namespace L2
open PySem PySem.Spec PyProof.Rows
def lx(x:Str)(lo hi:Option Int):Str:=⟨((x.cps.toList.drop (HT.bS x.length 0 lo)).take (HT.bS x.length x.length hi - HT.bS x.length 0 lo)).toArray⟩
theorem yi(lo hi:Option Int)(n:Nat):Builtin.Str.strSliceIndices lo hi 1 n=sliceRange ((HT.bS n 0 lo:Nat):Int) ((HT.bS n n hi:Nat):Int) 1:=by
 obtain⟨h1,h2,h3⟩:=gE lo hi n
 rw[<- h1,<- h2]
 rfl
set_option tactic.hygienic true in
theorem v_(x:Str)(lo hi:Option Int):Txt.slice x lo hi=lx x lo hi:=by
 have e:((Builtin.Str.strSliceIndices lo hi 1 x.length).filterMap (x.cps[·]?)).toArray=(lx x lo hi).cps:=by
  rw[yi,sliceRange_one,pick_run]
  rfl
 unfold Txt.slice
 split
 ·rename_i h
  have hl:(Builtin.Str.strSliceIndices lo hi 1 x.length).length=x.length:=by simpa using h
  rw[yi,sliceRange_one,x8,p5]at hl
  have b1:=HT.sj x.length 0 (A4 _) lo
  have b2:=HT.sj x.length x.length (A2 _) hi
  have hlen:x.cps.toList.length=x.length:=by simp[Str.length]
  unfold lx
  by_cases h0:x.length=0
  ·have:x.cps.toList=[]:=j0.mp (by omega)
   rw[this]
   cases x with
   |mk c=>simp at this;subst this;simp
  ·have ea:HT.bS x.length 0 lo=0:=by omega
   have eb:HT.bS x.length x.length hi=x.length:=by omega
   rw[ea,eb,drop_zero,Nat.sub_zero,take_of_length_le (by omega)]
 ·exact B1 Str.mk e
section
variable {X:Cx}
def OC:V->Option Int->Option Int->Hp->VK->Prop:=λ x lo hi H Q=>∃z,x=.str z/\z.length<=sizeLine/\Q (.str (lx z lo hi)) H
theorem tf{h:Heap}{sl:Addr}{vl vu:Value}{lo hi:Option Int}(hs:h.IsSliceOf sl vl vu .none)(pl:IsPart vl lo)(pu:IsPart vu hi):
  ∃l u:Option (Int×Tok),h.IsSlice sl l u none/\l.map (·.1)=lo/\u.map (·.1)=hi:=by
 cases pl with
 |none=>
  cases pu with
  |none=>exact⟨none,none,hs,rfl,rfl⟩
  |int i t=>exact⟨none,some (i,t),hs,rfl,rfl⟩
 |int i t=>
  cases pu with
  |none=>exact⟨some (i,t),none,hs,rfl,rfl⟩
  |int j u=>exact⟨some (i,t),some (j,u),hs,rfl,rfl⟩
theorem GS:vJ X OC:=by
 intro pins s σ H x v vl vu lo hi sl Q I rx hs pl pu h
 obtain⟨z,rfl,hz,q⟩:=h
 obtain⟨t,rfl⟩:=rx
 obtain⟨l,u,FW,rfl,rfl⟩:=tf hs pl pu
 refine⟨"str",_,PySem.F.slot_str_getitem.lookup,typeIs_str _ _ _,wpAny_getItem_str_slice (l:=l) (u:=u) (st:=none) FW rfl ?_⟩
 rw[<- v_]at q
 exact post_val_or_str ⟨A1 (Txt.slice_le z _ _) hz,λ t' k=>⟨.str (Txt.slice z (l.map (·.1)) (u.map (·.1))),H,I.tok k,⟨_,rfl⟩,q⟩⟩
theorem rY{ys:List Str}:∀{us:List Value},Vals (ys.map V.str) us->StrsAre us ys:=by
 induction ys with
 |nil=>intro us r;rw[map_nil]at r;cases r;exact .nil
 |cons n ns ih=>
  intro us r
  rw[z4]at r
  cases r with
  |cons r1 r2=>
   obtain⟨t,e⟩:=r1
   subst e
   exact .cons n t (ih r2)
def rJoin(K:PySem.W.Frag):V->List V->Hp->VK->Prop:=λ x vs H Q=>∃(z:Str) (p:Addr) (ys:List Str),x=.str z/\vs=[.ref p]/\cS K H p (ys.map V.str)/\(ys.map (·.length)).sum+ys.length*z.length<=16777216/\Q (.str (Txt.join z ys)) H
theorem D5:QF X "str.join" (rJoin X.K):=by
 intro pins s σ H x xs v us Q I rx r h
 obtain⟨z,p,ys,rfl,rfl,hq,hz,q⟩:=h
 obtain⟨t,rfl⟩:=rx
 obtain⟨u,rfl,r1⟩:=Vals.one r
 cases r1
 obtain⟨ah,rv,pl,_⟩:=I.list hq
 exact join_list pl.isList (by simpa using rY rv) hz λ t' k=>⟨.str (Txt.join z ys),H,I.tok k,⟨_,rfl⟩,q⟩
def K4:R2:=λ x y H Q=>∃z n,x=.str z/\y=.int n/\MulOk z n/\Q (.str (Txt.mul z n)) H
theorem sO:eo X (binaryOp .Mult) K4:=by
 intro pins s σ H x y v u Q I rx ry h
 obtain⟨z,n,rfl,rfl,aL,q⟩:=h
 obtain⟨t,rfl⟩:=rx
 obtain⟨t',rfl⟩:=ry
 exact SB.mul aL λ t' k=>⟨.str (Txt.mul z n),H,I.tok k,⟨_,rfl⟩,q⟩
theorem rg(hc:X.calm=true):b_ X (.builtin "all") (λ xs H Q=>∃(p:Addr) (bs:List Bool),xs=[.ref p]/\cS X.K H p (bs.map V.bl)/\Q (.bl (bs.all id)) H):=by
 intro pins s σ H xs us Q I r h
 obtain⟨p,bs,rfl,hq,q⟩:=h
 obtain⟨u,rfl,r1⟩:=vals1 r
 cases r1
 obtain⟨ah,rv,pl,hz⟩:=I.list hq
 refine call_all_walk (o9 pl.isList ?_)
 have eR:p≠s.heap.objs.size:=by
  obtain⟨o,n,e,_⟩:=pl
  exact z7 (z8 e)
 have hlen:ah.length=bs.length:=by rw[<- rv.length,x8]
 refine⟨s.heap.objs.size,_,_,_,_,_,λ i=>(bs[i]?).getD false,rfl,Walks.list (A:=X.A.in1) (show X.A.in1.handled=none from I.ok.hd hc) s.heap.objs.size p eR ah.toArray,⟨⟨_,l6 _ rfl,rfl,rfl⟩,pl.isList.at λ o e=>j2 _ e⟩,?_,λ h' tk hk=>?_⟩
 ·intro i v s' Q' E' hP hQ
  have F8:ah[i]?=some v:=by simpa using hP
  have hi:i < bs.length:=by rw[<- hlen];exact(g9.mp F8).1
  have hb:(bs.map V.bl)[i]?=some (V.bl bs[i]):=by simp[hi]
  obtain⟨u,hu,ru⟩:=rv.get hb
  rw[F8]at hu
  cases hu
  have e:v=Value.bool bs[i]:=ru
  subst e
  have:(bs[i]?).getD false=bs[i]:=by simp[hi]
  dsimp only at hQ
  rw[this]at hQ
  exact o8 hQ
 ·refine⟨.bl (bs.all id),H,I.kept (t':=tk) λ b o e=>hk b o (by simpa using z7 (z8 e)) (j2 _ e),?_,q⟩
  show Value.bool _=Value.bool _
  congr 1
  rw[p7,hlen]
  rw[u7]
  simp only[List.all_eq_true,mem_range,id]
  constructor
  ·intro h b hb
   obtain⟨i,hi,rfl⟩:=mem_iff_getElem.mp hb
   have:=h i hi
   simpa[hi]using this
  ·intro h i hi
   simpa[hi]using h bs[i] (u6 hi)
end
def Ko(x:Str):It:=⟨λ i _=>i < x.cps.size,λ i H v H'=>H'=H/\∃c,x.cps[i]?=some c/\v=.str ⟨#[c]⟩,λ i _=>i=x.cps.size⟩
theorem pA{P:Program}{w:World}{K:PySem.W.Frag}{tg:Expr}(it:Addr)(x:Str)(t:Tok)(ty:String)(hty:["enumerate","zip","dict_itemiterator","dict_reverseitemiterator","odict_iterator","itertools.zip_longest","itertools.pairwise"].contains ty=false)
  (W:∀A':Around,A'.handled=none->Walks P w A' it [it] [it] x.cps.size (SignAt x) (λ i h=>h.IsStrIter it ty x t i))
  (self:∀(A:Around) (i:Nat) (s:Shared) (Q:Value->Shared->Prop) (E:Value->Shared->Prop),s.heap.IsStrIter it ty x t i->Q (.ref it) s->wpAny (model P w) A (pyIter (.ref it)) Q E s):
  Turn P w K tg (Ko x) [it] it (λ i h=>h.IsStrIter it ty x t i) where
 mem:=by simp
 obj:=λ i h st b hb=>by
  have e:b=it:=by simpa using hb
  subst e
  obtain⟨o,e,c,d⟩:=st
  exact⟨o,e,λ v z=>by rw[d]at z;cases z⟩
 keep:=λ i h h' st k=>by
  obtain⟨o,e,c,d⟩:=st
  exact⟨o,k it (by simp) o e,c,d⟩
 item:=by
  intro X hP hw hK hc i pins s σ H E I hf st hg
  subst hP hw hK
  obtain⟨f0,f1,f2,f3,f4,f5⟩:=hf it (by simp)
  refine(W X.A (I.ok.hd hc)).item i s _ _ hg st λ v h' tk hv nk kk=>?_
  obtain⟨c,u,hx,rfl⟩:=hv
  have I1:Inv X pins σ H {s with heap:=h',toks:=tk}:=I.turned (λ b o hb e=>kk b o (by simpa using hb) e) f0 f1 f3 f4 f5
  obtain⟨o,e,cc,d⟩:=id nk
  exact⟨_,rfl,qF (s:={s with heap:=h',toks:=tk}) e cc d hty ⟨.str ⟨#[c]⟩,H,I1,⟨u,rfl⟩,⟨rfl,c,hx,rfl⟩,nk,λ b hb=>(hf b hb).1⟩⟩
 done:=by
  intro X hP hw hK hc i pins s σ H E I hf st hg
  subst hP hw hK
  obtain⟨f0,f1,f2,f3,f4,f5⟩:=hf it (by simp)
  have hg:i=x.cps.size:=hg
  subst hg
  exact(W X.A (I.ok.hd hc)).done s _ _ st λ h' tk kk=>⟨rfl,I.turned (λ b o hb e=>kk b o (by simpa using hb) e) f0 f1 f3 f4 f5⟩
 self:=self
end L2
namespace L2
open PySem PySem.Spec PyProof.Rows
section
variable {X:Cx}
theorem tZ.imp {r r':R2}(h:tZ X r)(k:∀x y H Q,r' x y H Q->r x y H Q):tZ X r':=λ value slice pins s σ H x y v u Q I rx ry q=>h value slice pins s σ H x y v u Q I rx ry (k x y H Q q)
theorem vJ.imp {r r':V->Option Int->Option Int->Hp->VK->Prop}(h:vJ X r)(k:∀x lo hi H Q,r' x lo hi H Q->r x lo hi H Q):vJ X r':=
 λ pins s σ H x v vl vu lo hi sl Q I rx hs pl pu q=>h pins s σ H x v vl vu lo hi sl Q I rx hs pl pu (k x lo hi H Q q)
def RF(K:PySem.W.Frag):R2:=λ x y H Q=>match x,y with
 | .ref p,.int i=>∃xs v,(cS K H p xs\/ef K H p xs)/\e_ xs i=some v/\Q v H
 | .str z,.int i=>z.length<=sizeLine/\∃c,e_ z.cps.toList i=some c/\Q (.str ⟨#[c]⟩) H
 |_,_=>False
theorem bh:tZ X (RF X.K):=IY.imp λ x y H Q q=>by
 cases x <;> cases y <;> first
  |exact False.elim q
  |(obtain⟨xs,v,h|h,e,q⟩:=q
    ·exact .inl ⟨_,xs,_,v,rfl,rfl,h,e,q⟩
    ·exact .inr (.inl ⟨_,xs,_,v,rfl,rfl,h,e,q⟩))
  |(obtain⟨hz,c,e,q⟩:=q
    exact .inr (.inr ⟨_,_,c,rfl,rfl,hz,e,q⟩))
def UN(K:PySem.W.Frag):V->Option Int->Option Int->Hp->VK->Prop:=λ x lo hi H Q=>match x with
 | .str z=>z.length<=sizeLine/\Q (.str (lx z lo hi)) H
 | .ref a=>K2 K (.ref a) lo hi H Q\/K1 K (.ref a) lo hi H Q
 |_=>False
theorem ny:vJ X (UN X.K):=(GS.or (Ck.or GR)).imp λ x lo hi H Q q=>by
 cases x <;> first|exact False.elim q|exact .inl ⟨_,rfl,q⟩|exact .inr q
end
end L2
namespace L2
open PySem PySem.Spec PyProof.Rows
structure bP(P:Program)(w:World)(K:PySem.W.Frag)(mg:Str->Option Value)(base:Heap)(k:Nat)(x:Str)(ps:List Str)(sp:Sp):Prop where
 ex:∃(f:Addr) (fd:FuncData),bw P w K mg base eP k f fd ps sp/\mg x=some (.ref f)/\PySem.W.keepIn K (.ref f)=true/\Binds K fd ps []
theorem bP.of {P:Program}{w:World}{K:PySem.W.Frag}{mg:Str->Option Value}{base:Heap}{k:Nat}{x qual:Str}{ps:List Str}{sp:Sp}{st:Stmt}{f:Addr}{fd:FuncData}(F:ff K x qual st f fd)(G:bw P w K mg base eP k f fd ps sp)(hm:mg x=some (.ref f))(b:Binds K fd ps []):
  bP P w K mg base k x ps sp:=⟨f,fd,G,hm,F.kp,b⟩
def tD(sp:Sp)(t:TA):TE:=λ σ H Q=>t σ H λ vs H1=>sp vs H1 Q E0
section
variable {X:Cx}{x:Str}{p pos:Pos}{e:Expr}{es:List Expr}{t:TA}{k j:Nat}{ps:List Str}{sp:Sp}
theorem Ia(d:bP X.prog X.w X.K X.mg X.base k x ps sp)(hr:bA k X.A)(hg:Gl X x)(ha:PA X (e::es) t)(hdb:(x==("__debug__":Str))=false:=by decide)(he:starEach (e::es) X.env=(false,eval e X.env)::starEach es X.env:=by rfl)
  (hpl:(backTo pos (starEach es X.env)).any (·.1)=false:=by rfl):PE X (.Call (.Name x p) (e::es) [] pos) (tD sp t):=by
 obtain⟨f,fd,G,hm,kp,b⟩:=d.ex
 intro pins s σ H Q I h
 have h':Fw sp [] E0 t σ H Q:=by
  show t σ H λ vs H1=>sp (vs++[]) H1 Q E0
  have e:(λ(vs:List V) (H1:Hp)=>sp (vs++[]) H1 Q E0)=λ vs H1=>sp vs H1 Q E0:=by
   funext vs H1
   rw[u9]
  rw[e]
  exact h
 exact DD (E:=E0) G hr hg hm kp b .nil Lp ha hdb he hpl pins s σ H Q I h'
end
def rn(X:Cx)(scope:Scope)(fr:List Nat):Bool:=
 (scope.kind==.function)&&(scope.names.all λ y=>(y.2 != .cell||scope.names.lookup y.1==some .cell)&&(y.2 != .local||scope.names.lookup y.1==some .local)&&(y.2 != .free||X.env.kindOf y.1==some .cell||X.env.kindOf y.1==some .free))&&
 (fr.all λ j=>decide (j < X.N.length)&&scope.names.lookup (X.N.getD j "")==some .free)
theorem bz{X:Cx}{scope:Scope}{fr:List Nat}(h:rn X scope fr=true):hX X scope fr:=by
 unfold rn at h
 rw[u4,u4]at h
 obtain⟨⟨h1,h2⟩,h3⟩:=h
 rw[List.all_eq_true]at h2 h3
 refine⟨by simpa using h1,λ y hy hl=>?_,λ y hy hl=>?_,λ n hn=>?_,λ j hj=>?_⟩
 ·have:=h2 y hy
  simp only[u4]at this
  have:=this.1.1
  rw[hl]at this
  simpa using this
 ·have:=h2 y hy
  simp only[u4]at this
  have:=this.1.2
  rw[hl]at this
  simpa using this
 ·have:=h2 _ hn
  simp only[u4]at this
  have:=this.2
  simpa using this
 ·have:=h3 j hj
  rw[u4]at this
  exact⟨by simpa using this.1,by simpa using this.2⟩
section
variable {X:Cx}{tg:Expr}
def Pa(K:PySem.W.Frag)(tl:TE):TI:=λ σ H R=>tl σ H λ x H1=>match x with
 | .str z=>R (Ko z) H1
 | .ref a=>(∃xs,cS K H1 a xs/\R (N6 K a) H1)\/(∃xs,ef K H1 a xs/\R (QK K a) H1)
 |_=>False
theorem HZ{l:Expr}{tl:TE}(hl:PE X l tl):PI X tg l (Pa X.K tl):=by
 intro pins s σ H R I h
 have EF:PE X l (λ σ' H' Q=>Q=Q/\tl σ' H' Q):=λ pins s σ H Q I q=>hl pins s σ H Q I q.2
 refine cg (hl pins s σ H _ I h) λ v s1 ⟨x,H1,I1,r1,q1⟩=>?_
 have fp:∀b∈[s1.heap.objs.size],gu X pins H1 b:=λ b hb=>by
  have e:b=s1.heap.objs.size:=by simpa using hb
  subst e
  exact I1.iX (A2 _) (I1.aL.fresh (A2 _))
 cases x with
 |str z=>
  have q:R (Ko z) H1:=q1
  obtain⟨t,rfl⟩:=r1
  cases ha:z.cps.all (· < 128)
  ·exact wpAny_pyIter_wide ha ⟨s1.heap.objs.size,[s1.heap.objs.size],_,Ko z,H1,rfl,I1.kept (t':=s1.toks) λ b o e=>j2 _ e,pA _ z t "str_iterator" (by decide) (λ A' hA=>Walks.strWide hA _ z t) (λ _ _ _ _ _ st h=>wpAny_pyIter_striter_wide st h),⟨_,l6 _ rfl,rfl,rfl⟩,fp,q⟩
  ·exact wpAny_pyIter_ascii ha ⟨s1.heap.objs.size,[s1.heap.objs.size],_,Ko z,H1,rfl,I1.kept (t':=s1.toks) λ b o e=>j2 _ e,pA _ z t "str_ascii_iterator" (by decide) (λ A' hA=>Walks.strAscii hA _ z t) (λ _ _ _ _ _ st h=>wpAny_pyIter_striter_ascii st h),⟨_,l6 _ rfl,rfl,rfl⟩,fp,q⟩
 |ref a=>
  cases(show v=Value.ref a from r1)
  rcases q1 with⟨xs,hq,q⟩|⟨xs,hq,q⟩
  ·obtain⟨ah,rv,p,hz⟩:=I1.list hq
   exact o9 p.isList ⟨s1.heap.objs.size,[s1.heap.objs.size],_,_,H1,rfl,I1.kept (t':=s1.toks) λ b o e=>j2 _ e,vS a _,⟨_,l6 _ rfl,rfl,rfl⟩,fp,q⟩
  ·obtain⟨ah,rv,p,hz⟩:=I1.tuple hq
   exact wpAny_pyIter_tuple (show s1.heap.IsTuple a ah.toArray from p) ⟨s1.heap.objs.size,[s1.heap.objs.size],_,_,H1,rfl,I1.kept (t':=s1.toks) λ b o e=>j2 _ e,rT a _,⟨_,l6 _ rfl,rfl,rfl⟩,fp,q⟩
 |_=>exact False.elim q1
end
end L2
namespace L2
open PySem PySem.Spec PyProof.Rows
inductive IK where
 |i (n:Int)
 |t (ks:List IK)
noncomputable instance:DecidableEq IK:=λ a b=>Classical.propDecidable (a=b)
mutual
def IK.dep:IK->Nat
 | .i _=>0
 | .t ks=>IK.ku ks+1
def IK.ku:List IK->Nat
 |[]=>0
 |k::ks=>max k.dep (IK.ku ks)
end
mutual
def As:IK->Int
 | .i n=>hashInt n
 | .t ks=>reduceHash (Builtin.Tuple.tupleHashOf (og ks))
def og:List IK->List Int
 |[]=>[]
 |k::ks=>As k::og ks
end
mutual
def xN:IK->Nat
 | .i _=>1
 | .t ks=>fA ks+1
def fA:List IK->Nat
 |[]=>0
 |k::ks=>xN k+fA ks
end
mutual
def cB(h:Heap):IK->Value->Prop
 | .i n,v=>∃t,v=.int n t
 | .t ks,v=>∃(a:Addr) (o:Obj) (ah:List Value) (n:Nat),v=.ref a/\h.get? a=some o/\o.cls=.type "tuple"/\o.data=.seq ah.toArray n/\bO h ks ah
def bO(h:Heap):List IK->List Value->Prop
 |[],vs=>vs=[]
 |k::ks,vs=>∃v r,vs=v::r/\cB h k v/\bO h ks r
end
mutual
def mq:IK->PyData
 | .i n=>.int n
 | .t ks=>.tuple (fz ks)
def fz:List IK->List PyData
 |[]=>[]
 |k::ks=>mq k::fz ks
end
theorem qz:∀ks:List IK,og ks=ks.map As
 |[]=>by unfold og;rfl
 |k::ks=>by unfold og;rw[qz ks];rfl
theorem qy:∀(ks ls:List IK),fA (ks++ls)=fA ks+fA ls
 |[],ls=>by rw[nil_append];unfold fA;split <;> omega
 |k::ks,ls=>by
  rw[cons_append]
  have:=qy ks ls
  show xN k+fA (ks++ls)=xN k+fA ks+fA ls
  omega
theorem Aq(k:IK):fA [k]=xN k:=by show xN k+fA []=xN k;unfold fA;omega
theorem Ar:fA []=0:=by unfold fA;rfl
theorem g_:∀{ks:List IK} {k:IK},k∈ks->k.dep<=IK.ku ks
 |k0::ks,k,h=>by
  show k.dep<=max k0.dep (IK.ku ks)
  rcases z5.mp h with rfl|h
  ·exact Nat.le_max_left _ _
  ·exact A1 (g_ h) (Nat.le_max_right _ _)
section
variable {prog:Program}{w:World}
theorem Et:∀(n:Nat) (k:IK),k.dep<=n->∀{A:Around} {E:Value->Shared->Prop} {s:Shared} {v:Value} {Q:Int->Shared->Prop},A.units+k.dep < cLine->cB s.heap k v->Q (As k) {s with toks:=s.toks+xN k}->wpAny (model prog w) A (pyHash v) Q E s:=by
 intro n
 induction n with
 |zero=>
  intro k hk A E s v Q hu hi h
  cases k with
  |i m=>
   unfold cB at hi
   obtain⟨t,rfl⟩:=hi
   unfold As xN at h
   exact wpAny_pyHash_int h
  |t ks=>unfold IK.dep at hk;omega
 |succ n ih=>
  intro k hk A E s v Q hu hi h
  cases k with
  |i m=>
   unfold cB at hi
   obtain⟨t,rfl⟩:=hi
   unfold As xN at h
   exact wpAny_pyHash_int h
  |t ks=>
   unfold cB at hi
   obtain⟨a,o,ah,m,rfl,ho,hc,hd,hits⟩:=hi
   have kg:IK.ku ks<=n:=by unfold IK.dep at hk;omega
   have Ra:A.units+(IK.ku ks+1) < cLine:=by unfold IK.dep at hu;exact hu
   have hT:s.TypeIs (.ref a) "tuple":=⟨o,ho,hc⟩
   unfold pyHash;(first|unfold pyHashByItsType|skip);(first|refine A6 (wpAny_cRoomFor_or (.inr (show A.units < cLine by omega)) ?_)|skip)
   refine A6 (wpAny_specialOf hT F.slot_tuple_hash.lookup ?_);show wpAny _ _ (if(some (Value.builtin "tuple.__hash__")==some Value.none)=true then _ else _) Q E s;rw[B4 (by rw[beq_builtin_none];exact l8)]
   refine A6 (wpAny_specialOf hT F.slot_tuple_hash.lookup ?_);show wpAny _ _ (callSpecialIfBoundUnlessNone? (.ref a) "__hash__" _ >>= _) Q E s
   refine A6 (wpAny_callSpecialIfBoundUnlessNone?_slot hT F.slot_tuple_hash (s9 F.slot_tuple_hash hT F.entry_tuple_hash ?_ (F.args_tuple_hash_1 _)));show wpAny _ _ (Builtin.Tuple.tupleItemsOf (.ref a) >>= _) _ _ s
   refine A6 (wpAny_tupleItemsOf ho hd (A6 ?_));rw[<- Array.forIn_toList]
   refine wpAny_forIn_list _ (λ rest (b:Array Int) s'=>∃done left,ks=done++left/\bO s.heap left rest/\b.toList=done.map As/\s'={s with toks:=s.toks+fA done}) _ ?_ ?_ _ _ ⟨[],ks,rfl,hits,rfl,by rw[Ar];rfl⟩
   ·rintro x rest b s' ⟨done,left,rfl,hl,hb,rfl⟩
    cases left with
    |nil=>unfold bO at hl;cases hl
    |cons k1 left=>
     unfold bO at hl
     obtain⟨v,r,e,h1,h2⟩:=hl
     cases e
     have hm:=g_ (ks:=done++k1::left) (k:=k1) (by simp)
     refine A6 (ih k1 (by omega) (A:=A.in1) (show A.units+1+_ < cLine by omega) h1 ?_)
     have fin:∃d2 l2,done++k1::left=d2++l2/\bO s.heap l2 rest/\(b.push (As k1)).toList=d2.map As/\({s with toks:=s.toks+fA done+xN k1}:Shared)={s with toks:=s.toks+fA d2}:=
      ⟨done++[k1],left,by simp,h2,by simp[hb],by rw[qy,Aq,Nat.add_assoc]⟩
     first|exact A7 fin|exact A6 (A7 (A7 fin))
   ·rintro b s' ⟨done,left,rfl,hl,hb,rfl⟩
    cases left with
    |cons k1 left=>unfold bO at hl;obtain⟨v,r,e,_⟩:=hl;cases e
    |nil=>
     rw[u9]at h
     show wpAny _ _ (retInt (Builtin.Tuple.tupleHashOf b.toList)) _ _ _;rw[hb,<- qz];refine wpAny_ret_mkInt ?_
     show wpAny _ _ (if(decide (-(2:Int)^63<=Builtin.Tuple.tupleHashOf (og done))&&decide (Builtin.Tuple.tupleHashOf (og done) < 2^63))=true then _ else _) Q E _
     unfold As xN reduceHash at h
     by_cases hr:(decide (-(2:Int)^63<=Builtin.Tuple.tupleHashOf (og done))&&decide (Builtin.Tuple.tupleHashOf (og done) < 2^63))=true
     ·rw[B3 hr]at h ⊢;exact A7 (by simpa[Nat.add_assoc]using h)
     ·rw[B4 hr]at h ⊢;exact A6 (wpAny_rule (A7 (by simpa[Nat.add_assoc]using h)))
end
end L2
namespace L2
open PySem PySem.Spec PyProof.Rows
mutual
theorem kf{h:Heap}:∀(k:IK) {v:Value},cB h k v->∃as,Reads h v (mq k) as
 | .i n,v,x=>by
  unfold cB at x
  obtain⟨t,rfl⟩:=x
  unfold mq
  exact⟨_,Reads.int n t⟩
 | .t ks,v,x=>by
  unfold cB at x
  obtain⟨a,o,ah,n,rfl,ho,hc,hd,q⟩:=x
  obtain⟨as,r⟩:=mn ks q
  unfold mq
  exact⟨_,reads_tuple_at ho hc hd (by simpa using r)⟩
theorem mn{h:Heap}:∀(ks:List IK) {vs:List Value},bO h ks vs->∃as,ReadsAll h vs (fz ks) as
 |[],vs,x=>by
  unfold bO at x
  subst x
  unfold fz
  exact⟨_,ReadsAll.nil⟩
 |k::ks,vs,x=>by
  unfold bO at x
  obtain⟨v,r,rfl,h1,h2⟩:=x
  obtain⟨as,a⟩:=kf k h1
  obtain⟨bs,b⟩:=mn ks h2
  unfold fz
  exact⟨_,ReadsAll.cons a b⟩
end
mutual
theorem nZ:∀k:IK,(mq k).canLay0=true
 | .i n=>by unfold mq;simp[PyData.canLay0]
 | .t ks=>by unfold mq;simp only[PyData.canLay0];exact qw ks
theorem qw:∀ks:List IK,PyData.canLayAll0 (fz ks)=true
 |[]=>by unfold fz;simp[PyData.canLayAll0]
 |k::ks=>by unfold fz;simp only[PyData.canLayAll0];rw[nZ k,qw ks];rfl
end
mutual
theorem n_:∀k:IK,(mq k).depth=k.dep
 | .i n=>by unfold mq IK.dep;simp[PyData.depth]
 | .t ks=>by unfold mq IK.dep;simp only[PyData.depth];rw[qx ks]
theorem qx:∀ks:List IK,PyData.depthAll (fz ks)=IK.ku ks
 |[]=>by unfold fz IK.ku;simp[PyData.depthAll]
 |k::ks=>by unfold fz IK.ku;simp only[PyData.depthAll];rw[n_ k,qx ks]
end
mutual
theorem Ap:∀a b:IK,PyData.eqv (mq a) (mq b)=true↔a=b
 | .i n,.i m=>by unfold mq;simp[PyData.eqv]
 | .i n,.t ks=>by unfold mq;simp[PyData.eqv]
 | .t ks,.i n=>by unfold mq;simp[PyData.eqv]
 | .t ks,.t ls=>by unfold mq;simp only[PyData.eqv,IK.t.injEq];exact va ks ls
theorem va:∀as bs:List IK,PyData.eqvAll (fz as) (fz bs)=true↔as=bs
 |[],[]=>by unfold fz;simp[PyData.eqvAll]
 |[],b::bs=>by unfold fz;simp[PyData.eqvAll]
 |a::as,[]=>by unfold fz;simp[PyData.eqvAll]
 |a::as,b::bs=>by
  unfold fz
  simp only[PyData.eqvAll,u4,List.cons.injEq]
  rw[Ap a b,va as bs]
end
mutual
theorem Ao{h:Heap}:∀(x y:IK) {v:Value},cB h x v->cB h y v->x=y
 | .i n,.i m,v,a,b=>by
  unfold cB at a b
  obtain⟨t,rfl⟩:=a
  obtain⟨u,e⟩:=b
  cases e
  rfl
 | .i n,.t ks,v,a,b=>by
  unfold cB at a b
  obtain⟨t,rfl⟩:=a
  obtain⟨_,_,_,_,e,_⟩:=b
  cases e
 | .t ks,.i n,v,a,b=>by
  unfold cB at a b
  obtain⟨t,rfl⟩:=b
  obtain⟨_,_,_,_,e,_⟩:=a
  cases e
 | .t ks,.t ls,v,a,b=>by
  unfold cB at a b
  obtain⟨a1,o1,i1,n1,rfl,g1,_,d1,q1⟩:=a
  obtain⟨a2,o2,i2,n2,e,g2,_,d2,q2⟩:=b
  cases e
  rw[g1]at g2
  cases g2
  rw[d1]at d2
  cases d2
  rw[u_ ks ls q1 q2]
theorem u_{h:Heap}:∀(xs ys:List IK) {vs:List Value},bO h xs vs->bO h ys vs->xs=ys
 |[],[],vs,_,_=>rfl
 |[],y::ys,vs,a,b=>by
  unfold bO at a b
  subst a
  obtain⟨_,_,e,_⟩:=b
  cases e
 |x::xs,[],vs,a,b=>by
  unfold bO at a b
  subst b
  obtain⟨_,_,e,_⟩:=a
  cases e
 |x::xs,y::ys,vs,a,b=>by
  unfold bO at a b
  obtain⟨v,r,rfl,a1,a2⟩:=a
  obtain⟨v2,r2,e,b1,b2⟩:=b
  cases e
  rw[Ao x y a1 b1,u_ xs ys a2 b2]
end
theorem Jc{h:Heap}{k:IK}{v:Value}(x:cB h k v){d:Addr}{o:Obj}{es:Array DictEntry}{ep:Nat}(ho:h.get? d=some o)(hd:o.data=.dict es ep){h':Heap}(hs:Heap.SameBut d h h'):cB h' k v:=by
 have gen:∀(n:Nat) (k:IK),k.dep<=n->∀v,cB h k v->cB h' k v:=by
  intro n
  induction n with
  |zero=>
   intro k hk v x
   cases k with
   |i m=>unfold cB at x ⊢;exact x
   |t ks=>unfold IK.dep at hk;omega
  |succ n ih=>
   intro k hk v x
   cases k with
   |i m=>unfold cB at x ⊢;exact x
   |t ks=>
    unfold cB at x ⊢
    obtain⟨a,o',ah,m,e,oq,hc,fQ,r⟩:=x
    have eR:a≠d:=λ z=>by
     subst z
     rw[ho]at oq
     cases oq
     rw[hd]at fQ
     cases fQ
    refine⟨a,o',ah,m,e,(hs.2 a eR).trans oq,hc,fQ,?_⟩
    have kg:IK.ku ks<=n:=by unfold IK.dep at hk;omega
    have all:∀(ls:List IK) (vs:List Value),(∀l∈ls,l.dep<=n)->bO h ls vs->bO h' ls vs:=by
     intro ls
     induction ls with
     |nil=>intro vs _ y;unfold bO at y ⊢;exact y
     |cons l ls Ss=>
      intro vs hl y
      unfold bO at y ⊢
      obtain⟨v,r,e,h1,h2⟩:=y
      exact⟨v,r,e,ih l (hl l (l7 ..)) v h1,Ss r (λ z hz=>hl z (k4 _ hz)) h2⟩
    exact all ks ah (λ l hl=>A1 (g_ hl) kg) r
 exact gen k.dep k (A2 _) v x
section
variable {prog:Program}{w:World}
theorem An:∀(n:Nat) (k:IK),k.dep<=n->∀{A:Around} {E:Value->Shared->Prop} {s:Shared} {v:Value} {Q:Bool->Shared->Prop},cB s.heap k v->Q true s->wpAny (model prog w) A (eqIsQuiet n v) Q E s:=by
 intro n
 induction n with
 |zero=>
  intro k hk A E s v Q hi h
  cases k with
  |i m=>
   unfold cB at hi
   obtain⟨t,rfl⟩:=hi
   rw[eqIsQuiet_byValue _ rfl]
   exact A7 h
  |t ks=>unfold IK.dep at hk;omega
 |succ n ih=>
  intro k hk A E s v Q hi h
  cases k with
  |i m=>
   unfold cB at hi
   obtain⟨t,rfl⟩:=hi
   rw[eqIsQuiet_byValue _ rfl]
   exact A7 h
  |t ks=>
   unfold cB at hi
   obtain⟨a,o,ah,m,rfl,ho,hc,hd,hits⟩:=hi
   have kg:IK.ku ks<=n:=by unfold IK.dep at hk;omega
   have hT:s.TypeIs (.ref a) "tuple":=⟨o,ho,hc⟩
   unfold eqIsQuiet;refine A6 (wpAny_specialOf hT F.slot_tuple_eq.lookup ?_);show wpAny _ _ (isInstance (.ref a) (.type "tuple") >>= _) _ _ s
   refine A6 (wpAny_isInstance hT isSubtype_tuple_tuple ?_);simp only[Bool.not_true,m5,B0]
   refine A6 (y3 ho hd (A6 ?_));show wpAny _ _ (forIn ah.toArray _ _) _ _ s;rw[<- Array.forIn_toList]
   refine wpAny_forIn_list _ (λ rest r s'=>r.1=none/\s'=s/\∃left,(∀l∈left,l∈ks)/\bO s.heap left rest) _ ?_ ?_ _ _ ⟨rfl,rfl,ks,λ l hl=>hl,hits⟩
   ·rintro x rest r s' ⟨hr,rfl,left,LU,hl⟩
    cases left with
    |nil=>unfold bO at hl;cases hl
    |cons k1 left=>
     unfold bO at hl
     obtain⟨v,r',e,h1,h2⟩:=hl
     cases e
     refine A6 (ih k1 (A1 (g_ (LU k1 (l7 ..))) kg) h1 ?_);simp only[Bool.not_true,m5,B0]
     exact A7 ⟨rfl,rfl,left,λ l hl=>LU l (k4 _ hl),h2⟩
   ·rintro⟨r1,r2⟩ s' ⟨hr,rfl,_⟩
    simp only at hr
    subst hr
    exact A7 h
def jB(prog:Program)(w:World):HeapKind prog w IK where
 is:=λ h k a=>k.dep<=5/\cB h k (.ref a)
 hash:=As
 draws:=xN
 room:=λ A=>A.units+8 < cLine
 inj:=λ hx hy=>Ao _ _ hx.2 hy.2
 keeps:=λ x ho hd hs=>⟨x.1,Jc x.2 ho hd hs⟩
 pyHash:=λ hu hk h=>Et 5 _ hk.1 (by have:=hk.1;omega) hk.2 h
 eqBool:=λ{A E s x y a b Q} hu hx hy h=>by
  obtain⟨as,ra⟩:=kf x hx.2
  obtain⟨bs,rb⟩:=kf y hy.2
  refine p8 (mq x) (mq y) A s _ _ _ _ ra rb (nZ x) (nZ y) ?_ prog w E Q ?_
  ·rw[n_,n_]
   have:=hx.1
   have:=Nat.min_le_left x.dep y.dep
   omega
  ·have e:PyData.eqv (mq x) (mq y)=decide (x=y):=by
    rw[u7,n5]
    exact Ap x y
   rw[e]
   exact h
 quiet:=λ hk h=>An 8 _ (A1 hk.1 (by decide)) hk.2 h
end
end L2
namespace L2
open PySem PySem.Spec PyProof.Rows
section
variable {κ:Type}[DecidableEq κ]
def gg(kvs:List (κ×V))(k:κ):Option V:=(kvs.find? λ kv=>decide (kv.1=k)).map (·.2)
def putK(kvs:List (κ×V))(k:κ)(v:V):List (κ×V):=
 if(kvs.any λ kv=>decide (kv.1=k))=true then kvs.map (λ kv=>if kv.1=k then(kv.1,v)else kv)else kvs++[(k,v)]
theorem jv{p:κ×V}{r:List (κ×V)}{k:κ}(e:p.1=k):gg (p::r) k=some p.2:=by simp[gg,v7,e]
theorem jw{p:κ×V}{r:List (κ×V)}{k:κ}(e:¬p.1=k):gg (p::r) k=gg r k:=by simp[gg,v7,e]
theorem jy(k:κ):∀kvs:List (κ×V),(kvs.any λ kv=>decide (kv.1=k))=(gg kvs k).isSome
 |[]=>rfl
 |p::r=>by
  rw[any_cons]
  by_cases e:p.1=k
  ·simp only[jv e,y2 e,Bool.true_or,Option.isSome_some]
  ·rw[jw e,v8 e,Bool.false_or];exact jy k r
theorem iI(kvs:List (κ×V))(k:κ)(v:V):(putK kvs k v).length<=kvs.length+1:=by
 unfold putK
 split
 ·rw[x8];omega
 ·rw[l9,q9,length_nil];omega
theorem fb.df {o:Option V}{u:Option Value}(r:fb o u):o.isSome=u.isSome:=by
 cases o with
 |none=>cases u with
  |none=>rfl
  |some _=>exact(show False from r).elim
 |some _=>cases u with
  |none=>exact(show False from r).elim
  |some _=>rfl
theorem KV.val {kvs:List (κ×V)}{vs:List (κ×Value)}(r:KV kvs vs)(k:κ):fb (gg kvs k) (valueAt vs k):=by
 unfold KV at r
 induction r with
 |nil=>exact True.intro
 |@cons p q ps qs h t ih=>
  obtain⟨h1,h2⟩:=h
  by_cases e:p.1=k
  ·have e':q.1=k:=h1.symm.trans e
   have b:valueAt (q::qs) k=some q.2:=by simp[valueAt,v7,e']
   rw[jv e,b];exact h2
  ·have e':¬q.1=k:=λ z=>e (h1.trans z)
   have b:valueAt (q::qs) k=valueAt qs k:=by simp[valueAt,v7,e']
   rw[jw e,b];exact ih
theorem KV.any {kvs:List (κ×V)}{vs:List (κ×Value)}(r:KV kvs vs)(k:κ):(kvs.any λ kv=>decide (kv.1=k))=vs.any λ kv=>decide (kv.1=k):=by
 unfold KV at r
 induction r with
 |nil=>rfl
 |cons h t ih=>rw[any_cons,any_cons,ih,h.1]
theorem KV.yG {kvs:List (κ×V)}{vs:List (κ×Value)}(r:KV kvs vs)(k:κ){y:V}{u:Value}(ry:RelV y u):
  KV (kvs.map λ kv=>if kv.1=k then(kv.1,y)else kv) (vs.map λ kv=>if kv.1=k then(kv.1,u)else kv):=by
 unfold KV at r ⊢
 induction r with
 |nil=>exact .nil
 |@cons p q ps qs h t ih=>
  rw[z4,z4]
  refine .cons ?_ ih
  obtain⟨h1,h2⟩:=h
  by_cases e:p.1=k
  ·rw[B3 e,B3 (h1.symm.trans e)];exact⟨h1,ry⟩
  ·rw[B4 e,B4 (λ z=>e (h1.trans z))];exact⟨h1,h2⟩
theorem KV.put {kvs:List (κ×V)}{vs:List (κ×Value)}(r:KV kvs vs)(k:κ){y:V}{u:Value}(ry:RelV y u):KV (putK kvs k y) (stored vs k u):=by
 unfold putK stored
 rw[r.any k]
 by_cases e:(vs.any λ kv=>decide (kv.1=k))=true
 ·rw[B3 e,B3 e];exact r.yG k ry
 ·rw[B4 e,B4 e];exact Paired.snoc r ⟨rfl,ry⟩
theorem KV.length {kvs:List (κ×V)}{vs:List (κ×Value)}(r:KV kvs vs):kvs.length=vs.length:=y9 r
end
theorem qr{P:Program}{w:World}{k:Key}{u:Value}(r:RelV (kV k) u):(bG P w).is k u=true:=by
 cases k with
 |inl i=>obtain⟨t,e⟩:=(show ∃t,u=Value.int i t from r);subst e;exact iG P w i t
 |inr x=>obtain⟨t,e⟩:=(show ∃t,u=Value.str x t from r);subst e;exact qd P w x t
theorem ml{P:Program}{w:World}:∀{ks:List Key} {us:List Value},Vals (ks.map kV) us->ItemsAre (bG P w) ks us
 |[],_,r=>by rw[map_nil]at r;cases r;exact .nil
 |k::ks,_,r=>by
  rw[z4]at r
  cases r with
  |cons h t=>exact .cons (qr h) (ml t)
abbrev KT(H:Hp):List (List Key×V)->List (List Key×Addr×Value)->Prop:=Paired λ p q=>p.1=q.1/\H q.2.1=some (.tup (p.1.map kV))/\RelV p.2 q.2.2
theorem KT.val {H:Hp}{kvs:List (List Key×V)}{xs:List (List Key×Addr×Value)}(r:KT H kvs xs)(k:List Key):fb (gg kvs k) ((atKey xs k).map (·.2)):=by
 induction r with
 |nil=>exact True.intro
 |@cons p q ps qs h t ih=>
  obtain⟨h1,_,h2⟩:=h
  by_cases e:p.1=k
  ·have e':q.1=k:=h1.symm.trans e
   have b:atKey (q::qs) k=some q.2:=by simp[atKey,v7,e']
   rw[jv e,b];exact h2
  ·have e':¬q.1=k:=λ z=>e (h1.trans z)
   have b:atKey (q::qs) k=atKey qs k:=by simp[atKey,v7,e']
   rw[jw e,b];exact ih
theorem KT.yG {H:Hp}{kvs:List (List Key×V)}{xs:List (List Key×Addr×Value)}(r:KT H kvs xs)(k:List Key){y:V}{u:Value}(ry:RelV y u):
  KT H (kvs.map λ kv=>if kv.1=k then(kv.1,y)else kv) (xs.map (putAt k u)):=by
 induction r with
 |nil=>exact .nil
 |@cons p q ps qs h t ih=>
  rw[z4,z4]
  refine .cons ?_ ih
  obtain⟨h1,h2,h3⟩:=h
  unfold putAt
  by_cases e:p.1=k
  ·rw[B3 e,B3 (h1.symm.trans e)];exact⟨h1,h2,ry⟩
  ·rw[B4 e,B4 (λ z=>e (h1.trans z))];exact⟨h1,h2,h3⟩
theorem KT.put {H:Hp}{kvs:List (List Key×V)}{xs:List (List Key×Addr×Value)}(r:KT H kvs xs)(k:List Key){b:Addr}{y:V}{u:Value}(hb:H b=some (.tup (k.map kV)))(ry:RelV y u):
  KT H (putK kvs k y) (storedH xs k b u):=by
 have e:(kvs.any λ kv=>decide (kv.1=k))=(atKey xs k).isSome:=by
  rw[jy,(r.val k).df,p6]
 unfold putK storedH
 rw[e]
 by_cases q:(atKey xs k).isSome=true
 ·rw[B3 q,B3 q];exact r.yG k ry
 ·rw[B4 q,B4 q];exact Paired.snoc r ⟨rfl,hb,ry⟩
theorem KT.keeps {H H':Hp}{kvs:List (List Key×V)}{xs:List (List Key×Addr×Value)}(r:KT H kvs xs)(ht:∀b ys,H b=some (.tup ys)->H' b=some (.tup ys)):KT H' kvs xs:=
 Paired.zU r λ _ _ z=>⟨z.1,ht _ _ z.2.1,z.2.2⟩
section
variable {P:Program}{w:World}{H:Hp}{h:Heap}{a:Addr}
theorem FA{u:HO}(ok:eA P w H h)(e:Rd H a u):bb P w H h a u:=e.ok ok
theorem mC{kvs:List (Key×V)}(ok:eA P w H h)(e:Rd H a (.dK kvs)):kvs.length<=sizeLine/\(a==sysModules)=false/\∃vs,KV kvs vs/\h.DictOf (bG P w) a vs:=
 show bb P w H h a (.dK kvs)from FA ok e
theorem Ge{kvs:List (Key×V)}(ok:eA P w H h)(e:H a=some (.dK kvs)):kvs.length<=sizeLine/\(a==sysModules)=false/\∃vs,KV kvs vs/\h.DictOf (bG P w) a vs:=mC ok (.inl e)
theorem jZ{ks:List Key}(ok:eA P w H h)(e:H a=some (.tup (ks.map kV))):(tupleKind (bG P w)).is h ks a:=by
 obtain⟨_,ah,r,o,h1,h2,n,h3⟩:=(show bb P w H h a (.tup (ks.map kV))from ok a _ e)
 exact⟨o,ah.toArray,n,h1,h2,h3,by simpa using ml r⟩
theorem qM{kvs:List (List Key×V)}(ok:eA P w H h)(e:Rd H a (.dT kvs)):kvs.length<=sizeLine/\(a==sysModules)=false/\
  ∃xs,KT H kvs xs/\h.DictOfH (tupleKind (bG P w)) a xs:=by
 obtain⟨z,y,xs,r,o,es,ep,h1,h2,h3,h4,h5⟩:=(show bb P w H h a (.dT kvs)from FA ok e)
 refine⟨z,y,xs,r,o,es,ep,h1,h2,h3,h4,λ x hx=>?_,h5⟩
 have all:∀{l:List (List Key×V)} {m:List (List Key×Addr×Value)},KT H l m->∀x∈m,(tupleKind (bG P w)).is h x.1 x.2.1:=by
  intro l m q
  induction q with
  |nil=>intro x hx;exact nomatch hx
  |@cons p q ps qs hq t ih=>
   intro x hx
   rcases z5.mp hx with e|hx
   ·subst e
    exact jZ ok (by rw[<- hq.1];exact hq.2.1)
   ·exact ih x hx
 exact all r x hx
theorem MA{kvs:List (List Key×V)}(ok:eA P w H h)(e:H a=some (.dT kvs)):kvs.length<=sizeLine/\(a==sysModules)=false/\
  ∃xs,KT H kvs xs/\h.DictOfH (tupleKind (bG P w)) a xs:=qM ok (.inl e)
end
def lG(H:Hp)(a:Addr)(y:V)(r:Option V):Prop:=
 (∃kvs k,Rd H a (.dK kvs)/\y=kV k/\r=gg kvs k)\/∃kvs k b,Rd H a (.dT kvs)/\y=.ref b/\H b=some (.tup (k.map kV))/\r=gg kvs k
def BJ(H:Hp)(a:Addr)(y v:V)(H':Hp):Prop:=
 (∃kvs k,H a=some (.dK kvs)/\y=kV k/\kvs.length < sizeLine/\H'=upd H a (.dK (putK kvs k v)))\/
 ∃kvs k b,H a=some (.dT kvs)/\y=.ref b/\H b=some (.tup (k.map kV))/\kvs.length < sizeLine/\H'=upd H a (.dT (putK kvs k v))
theorem lG.k {H:Hp}{a:Addr}{kvs:List (Key×V)}{k:Key}(e:H a=some (.dK kvs)):lG H a (kV k) (gg kvs k):=.inl ⟨kvs,k,.inl e,rfl,rfl⟩
theorem BJ.k {H:Hp}{a:Addr}{kvs:List (Key×V)}{k:Key}{v:V}(e:H a=some (.dK kvs))(hl:kvs.length < sizeLine):BJ H a (kV k) v (upd H a (.dK (putK kvs k v))):=.inl ⟨kvs,k,e,rfl,hl,rfl⟩
section
variable {X:Cx}{pins:List (Addr×Obj)}{σ:St}{H:Hp}{s:Shared}{a:Addr}{y v:V}{u r:Value}{o:Option V}{A:Around}{E:Value->Shared->Prop}
theorem Inv.big (I:Inv X pins σ H s):sysModules < s.heap.objs.size:=by
 have h:mainGlobals < s.heap.objs.size:=(I.mod.glob.keeps I.bk).lt
 exact Nat.lt_trans (by decide) h
theorem xp{Q:Value->Shared->Prop}(hu:A.units+1 < cLine)(I:Inv X pins σ H s)(g:lG H a y (some v))(ry:RelV y u)(h:∀w' s',Inv X pins σ H s'->RelV v w'->Q w' s'):
  wpAny (model X.prog X.w) A (getItem (.ref a) u) Q E s:=by
 rcases g with⟨kvs,k,e,ey,l⟩|⟨kvs,k,b,e,ey,eb,l⟩
 ·subst ey
  obtain⟨z,hd,vs,rel,dd⟩:=mC I.aL e
  obtain⟨w',hw,sk⟩:=fb.some_of (v:=v) (o:=valueAt vs k) (by rw[l];exact rel.val k)
  exact wpAny_getItem_of (qr ry) dd.mapOf hw (h w' _ (I.tok _) sk)
 ·subst ey
  cases(show u=Value.ref b from ry)
  obtain⟨z,hd,xs,rel,dd⟩:=qM I.aL e
  obtain⟨w',hw,sk⟩:=fb.some_of (v:=v) (o:=(atKey xs k).map (·.2)) (by rw[l];exact rel.val k)
  obtain⟨p,hp,gA⟩:=Option.map_eq_some_iff.mp hw
  refine wpAny_getItem_heap (tupleKind_room_in1 hu) (jZ I.aL eb) dd hp ?_
  rw[gA]
  exact h w' _ (I.tok _) sk
theorem Qo{Q:Value->Shared->Prop}(hu:A.units+1 < cLine)(I:Inv X pins σ H s)(g:lG H a y o)(ry:RelV y u)(h:∀s',Inv X pins σ H s'->Q (.bool o.isSome) s'):
  wpAny (model X.prog X.w) A (compareOp .In u (.ref a)) Q E s:=by
 rcases g with⟨kvs,k,e,ey,l⟩|⟨kvs,k,b,e,ey,eb,l⟩
 ·subst ey
  obtain⟨z,hd,vs,rel,dd⟩:=mC I.aL e
  refine wpAny_in_of (qr ry) hd dd.mapOf ?_
  rw[<- (rel.val k).df,<- l]
  exact h _ (I.tok _)
 ·subst ey
  cases(show u=Value.ref b from ry)
  obtain⟨z,hd,xs,rel,dd⟩:=qM I.aL e
  refine wpAny_in_heap (tupleKind_room_in1 hu) (jZ I.aL eb) hd dd ?_
  have q:=(rel.val k).df
  rw[p6]at q
  rw[<- q,<- l]
  exact h _ (I.tok _)
theorem EY{Q:Value->Shared->Prop}(hu:A.units+1 < cLine)(I:Inv X pins σ H s)(g:lG H a y o)(ry:RelV y u)(h:∀s',Inv X pins σ H s'->Q (.bool (!o.isSome)) s'):
  wpAny (model X.prog X.w) A (compareOp .NotIn u (.ref a)) Q E s:=by
 rcases g with⟨kvs,k,e,ey,l⟩|⟨kvs,k,b,e,ey,eb,l⟩
 ·subst ey
  obtain⟨z,hd,vs,rel,dd⟩:=mC I.aL e
  refine wpAny_notIn_of (qr ry) hd dd.mapOf ?_
  rw[<- (rel.val k).df,<- l]
  exact h _ (I.tok _)
 ·subst ey
  cases(show u=Value.ref b from ry)
  obtain⟨z,hd,xs,rel,dd⟩:=qM I.aL e
  refine wpAny_notIn_heap (tupleKind_room_in1 hu) (jZ I.aL eb) hd dd ?_
  have q:=(rel.val k).df
  rw[p6]at q
  rw[<- q,<- l]
  exact h _ (I.tok _)
theorem oE{h':Heap}{t':Nat}{ob:HO}(I:Inv X pins σ H s)(mu:MY (H a))(hs:Heap.SameBut a s.heap h')(he:∃q,h'.get? a=some q)(new:bb X.prog X.w (upd H a ob) h' a ob):
  Inv X pins σ (upd H a ob) {s with heap:=h',toks:=t'}:=
 I.write (x:=a) (e:=a) mu (.inl rfl) (λ b q hb z=>(hs.2 b hb).trans z) he new
theorem Ju{P:Program}{w:World}{H':Hp}{h':Heap}{kvs:List (Key×V)}{vs:List (Key×Value)}(z:kvs.length<=sizeLine)(hd:(a==sysModules)=false)(rel:KV kvs vs)(dd:h'.DictOf (bG P w) a vs):
  bb P w H' h' a (.dK kvs):=⟨z,hd,vs,rel,dd⟩
theorem xm{H':Hp}{Q:Unit->Shared->Prop}(hu:A.units+1 < cLine)(I:Inv X pins σ H s)(g:BJ H a y v H')(ry:RelV y u)(rv:RelV v r)(h:∀s',Inv X pins σ H' s'->Q () s'):
  wpAny (model X.prog X.w) A (setItem (.ref a) u r) Q E s:=by
 rcases g with⟨kvs,k,e,ey,l,eH⟩|⟨kvs,k,b,e,ey,eb,l,eH⟩
 ·subst ey eH
  obtain⟨z,hd,vs,rel,dd⟩:=Ge I.aL e
  have hz:vs.length<=sizeLine:=by rw[<- rel.length];exact z
  have hl:(putK kvs k v).length<=sizeLine:=by have:=iI kvs k v;omega
  refine wpAny_setItem_pairs (hsz:=hz) (qr ry) dd λ h' Jw hs=>h _ ?_
  have he:∃q,h'.get? a=some q:=let⟨q,_,_,hq,_⟩:=Jw;⟨q,hq⟩
  exact oE I (by rw[e];exact True.intro) hs he (Ju hl hd (rel.put k rv) Jw)
 ·subst ey eH
  cases(show u=Value.ref b from ry)
  obtain⟨z,hd,xs,rel,dd⟩:=MA I.aL e
  have hz:xs.length<=sizeLine:=by rw[<- y9 rel];exact z
  have hl:(putK kvs k v).length<=sizeLine:=by have:=iI kvs k v;omega
  refine wpAny_setItem_heap (hsz:=hz) (tupleKind_room_in1 hu) (jZ I.aL eb) dd λ h' Jw hs=>h _ ?_
  obtain⟨q,es,ep,hq,h2,h3,h4,_,h5⟩:=Jw
  refine oE I (by rw[e];exact True.intro) hs ⟨q,hq⟩ ⟨hl,hd,_,(rel.put k eb rv).keeps λ c ys ec=>?_,q,es,ep,hq,h2,h3,h4,h5⟩
  rw[av (gc ec e (λ z=>nomatch z))]
  exact ec
end
section
variable {X:Cx}{pins:List (Addr×Obj)}{σ:St}{H:Hp}{s:Shared}{a:Addr}{kvs:List (Key×V)}{k:Key}{u:Value}{A:Around}{E:Value->Shared->Prop}
theorem ME{Q:Value->Shared->Prop}(I:Inv X pins σ H s)(e:Rd H a (.dK kvs))(h:∀t s',Inv X pins σ H s'->Q (.int kvs.length t) s'):wpAny (model X.prog X.w) A (call (.builtin "len") [.ref a]) Q E s:=by
 obtain⟨z,hd,vs,rel,dd⟩:=mC I.aL e
 refine call_len_dict hd dd (by rw[<- rel.length];rw[A3]at z;omega) ?_
 rw[<- rel.length]
 exact h _ _ (I.tok _)
end
theorem qO{X:Cx}{pins:List (Addr×Obj)}{σ:St}{H:Hp}{s:Shared}{a:Addr}{y:V}{o:Option V}(I:Inv X pins σ H s)(g:lG H a y o):s.TypeIs (.ref a) "dict":=by
 rcases g with⟨kvs,k,e,_,_⟩|⟨kvs,k,b,e,_,_,_⟩
 ·obtain⟨_,_,vs,_,dd⟩:=mC I.aL e
  exact dd.typeIs
 ·obtain⟨_,_,xs,_,dd⟩:=qM I.aL e
  exact dd.typeIs
theorem Bc{P:Program}{w:World}{H:Hp}(h:Heap)(hb:sysModules < h.objs.size):bb P w H (h.push {cls:=.type "dict",data:=.dict #[]}) h.objs.size (.dK []):=
 ⟨A4 _,beq_eq_false_iff_ne.mpr (B2 (z7 hb)),[],.nil,Heap.DictOf.new h⟩
def GK:TE:=λ _ H Q=>∀p,H p=none->Q (.ref p) (upd H p (.dK []))
section
variable {X:Cx}{pos:Pos}
theorem zz:PE X (.Dict [] [] pos) GK:=λ pins s σ H Q I h=>
 wpAny_Dict_empty ⟨.ref s.heap.objs.size,_,I.laid (a:=s.heap.objs.size) (o:=.dK []) (t':=s.toks) (λ _ _ q=>j2 _ q) (A2 _) (Bc s.heap I.big),rfl,h _ (I.aL.fresh (A2 _))⟩
end
end L2
namespace L2
open PySem PySem.Spec PyProof.Rows
mutual
def fW(K:PySem.W.Frag)(H:Hp):IK->V->Prop
 | .i n,v=>v=.int n
 | .t ks,v=>∃p xs,v=.ref p/\ef K H p xs/\iJ K H ks xs
def iJ(K:PySem.W.Frag)(H:Hp):List IK->List V->Prop
 |[],xs=>xs=[]
 |k::ks,xs=>∃x r,xs=x::r/\fW K H k x/\iJ K H ks r
end
section
variable {X:Cx}{pins:List (Addr×Obj)}{σ:St}{H:Hp}{s:Shared}
mutual
theorem mi(I:Inv X pins σ H s):∀(k:IK) {v:V} {u:Value},fW X.K H k v->RelV v u->cB s.heap k u
 | .i n,v,u,h,r=>by
  unfold fW at h
  subst h
  unfold cB
  exact r
 | .t ks,v,u,h,r=>by
  unfold fW at h
  obtain⟨p,xs,rfl,hq,hk⟩:=h
  cases(show u=Value.ref p from r)
  obtain⟨ah,rv,⟨o,ho,hc,n,hd⟩,_⟩:=I.tuple hq
  unfold cB
  exact⟨p,o,ah,n,rfl,ho,hc,hd,uU I ks hk rv⟩
theorem uU(I:Inv X pins σ H s):∀(ks:List IK) {xs:List V} {us:List Value},iJ X.K H ks xs->Vals xs us->bO s.heap ks us
 |[],xs,us,h,r=>by
  unfold iJ at h
  subst h
  cases r
  unfold bO
  rfl
 |k::ks,xs,us,h,r=>by
  unfold iJ at h
  obtain⟨x,Gq,rfl,h1,h2⟩:=h
  cases r with
  |cons r1 r2=>
   unfold bO
   exact⟨_,_,rfl,mi I k h1 r1,uU I ks h2 r2⟩
end
end
abbrev d_:=IK×Addr×V
def Qj(x:IK×Addr×Value):DictEntry:=⟨As x.1,.ref x.2.1,x.2.2⟩
abbrev BG:List d_->List (IK×Addr×Value)->Prop:=Paired λ p q=>p.1=q.1/\p.2.1=q.2.1/\RelV p.2.2 q.2.2
def Qm(a:Addr)(kvs:List d_)(h:Heap):Prop:=kvs.length<=sizeLine/\(a==sysModules)=false/\∃xs,BG kvs xs/\∃o es ep,h.get? a=some o/\o.ExactDict/\o.data=.dict es ep/\es.toList=xs.map Qj/\(xs.map (·.1)).Nodup
def xl(a:Addr)(kvs:List d_):HO:=.ext (Qm a kvs)
theorem AZ{P:Program}{w:World}{H:Hp}{h:Heap}{a:Addr}{kvs:List d_}(x:Qm a kvs h):bb P w H h a (xl a kvs):=by
 obtain⟨z,y,xs,r,o,es,ep,e,c⟩:=id x
 exact⟨x,⟨o,e⟩,λ h1 h2 ⟨z,y,xs,r,o,es,ep,e,c⟩ q=>⟨z,y,xs,r,o,es,ep,q o e,c⟩⟩
noncomputable def gB (kvs:List d_)(k:IK):Option V:=(kvs.find? λ p=>decide (p.1=k)).map (·.2.2)
noncomputable def lb (kvs:List d_)(k:IK)(p:Addr)(v:V):List d_:=if(gB kvs k).isSome=true then kvs.map (λ x=>if x.1=k then(x.1,x.2.1,v)else x)else kvs++[(k,p,v)]
theorem zf(kvs:List d_)(k:IK)(p:Addr)(v:V):(lb kvs k p v).length<=kvs.length+1:=by
 unfold lb
 split
 ·simp
 ·simp
theorem BG.val {kvs:List d_}{xs:List (IK×Addr×Value)}(r:BG kvs xs)(k:IK):fb (gB kvs k) ((atKey xs k).map (·.2)):=by
 induction r with
 |nil=>exact True.intro
 |@cons p q ps qs h t ih=>
  obtain⟨h1,_,h2⟩:=h
  unfold gB atKey at ih ⊢
  by_cases e:p.1=k
  ·have e':q.1=k:=h1.symm.trans e
   simp only[v7,y2 e,y2 e',Option.map_some]
   exact h2
  ·have e':¬q.1=k:=λ z=>e (h1.trans z)
   simp only[v7,v8 e,v8 e']
   exact ih
theorem BG.yG {kvs:List d_}{xs:List (IK×Addr×Value)}(r:BG kvs xs)(k:IK){y:V}{u:Value}(ry:RelV y u):BG (kvs.map λ x=>if x.1=k then(x.1,x.2.1,y)else x) (xs.map (putAt k u)):=by
 induction r with
 |nil=>exact .nil
 |@cons p q ps qs h t ih=>
  rw[z4,z4]
  refine .cons ?_ ih
  obtain⟨h1,h2,h3⟩:=h
  unfold putAt
  by_cases e:p.1=k
  ·rw[B3 e,B3 (h1.symm.trans e)];exact⟨h1,h2,ry⟩
  ·rw[B4 e,B4 (λ z=>e (h1.trans z))];exact⟨h1,h2,h3⟩
theorem nX{o:Option V}{u:Option Value}(r:fb o u):o.isSome=u.isSome:=r.df
theorem BG.put {kvs:List d_}{xs:List (IK×Addr×Value)}(r:BG kvs xs)(k:IK){b:Addr}{y:V}{u:Value}(ry:RelV y u):BG (lb kvs k b y) (storedH xs k b u):=by
 have e:(gB kvs k).isSome=(atKey xs k).isSome:=by
  rw[nX (r.val k),p6]
 unfold lb storedH
 rw[e]
 by_cases q:(atKey xs k).isSome=true
 ·rw[B3 q,B3 q];exact r.yG k ry
 ·rw[B4 q,B4 q];exact Paired.snoc r ⟨rfl,rfl,ry⟩
structure lF(K:PySem.W.Frag)(H:Hp)(a:Addr)(kvs:List d_):Prop where
 at_:H a=some (xl a kvs)
 key:∀p∈kvs,p.1.dep<=5/\fW K H p.1 (.ref p.2.1)
section
variable {X:Cx}{pins:List (Addr×Obj)}{σ:St}{H:Hp}{s:Shared}{a b:Addr}{kvs:List d_}{k:IK}{A:Around}{E:Value->Shared->Prop}{v:V}{u r:Value}
theorem lF.of (I:Inv X pins σ H s)(d:lF X.K H a kvs):kvs.length<=sizeLine/\(a==sysModules)=false/\∃xs,BG kvs xs/\s.heap.DictOfH (jB X.prog X.w) a xs:=by
 obtain⟨⟨z,y,xs,rel,o,es,ep,h1,h2,h3,h4,h5⟩,_,_⟩:=(show bb X.prog X.w H s.heap a (xl a kvs)from I.aL a _ d.at_)
 refine⟨z,y,xs,rel,o,es,ep,h1,h2,h3,h4,?_,h5⟩
 have all:∀{l:List d_} {m:List (IK×Addr×Value)},BG l m->(∀p∈l,p.1.dep<=5/\fW X.K H p.1 (.ref p.2.1))->∀x∈m,(jB X.prog X.w).is s.heap x.1 x.2.1:=by
  intro l m q
  induction q with
  |nil=>intro _ x hx;cases hx
  |@cons p q ps qs hq t ih=>
   intro hl x hx
   rcases z5.mp hx with rfl|hx
   ·obtain⟨c1,c2⟩:=hl p (l7 ..)
    rw[hq.1,hq.2.1]at c2
    rw[hq.1]at c1
    exact⟨c1,mi I _ c2 rfl⟩
   ·exact ih (λ p hp=>hl p (k4 _ hp)) x hx
 exact all rel d.key
theorem gG(hu:A.units+64 < cLine):(jB X.prog X.w).room A.in1:=(show A.units+1+8 < cLine by omega)
theorem vX{Q:Value->Shared->Prop}(hu:A.units+64 < cLine)(I:Inv X pins σ H s)(d:lF X.K H a kvs)(hk:k.dep<=5)(vf:fW X.K H k (.ref b))(g:gB kvs k=some v)(h:∀w' s',Inv X pins σ H s'->RelV v w'->Q w' s'):
  wpAny (model X.prog X.w) A (getItem (.ref a) (.ref b)) Q E s:=by
 obtain⟨z,hd,xs,rel,dd⟩:=d.of I
 obtain⟨w',hw,sk⟩:=fb.some_of (v:=v) (o:=(atKey xs k).map (·.2)) (by rw[<- g];exact rel.val k)
 obtain⟨p,hp,gA⟩:=Option.map_eq_some_iff.mp hw
 refine wpAny_getItem_heap (gG hu) ⟨hk,mi I k vf rfl⟩ dd hp ?_
 rw[gA]
 exact h w' _ (I.tok _) sk
theorem Of{Q:Value->Shared->Prop}(hu:A.units+64 < cLine)(I:Inv X pins σ H s)(d:lF X.K H a kvs)(hk:k.dep<=5)(vf:fW X.K H k (.ref b))(h:∀s',Inv X pins σ H s'->Q (.bool (gB kvs k).isSome) s'):
  wpAny (model X.prog X.w) A (compareOp .In (.ref b) (.ref a)) Q E s:=by
 obtain⟨z,hd,xs,rel,dd⟩:=d.of I
 refine wpAny_in_heap (gG hu) ⟨hk,mi I k vf rfl⟩ hd dd ?_
 have q:=nX (rel.val k)
 rw[p6]at q
 rw[<- q]
 exact h _ (I.tok _)
theorem Ca{Q:Value->Shared->Prop}(hu:A.units+64 < cLine)(I:Inv X pins σ H s)(d:lF X.K H a kvs)(hk:k.dep<=5)(vf:fW X.K H k (.ref b))(h:∀s',Inv X pins σ H s'->Q (.bool (!(gB kvs k).isSome)) s'):
  wpAny (model X.prog X.w) A (compareOp .NotIn (.ref b) (.ref a)) Q E s:=by
 obtain⟨z,hd,xs,rel,dd⟩:=d.of I
 refine wpAny_notIn_heap (gG hu) ⟨hk,mi I k vf rfl⟩ hd dd ?_
 have q:=nX (rel.val k)
 rw[p6]at q
 rw[<- q]
 exact h _ (I.tok _)
theorem vW{Q:Unit->Shared->Prop}(hu:A.units+64 < cLine)(I:Inv X pins σ H s)(d:lF X.K H a kvs)(hk:k.dep<=5)(vf:fW X.K H k (.ref b))(hl:kvs.length < sizeLine)(rv:RelV v r)(h:∀s',Inv X pins σ (upd H a (xl a (lb kvs k b v))) s'->Q () s'):
  wpAny (model X.prog X.w) A (setItem (.ref a) (.ref b) r) Q E s:=by
 obtain⟨z,hd,xs,rel,dd⟩:=d.of I
 have hz:xs.length<=sizeLine:=by rw[<- y9 rel];exact z
 have EF:(lb kvs k b v).length<=sizeLine:=by have:=zf kvs k b v;omega
 refine wpAny_setItem_heap (hsz:=hz) (gG hu) ⟨hk,mi I k vf rfl⟩ dd λ h' Jw hs=>h _ ?_
 obtain⟨q,es,ep,hq,h2,h3,h4,_,h5⟩:=Jw
 exact oE I (by rw[d.at_];exact True.intro) hs ⟨q,hq⟩ (AZ ⟨EF,hd,_,rel.put k rv,q,es,ep,hq,h2,h3,h4,h5⟩)
end
section
variable {X:Cx}{pos:Pos}
theorem EV(h:Heap)(hb:sysModules < h.objs.size):Qm h.objs.size [] (h.push {cls:=.type "dict",data:=.dict #[]}):=
 ⟨A4 _,beq_eq_false_iff_ne.mpr (B2 (z7 hb)),[],.nil,_,#[],0,l6 _ rfl,⟨rfl,rfl,rfl⟩,rfl,rfl,nodup_nil⟩
def GL:TE:=λ _ H Q=>∀p,H p=none->Q (.ref p) (upd H p (xl p []))
theorem zA:PE X (.Dict [] [] pos) GL:=λ pins s σ H Q I h=>
 wpAny_Dict_empty ⟨.ref s.heap.objs.size,_,I.laid (a:=s.heap.objs.size) (o:=xl s.heap.objs.size []) (t':=s.toks) (λ _ _ q=>j2 _ q) (A2 _) (AZ (EV s.heap I.big)),rfl,h _ (I.aL.fresh (A2 _))⟩
end
section
variable {prog:Program}{w:World}
theorem Hu{d:Addr}(hd:(d==sysModules)=false):MeetsIn prog w (Builtin.«dict.__len__» ⟨[.ref d],[]⟩) (λ _ R s=>∃o es ep,s.heap.get? d=some o/\o.data=.dict es ep/\R (.ok (.ret (.int es.size s.toks))) {s with toks:=s.toks+1}):=
 .of_wp λ A R s ⟨o,es,ep,ho,Jg,h⟩=>by
  show wpAny _ _ (dictSize d >>= _) _ _ s;unfold dictSize;refine A6 (A6 (wpAny_dictEntries ho Jg (A7 ?_)))
  show wpAny _ _ (Builtin.Dict.pendingCount d >>= _) _ _ s;refine A6 (wpAny_pendingCount_other hd (wpAny_ret_mkInt ?_));rw[Nat.add_zero];exact h
theorem rf{A:Around}{E:Value->Shared->Prop}{s:Shared}{d:Addr}{o:Obj}{es:Array DictEntry}{ep:Nat}{Q:Value->Shared->Prop}(hd:(d==sysModules)=false)(ho:s.heap.get? d=some o)(hc:o.cls=.type "dict")(Jg:o.data=.dict es ep)(hz:es.size<=sizeLine)
  (h:∀t n,Q (.int es.size t) {s with toks:=n}):wpAny (model prog w) A (call (.builtin "len") [.ref d]) Q E s:=by
 have hT:s.TypeIs (.ref d) "dict":=⟨o,ho,hc⟩
 have FW:sizeLine=16777216:=by decide
 have Mo:((es.size:Nat):Int) < 2^63:=by omega
 refine Calls.call_function_entry kind_len plain_len entry_len (args_len1 _) ?_
 unfold Builtin.«len»;refine A6 (m:=oneArg "len" _) (A7 ?_)
 refine A6 (m:=callSpecial? (.ref d) (Str.ofString "__len__")) (i9 (name:=Str.ofString "__len__") hT F.slot_dict_len (call_meetsIn F.slot_dict_len hT F.entry_dict_len (F.args_dict_len_1 _) (Hu hd) ⟨o,es,ep,ho,Jg,?_⟩))
 show wpAny _ _ _ _ _ {s with toks:=s.toks+1};refine A6 (y7 (A7 (A6 (wpAny_letGo ?_))))
 show wpAny _ _ (if((es.size:Nat):Int) < 0 then _ else _) _ _ _;rw[B4 (by omega)]
 show wpAny _ _ (if((es.size:Nat):Int) ≥ 2^63 then _ else _) _ _ _;rw[B4 (by omega)]
 exact A6 (wpAny_mkInt (A7 ⟨_,rfl,h _ _⟩))
end
section
variable {X:Cx}{pins:List (Addr×Obj)}{σ:St}{H:Hp}{s:Shared}{a:Addr}{kvs:List d_}{A:Around}{E:Value->Shared->Prop}
theorem Kr{Q:Value->Shared->Prop}(I:Inv X pins σ H s)(e:H a=some (xl a kvs))(h:∀t s',Inv X pins σ H s'->Q (.int kvs.length t) s'):wpAny (model X.prog X.w) A (call (.builtin "len") [.ref a]) Q E s:=by
 obtain⟨⟨z,y,xs,rel,o,es,ep,h1,h2,h3,h4,h5⟩,_,_⟩:=(show bb X.prog X.w H s.heap a (xl a kvs)from I.aL a _ e)
 have e1:es.size=kvs.length:=by rw[<- l5,h4,x8];exact(y9 rel).symm
 refine rf y h1 h2.1 h3 (by rw[e1];exact z) λ t n=>?_
 rw[e1]
 exact h t _ (I.tok _)
end
end L2
namespace L3
open PySem PySem.Spec L2
inductive D where
 |a_|bl (b:Bool)|int (i:Int)|str (x:Str)|ty (n:String)|ref (a:Addr)
 |tup (xs:List D)
 |fl (xs:List D)
def Gm(K:PySem.W.Frag)(H:Hp)(p:Addr)(xs:List V):Prop:=
 (∃o,H p=some (.jm o (.lst xs)))\/∃(o:Obj) (ah:Array Value) (n:Nat),K.lookup p=some o/\o.cls=.type "list"/\o.dict=none/\o.data=.seq ah n/\ah.size<=sizeLine/\Vals xs ah.toList
theorem Gm.sq {K:PySem.W.Frag}{H:Hp}{p:Addr}{xs:List V}(h:Gm K H p xs):cS K H p xs:=by
 rcases h with h|h
 ·exact .inl (.inr h)
 ·exact .inr h
mutual
def Dat(K:PySem.W.Frag)(H:Hp):D->V->Prop
 | .a_,v=>v=.a_
 | .bl b,v=>v=.bl b
 | .int i,v=>v=.int i
 | .str x,v=>v=.str x
 | .ty n,v=>v=.ty n
 | .ref a,v=>v=.ref a
 | .tup ds,v=>∃p xs,v=.ref p/\ef K H p xs/\az K H ds xs
 | .fl ds,v=>∃p xs,v=.ref p/\Gm K H p xs/\az K H ds xs
def az(K:PySem.W.Frag)(H:Hp):List D->List V->Prop
 |[],xs=>xs=[]
 |d::ds,xs=>∃x r,xs=x::r/\Dat K H d x/\az K H ds r
end
structure ai(H H':Hp):Prop where
 tup:∀b xs,H b=some (.tup xs)->H' b=some (.tup xs)
 jm:∀b o u,H b=some (.jm o u)->H' b=some (.jm o u)
theorem ai.refl (H:Hp):ai H H:=⟨λ _ _ h=>h,λ _ _ _ h=>h⟩
theorem ai.trans {H H1 H2:Hp}(a:ai H H1)(b:ai H1 H2):ai H H2:=⟨λ c xs h=>b.tup c xs (a.tup c xs h),λ c o u h=>b.jm c o u (a.jm c o u h)⟩
theorem ai.laid {H:Hp}{p:Addr}{o:HO}(h:H p=none):ai H (upd H p o):=
 ⟨λ b xs e=>by rw[av (aD e h)];exact e,λ b ob u e=>by rw[av (aD e h)];exact e⟩
theorem ai.lst {H:Hp}{p:Addr}{xs:List V}{o:HO}(h:H p=some (.lst xs)):ai H (upd H p o):=
 ⟨λ b ys e=>by rw[av (gc e h (by intro z;cases z))];exact e,λ b ob u e=>by rw[av (gc e h (by intro z;cases z))];exact e⟩
theorem ai.mut {H:Hp}{p:Addr}{u o:HO}(h:H p=some u)(n1:∀xs,u≠.tup xs)(n2:∀ob w,u≠.jm ob w):ai H (upd H p o):=
 ⟨λ b ys e=>by rw[av (λ z=>by subst z;rw[h]at e;exact n1 ys (w9 e))];exact e,λ b ob w e=>by rw[av (λ z=>by subst z;rw[h]at e;exact n2 ob w (w9 e))];exact e⟩
theorem pG{K:PySem.W.Frag}{H H':Hp}(t:ai H H'){p:Addr}{xs:List V}(h:ef K H p xs):ef K H' p xs:=by
 rcases h with(h|⟨o,h⟩)|h
 ·exact .inl (.inl (t.tup _ _ h))
 ·exact .inl (.inr ⟨o,t.jm _ _ _ h⟩)
 ·exact .inr h
theorem qG{K:PySem.W.Frag}{H H':Hp}(t:ai H H'){p:Addr}{xs:List V}(h:Gm K H p xs):Gm K H' p xs:=by
 rcases h with⟨o,h⟩|h
 ·exact .inl ⟨o,t.jm _ _ _ h⟩
 ·exact .inr h
mutual
theorem Dat.mono {K:PySem.W.Frag}{H H':Hp}(t:ai H H'):∀(d:D) {v:V},Dat K H d v->Dat K H' d v
 | .a_,v,h=>by unfold Dat at h ⊢;exact h
 | .bl b,v,h=>by unfold Dat at h ⊢;exact h
 | .int i,v,h=>by unfold Dat at h ⊢;exact h
 | .str x,v,h=>by unfold Dat at h ⊢;exact h
 | .ty n,v,h=>by unfold Dat at h ⊢;exact h
 | .ref a,v,h=>by unfold Dat at h ⊢;exact h
 | .tup ds,v,h=>by
  unfold Dat at h ⊢
  obtain⟨p,xs,e,q,r⟩:=h
  exact⟨p,xs,e,pG t q,az.mono t ds r⟩
 | .fl ds,v,h=>by
  unfold Dat at h ⊢
  obtain⟨p,xs,e,q,r⟩:=h
  exact⟨p,xs,e,qG t q,az.mono t ds r⟩
theorem az.mono {K:PySem.W.Frag}{H H':Hp}(t:ai H H'):∀(ds:List D) {xs:List V},az K H ds xs->az K H' ds xs
 |[],xs,h=>by unfold az at h ⊢;exact h
 |d::ds,xs,h=>by
  unfold az at h ⊢
  obtain⟨x,r,e,a,b⟩:=h
  exact⟨x,r,e,Dat.mono t d a,az.mono t ds b⟩
end
section
variable {K:PySem.W.Frag}{H:Hp}
theorem cQ{v:V}:Dat K H .a_ v↔v=.a_:=by unfold Dat;exact Iff.rfl
theorem aN{b:Bool}{v:V}:Dat K H (.bl b) v↔v=.bl b:=by unfold Dat;exact Iff.rfl
theorem aq{i:Int}{v:V}:Dat K H (.int i) v↔v=.int i:=by unfold Dat;exact Iff.rfl
theorem aG{x:Str}{v:V}:Dat K H (.str x) v↔v=.str x:=by unfold Dat;exact Iff.rfl
theorem tI{n:String}{v:V}:Dat K H (.ty n) v↔v=.ty n:=by unfold Dat;exact Iff.rfl
theorem aA{a:Addr}{v:V}:Dat K H (.ref a) v↔v=.ref a:=by unfold Dat;exact Iff.rfl
theorem aE{ds:List D}{v:V}:Dat K H (.tup ds) v↔∃p xs,v=.ref p/\ef K H p xs/\az K H ds xs:=by rw[Dat]
theorem gj{ds:List D}{v:V}:Dat K H (.fl ds) v↔∃p xs,v=.ref p/\Gm K H p xs/\az K H ds xs:=by rw[Dat]
theorem ao{xs:List V}:az K H [] xs↔xs=[]:=by unfold az;exact Iff.rfl
theorem af{d:D}{ds:List D}{xs:List V}:az K H (d::ds) xs↔∃x r,xs=x::r/\Dat K H d x/\az K H ds r:=by rw[az]
theorem az.length:∀{ds:List D} {xs:List V},az K H ds xs->xs.length=ds.length
 |[],xs,h=>by rw[ao]at h;subst h;rfl
 |d::ds,xs,h=>by
  rw[af]at h
  obtain⟨x,r,rfl,_,q⟩:=h
  rw[q9,q9,q.length]
theorem az.get:∀{ds:List D} {xs:List V} {i:Nat} {d:D},az K H ds xs->ds[i]?=some d->∃x,xs[i]?=some x/\Dat K H d x
 |[],xs,i,d,h,e=>by simp at e
 |d0::ds,xs,i,d,h,e=>by
  rw[af]at h
  obtain⟨x,r,rfl,a,q⟩:=h
  cases i with
  |zero=>simp at e;subst e;exact⟨x,rfl,a⟩
  |succ i=>
   obtain⟨y,h1,h2⟩:=az.get q (by simpa using e)
   exact⟨y,by simpa using h1,h2⟩
theorem az.tx:∀{ds:List D} {xs:List V} {i:Nat} {x:V},az K H ds xs->xs[i]?=some x->∃d,ds[i]?=some d/\Dat K H d x
 |[],xs,i,x,h,e=>by rw[ao]at h;subst h;simp at e
 |d0::ds,xs,i,x,h,e=>by
  rw[af]at h
  obtain⟨y,r,rfl,a,q⟩:=h
  cases i with
  |zero=>simp at e;subst e;exact⟨d0,rfl,a⟩
  |succ i=>
   obtain⟨d,h1,h2⟩:=az.tx q (by simpa using e)
   exact⟨d,by simpa using h1,h2⟩
theorem az.append:∀{ds es:List D} {xs ys:List V},az K H ds xs->az K H es ys->az K H (ds++es) (xs++ys)
 |[],es,xs,ys,h,q=>by rw[ao]at h;subst h;exact q
 |d::ds,es,xs,ys,h,q=>by
  rw[af]at h
  obtain⟨x,r,rfl,a,b⟩:=h
  rw[cons_append,cons_append,af]
  exact⟨x,_,rfl,a,b.append q⟩
theorem az.one {d:D}{v:V}(h:Dat K H d v):az K H [d] [v]:=by
 rw[af]
 exact⟨v,[],rfl,h,by rw[ao]⟩
theorem az.take:∀{ds:List D} {xs:List V} (n:Nat),az K H ds xs->az K H (ds.take n) (xs.take n)
 |ds,xs,0,h=>by simp[ao]
 |[],xs,n+1,h=>by rw[ao]at h;subst h;simp[ao]
 |d::ds,xs,n+1,h=>by
  rw[af]at h
  obtain⟨x,r,rfl,a,b⟩:=h
  rw[take_succ_cons,take_succ_cons,af]
  exact⟨x,_,rfl,a,b.take n⟩
theorem az.drop:∀{ds:List D} {xs:List V} (n:Nat),az K H ds xs->az K H (ds.drop n) (xs.drop n)
 |ds,xs,0,h=>h
 |[],xs,n+1,h=>by rw[ao]at h;subst h;simp[ao]
 |d::ds,xs,n+1,h=>by
  rw[af]at h
  obtain⟨x,r,rfl,a,b⟩:=h
  exact b.drop n
theorem az.set {d:D}{x:V}(hd:Dat K H d x):∀{ds:List D} {xs:List V} (n:Nat),az K H ds xs->az K H (ds.set n d) (xs.set n x)
 |[],xs,n,h=>by rw[ao]at h;subst h;simp[ao]
 |d0::ds,xs,0,h=>by
  rw[af]at h
  obtain⟨y,r,rfl,a,b⟩:=h
  rw[set_cons_zero,set_cons_zero,af]
  exact⟨x,_,rfl,hd,b⟩
 |d0::ds,xs,n+1,h=>by
  rw[af]at h
  obtain⟨y,r,rfl,a,b⟩:=h
  rw[set_cons_succ,set_cons_succ,af]
  exact⟨y,_,rfl,a,b.set hd n⟩
theorem fR:∀(ns:List Int),az K H (ns.map D.int) (ns.map V.int)
 |[]=>by simp[ao]
 |n::ns=>by
  rw[z4,z4,af]
  exact⟨_,_,rfl,aq.mpr rfl,fR ns⟩
theorem qQ:∀{bs:List Bool} {xs:List V},az K H (bs.map D.bl) xs->xs=bs.map V.bl
 |[],xs,h=>by rw[map_nil,ao]at h;exact h
 |b::bs,xs,h=>by
  rw[z4,af]at h
  obtain⟨x,r,rfl,a,q⟩:=h
  rw[aN]at a
  rw[a,qQ q]
  rfl
theorem mD:∀{ys:List Str} {xs:List V},az K H (ys.map D.str) xs->xs=ys.map V.str
 |[],xs,h=>by rw[map_nil,ao]at h;exact h
 |b::bs,xs,h=>by
  rw[z4,af]at h
  obtain⟨x,r,rfl,a,q⟩:=h
  rw[aG]at a
  rw[a,mD q]
  rfl
end
def iu:Key->D
 | .inl i=>.int i
 | .inr x=>.str x
mutual
def mr:IK->D
 | .i n=>.int n
 | .t ks=>.tup (lg ks)
def lg:List IK->List D
 |[]=>[]
 |k::ks=>mr k::lg ks
end
mutual
theorem kz{K:PySem.W.Frag}{H:Hp}:∀(k:IK) {v:V},Dat K H (mr k) v->fW K H k v
 | .i n,v,h=>by
  unfold mr at h
  unfold fW
  exact aq.mp h
 | .t ks,v,h=>by
  unfold mr at h
  obtain⟨p,xs,rfl,hq,hx⟩:=aE.mp h
  unfold fW
  exact⟨p,xs,rfl,hq,qP ks hx⟩
theorem qP{K:PySem.W.Frag}{H:Hp}:∀(ks:List IK) {xs:List V},az K H (lg ks) xs->iJ K H ks xs
 |[],xs,h=>by
  unfold lg at h
  unfold iJ
  exact ao.mp h
 |k::ks,xs,h=>by
  unfold lg at h
  obtain⟨x,r,rfl,h1,h2⟩:=af.mp h
  unfold iJ
  exact⟨x,r,rfl,kz k h1,qP ks h2⟩
end
mutual
theorem oh:∀{a b:IK},mr a=mr b->a=b
 | .i n,.i m,h=>by unfold mr at h;cases h;rfl
 | .i n,.t ks,h=>by unfold mr at h;cases h
 | .t ks,.i n,h=>by unfold mr at h;cases h
 | .t ks,.t ls,h=>by unfold mr at h;rw[qA (D.tup.inj h)]
theorem qA:∀{as bs:List IK},lg as=lg bs->as=bs
 |[],[],_=>rfl
 |[],b::bs,h=>by unfold lg at h;cases h
 |a::as,[],h=>by unfold lg at h;cases h
 |a::as,b::bs,h=>by
  unfold lg at h
  injection h with h1 h2
  rw[oh h1,qA h2]
end
theorem qq{a b:Key}(h:iu a=iu b):a=b:=by
 cases a with
 |inl i=>cases b with
  |inl j=>have e:D.int i=D.int j:=h;cases e;rfl
  |inr y=>have e:D.int i=D.str y:=h;cases e
 |inr x=>cases b with
  |inl j=>have e:D.str x=D.int j:=h;cases e
  |inr y=>have e:D.str x=D.str y:=h;cases e;rfl
theorem oC{K:PySem.W.Frag}{H:Hp}{k:Key}{v:V}(h:Dat K H (iu k) v):v=kV k:=by
 cases k with
 |inl i=>exact aq.mp h
 |inr x=>exact aG.mp h
inductive MO where
 |lst (ds:List D)
  |eL (t:Bool) (kvs:List (D×D))
abbrev Fs(K:PySem.W.Frag)(H:Hp):List (D×D)->List (Key×V)->Prop:=Paired λ p q=>p.1=iu q.1/\Dat K H p.2 q.2
abbrev BI(K:PySem.W.Frag)(H:Hp):List (D×D)->List d_->Prop:=Paired λ p q=>p.1=mr q.1/\q.1.dep<=5/\Dat K H p.1 (.ref q.2.1)/\Dat K H p.2 q.2.2
theorem Fs.mono {K:PySem.W.Frag}{H H':Hp}(t:ai H H'){kvs:List (D×D)}{xs:List (Key×V)}(h:Fs K H kvs xs):Fs K H' kvs xs:=Paired.zU h λ p q z=>⟨z.1,Dat.mono t _ z.2⟩
theorem BI.mono {K:PySem.W.Frag}{H H':Hp}(t:ai H H'){kvs:List (D×D)}{xs:List d_}(h:BI K H kvs xs):BI K H' kvs xs:=Paired.zU h λ p q z=>⟨z.1,z.2.1,Dat.mono t _ z.2.2.1,Dat.mono t _ z.2.2.2⟩
abbrev Mem:=Addr->Option MO
def aw(M:Mem)(a:Addr)(o:MO):Mem:=λ b=>if b=a then some o else M b
theorem ar{M:Mem}{a:Addr}{o:MO}:aw M a o a=some o:=by unfold aw;rw[B3 rfl]
theorem aB{M:Mem}{a b:Addr}{o:MO}(h:b≠a):aw M a o b=M b:=by unfold aw;rw[B4 h]
theorem dQ{M:Mem}{a:Addr}{o u:MO}:aw (aw M a o) a u=aw M a u:=by funext b;unfold aw;split <;> rfl
def tY(K:PySem.W.Frag)(H:Hp)(a:Addr):MO->Prop
 | .lst ds=>∃xs,H a=some (.lst xs)/\az K H ds xs
 | .eL false kvs=>∃xs,H a=some (.dK xs)/\Fs K H kvs xs
 | .eL true kvs=>∃xs,H a=some (xl a xs)/\BI K H kvs xs
def RelM(K:PySem.W.Frag)(H:Hp)(M:Mem):Prop:=∀a o,M a=some o->tY K H a o
theorem tY.there {K:PySem.W.Frag}{H:Hp}{a:Addr}{o:MO}(h:tY K H a o):∃u,H a=some u:=by
 cases o with
 |lst ds=>obtain⟨xs,h,_⟩:=h;exact⟨_,h⟩
 |eL t kvs=>
  cases t with
  |false=>obtain⟨xs,h,_⟩:=h;exact⟨_,h⟩
  |true=>obtain⟨xs,h,_⟩:=h;exact⟨_,h⟩
theorem tY.mono {K:PySem.W.Frag}{H H':Hp}{a:Addr}{o:MO}(h:tY K H a o)(t:ai H H')(e:H' a=H a):tY K H' a o:=by
 cases o with
 |lst ds=>obtain⟨xs,h,q⟩:=h;exact⟨xs,e.trans h,az.mono t ds q⟩
 |eL b kvs=>
  cases b with
  |false=>obtain⟨xs,h,q⟩:=h;exact⟨xs,e.trans h,q.mono t⟩
  |true=>obtain⟨xs,h,q⟩:=h;exact⟨xs,e.trans h,q.mono t⟩
theorem RelM.free {K:PySem.W.Frag}{H:Hp}{M:Mem}(h:RelM K H M){p:Addr}(n:H p=none):M p=none:=by
 cases e:M p with
 |none=>rfl
 |some o=>obtain⟨u,q⟩:=(h p o e).there;rw[n]at q;cases q
theorem RelM.laid {K:PySem.W.Frag}{H:Hp}{M:Mem}(h:RelM K H M){p:Addr}{o:HO}(n:H p=none):RelM K (upd H p o) M:=λ a u e=>by
 obtain⟨w,q⟩:=(h a u e).there
 exact(h a u e).mono (ai.laid n) (av (aD q n))
theorem RelM.put {K:PySem.W.Frag}{H:Hp}{M:Mem}(h:RelM K H M){p:Addr}{o:HO}{u:MO}(t:ai H (upd H p o))(new:tY K (upd H p o) p u):RelM K (upd H p o) (aw M p u):=λ a w e=>by
 by_cases ha:a=p
 ·subst ha;rw[ar]at e;cases e;exact new
 ·rw[aB ha]at e
  exact(h a w e).mono t (av ha)
def ja(M M':Mem):Prop:=∀a o,M a=some o->M' a=some o
theorem ja.refl (M:Mem):ja M M:=λ _ _ h=>h
theorem ja.put {M M':Mem}{p:Addr}{o:MO}(h:ja M M')(n:M p=none):ja M (aw M' p o):=λ a u e=>by
 rw[aB (λ z=>by subst z;rw[n]at e;cases e)]
 exact h a u e
theorem RelM.sub {K:PySem.W.Frag}{H:Hp}{M M':Mem}(h:RelM K H M')(s:ja M M'):RelM K H M:=λ a o e=>h a o (s a o e)
abbrev cD:=List (Option D)
structure bD(K:PySem.W.Frag)(H:Hp)(δ:cD)(σ:St):Prop where
 len:δ.length=σ.length
 get:∀(i:Nat) (d:D),δ[i]?=some (some d)->∃v,σ[i]?=some (some v)/\Dat K H d v
theorem bD.mono {K:PySem.W.Frag}{H H':Hp}{δ:cD}{σ:St}(h:bD K H δ σ)(t:ai H H'):bD K H' δ σ:=
 ⟨h.len,λ i d e=>let⟨v,q,r⟩:=h.get i d e;⟨v,q,Dat.mono t d r⟩⟩
theorem bD.set {K:PySem.W.Frag}{H:Hp}{δ:cD}{σ:St}(h:bD K H δ σ){i:Nat}{d:D}{v:V}(r:Dat K H d v):bD K H (δ.set i (some d)) (σ.set i (some v)):=by
 refine⟨by rw[length_set,length_set];exact h.len,λ j e hj=>?_⟩
 by_cases ou:i=j
 ·subst ou
  have hi:i < δ.length:=by
   have:=(g9.mp hj).1
   simpa using this
  rw[getElem?_set_self hi]at hj
  cases hj
  exact⟨v,by rw[getElem?_set_self (by rw[<- h.len];exact hi)],r⟩
 ·rw[getElem?_set_ne ou]at hj
  obtain⟨u,q,w⟩:=h.get j e hj
  exact⟨u,by rw[getElem?_set_ne ou];exact q,w⟩
abbrev bq:=D->Mem->Prop
abbrev bV:=cD->Mem->bq->Prop
abbrev dh:=cD->Mem->(Bool->Mem->Prop)->Prop
abbrev eW:=cD->Mem->(List D->Mem->Prop)->Prop
structure cJ where
 nx:cD->Mem->Prop
 rt:bq
 bk:cD->Mem->Prop:=λ _ _=>False
 ct:cD->Mem->Prop:=λ _ _=>False
abbrev fS:=cJ->cD->Mem->Prop
def f_(K:PySem.W.Frag)(H:Hp)(Q2:bq)(Q:VK):Prop:=∀v H' d M',Dat K H' d v->RelM K H' M'->ai H H'->Q2 d M'->Q v H'
def rG(K:PySem.W.Frag)(H:Hp)(Q2:Bool->Mem->Prop)(Q:Bool->Hp->Prop):Prop:=∀b H' M',RelM K H' M'->ai H H'->Q2 b M'->Q b H'
def Nb(K:PySem.W.Frag)(H:Hp)(Q2:List D->Mem->Prop)(Q:List V->Hp->Prop):Prop:=∀vs H' ds M',az K H' ds vs->RelM K H' M'->ai H H'->Q2 ds M'->Q vs H'
def iR(K:PySem.W.Frag)(H:Hp)(N2:cD->Mem->Prop)(N:St->Hp->Prop):Prop:=∀σ' H' δ' M',bD K H' δ' σ'->RelM K H' M'->ai H H'->N2 δ' M'->N σ' H'
structure mP(K:PySem.W.Frag)(H:Hp)(D2:cJ)(E:Ends):Prop where
 nx:iR K H D2.nx E.nx
 rt:f_ K H D2.rt E.rt
 bk:iR K H D2.bk E.bk
 ct:iR K H D2.ct E.ct
theorem f_.mono {K:PySem.W.Frag}{H H1:Hp}{Q2:bq}{Q:VK}(c:f_ K H Q2 Q)(t:ai H H1):f_ K H1 Q2 Q:=λ v H' d M' a b e q=>c v H' d M' a b (t.trans e) q
theorem rG.mono {K:PySem.W.Frag}{H H1:Hp}{Q2:Bool->Mem->Prop}{Q:Bool->Hp->Prop}(c:rG K H Q2 Q)(t:ai H H1):rG K H1 Q2 Q:=λ v H' M' b e q=>c v H' M' b (t.trans e) q
theorem iR.mono {K:PySem.W.Frag}{H H1:Hp}{N2:cD->Mem->Prop}{N:St->Hp->Prop}(c:iR K H N2 N)(t:ai H H1):iR K H1 N2 N:=λ v H' d M' a b e q=>c v H' d M' a b (t.trans e) q
theorem mP.mono {K:PySem.W.Frag}{H H1:Hp}{D2:cJ}{E:Ends}(c:mP K H D2 E)(t:ai H H1):mP K H1 D2 E:=⟨c.nx.mono t,c.rt.mono t,c.bk.mono t,c.ct.mono t⟩
def up(K:PySem.W.Frag)(t:bV):TE:=λ σ H Q=>∃δ M Q2,bD K H δ σ/\RelM K H M/\t δ M Q2/\f_ K H Q2 Q
def ud(K:PySem.W.Frag)(t:dh):TT:=λ σ H Q=>∃δ M Q2,bD K H δ σ/\RelM K H M/\t δ M Q2/\rG K H Q2 Q
def QR(K:PySem.W.Frag)(t:eW):TA:=λ σ H Q=>∃δ M Q2,bD K H δ σ/\RelM K H M/\t δ M Q2/\Nb K H Q2 Q
def Ob(K:PySem.W.Frag)(t:fS):TS:=λ E σ H=>∃δ M D2,bD K H δ σ/\RelM K H M/\t D2 δ M/\mP K H D2 E
abbrev QE(X:Cx)(e:Expr)(t:bV):Prop:=PE X e (up X.K t)
abbrev QT(X:Cx)(e:Expr)(t:dh):Prop:=PT X e (ud X.K t)
abbrev QW(X:Cx)(e:Expr)(t:dh):Prop:=PW X e (ud X.K t)
abbrev QA(X:Cx)(es:List Expr)(t:eW):Prop:=PA X es (QR X.K t)
abbrev QS(X:Cx)(st:Stmt)(t:fS):Prop:=PS X st (Ob X.K t)
abbrev BF(X:Cx)(Fx:List Stmt)(t:fS):Prop:=lB X Fx (Ob X.K t)
theorem bJ{X:Cx}{e:Expr}{t t':TE}(h:PE X e t)(k:∀σ H Q,t' σ H Q->t σ H Q):PE X e t':=λ pins s σ H Q I q=>h pins s σ H Q I (k σ H Q q)
theorem zi{X:Cx}{e:Expr}{t t':TT}(h:PT X e t)(k:∀σ H Q,t' σ H Q->t σ H Q):PT X e t':=λ pins s σ H Q I q=>h pins s σ H Q I (k σ H Q q)
theorem FD{X:Cx}{e:Expr}{t t':TT}(h:PW X e t)(k:∀σ H Q,t' σ H Q->t σ H Q):PW X e t':=λ wh pins s σ H Q I q=>h wh pins s σ H Q I (k σ H Q q)
theorem zC{X:Cx}{es:List Expr}{t t':TA}(h:PA X es t)(k:∀σ H Q,t' σ H Q->t σ H Q):PA X es t':=λ pos pins s σ H Q I q=>h pos pins s σ H Q I (k σ H Q q)
theorem f'{X:Cx}{st:Stmt}{t t':TS}(h:PS X st t)(k:∀E σ H,t' E σ H->t E σ H):PS X st t':=λ pins s σ H E I q=>h pins s σ H E I (k E σ H q)
theorem zj{X:Cx}{Fx:List Stmt}{t t':TS}(h:lB X Fx t)(k:∀E σ H,t' E σ H->t E σ H):lB X Fx t':=λ pins s σ H E I q=>h pins s σ H E I (k E σ H q)
end L3
namespace L3
open PySem PySem.Spec L2
abbrev eX:=D->D->Mem->bq->Prop
def JM(K:PySem.W.Frag)(r:R2)(r2:eX):Prop:=∀x y d e H M Q2 Q,Dat K H d x->Dat K H e y->RelM K H M->r2 d e M Q2->f_ K H Q2 Q->r x y H Q
def Qx(K:PySem.W.Frag)(r:V->Hp->VK->Prop)(r2:D->Mem->bq->Prop):Prop:=∀x d H M Q2 Q,Dat K H d x->RelM K H M->r2 d M Q2->f_ K H Q2 Q->r x H Q
def JN(K:PySem.W.Frag)(r:List V->Hp->VK->Prop)(r2:List D->Mem->bq->Prop):Prop:=∀xs ds H M Q2 Q,az K H ds xs->RelM K H M->r2 ds M Q2->f_ K H Q2 Q->r xs H Q
def Qy(K:PySem.W.Frag)(r:V->List V->Hp->VK->Prop)(r2:D->List D->Mem->bq->Prop):Prop:=∀x xs d ds H M Q2 Q,Dat K H d x->az K H ds xs->RelM K H M->r2 d ds M Q2->f_ K H Q2 Q->r x xs H Q
def MV(K:PySem.W.Frag)(r:V->Option Int->Option Int->Hp->VK->Prop)(r2:D->Option Int->Option Int->Mem->bq->Prop):Prop:=∀x d lo hi H M Q2 Q,Dat K H d x->RelM K H M->r2 d lo hi M Q2->f_ K H Q2 Q->r x lo hi H Q
def eY(X:Cx)(f:Value->Value->Sem Value)(r2:eX):Prop:=∃r,eo X f r/\JM X.K r r2
def Qv(X:Cx)(f:Value->Sem Value)(r2:D->Mem->bq->Prop):Prop:=∃r,NZ X f r/\Qx X.K r r2
def M9(X:Cx)(r2:eX):Prop:=∃r,tZ X r/\JM X.K r r2
def MW(X:Cx)(r2:D->Option Int->Option Int->Mem->bq->Prop):Prop:=∃r,vJ X r/\MV X.K r r2
def cK(X:Cx)(f:Value)(r2:List D->Mem->bq->Prop):Prop:=∃r,b_ X f r/\JN X.K r r2
def JQ(X:Cx)(id:String)(r2:D->List D->Mem->bq->Prop):Prop:=∃r,QF X id r/\Qy X.K r r2
section
variable {X:Cx}{a b c e:Expr}{ta tb tc:bV}{pos:Pos}
def ib(i:Nat):bV:=λ δ M Q=>match δ[i]? with
 |some (some d)=>Q d M
 |_=>False
def sC(d:D):bV:=λ _ M Q=>Q d M
theorem Sa(i:Nat){x:Str}(hN:X.N[i]?=some x:=by rfl)(hv:MT X.env.scope x:=by first|exact Or.inl rfl|exact Or.inr (Or.inl rfl)|exact Or.inr (Or.inr rfl))(hd:(x==("__debug__":Str))=false:=by decide)
  (hcd:(x==("__classdict__":Str))=false:=by decide):QE X (.Name x pos) (ib i):=bJ (zv hN hv hd hcd) λ σ H Q ⟨δ,M,Q2,hs,hm,q,k⟩=>by
 unfold ib at q
 cases e:δ[i]? with
 |none=>rw[e]at q;exact q.elim
 |some o=>
  cases o with
  |none=>rw[e]at q;exact q.elim
  |some d=>
   rw[e]at q
   obtain⟨v,h1,h2⟩:=hs.get i d e
   exact⟨v,h1,k v H d M h2 hm (ai.refl H) q⟩
theorem Lf{i j}:QE X (.Constant (.int i) j pos) (sC (.int i)):=bJ zy λ σ H Q ⟨δ,M,Q2,hs,hm,q,k⟩=>k _ H (.int i) M (aq.mpr rfl) hm (ai.refl H) q
theorem OL{i j}:QE X (.Constant (.bool i) j pos) (sC (.bl i)):=bJ Lo λ σ H Q ⟨δ,M,Q2,hs,hm,q,k⟩=>k _ H (.bl i) M (aN.mpr rfl) hm (ai.refl H) q
theorem FC{i j}:QE X (.Constant (.str i) j pos) (sC (.str i)):=bJ sL λ σ H Q ⟨δ,M,Q2,hs,hm,q,k⟩=>k _ H (.str i) M (aG.mpr rfl) hm (ai.refl H) q
theorem Ld{j}:QE X (.Constant .none j pos) (sC .a_):=bJ H_ λ σ H Q ⟨δ,M,Q2,hs,hm,q,k⟩=>k _ H .a_ M (cQ.mpr rfl) hm (ai.refl H) q
theorem OH{x:Str}{n:String}(hg:Gl X x)(hm:X.mg x=none)(hv:bootBuiltins x=some (.type n))(hn:x≠"__name__":=by decide)(hd:(x==("__debug__":Str))=false:=by decide):QE X (.Name x pos) (sC (.ty n)):=
 bJ (DE (v:=.ty n) hg hm hv rfl hn hd) λ σ H Q ⟨δ,M,Q2,hs,hm,q,k⟩=>k _ H (.ty n) M (tI.mpr rfl) hm (ai.refl H) q
def we(r2:eX)(ta tb:bV):bV:=λ δ M Q=>ta δ M λ d M1=>tb δ M1 λ e M2=>r2 d e M2 Q
theorem jg{K:PySem.W.Frag}{r:R2}{r2:eX}(hr:JM K r r2):∀σ H Q,up K (we r2 ta tb) σ H Q->JV r (up K ta) (up K tb) σ H Q:=by
 rintro σ H Q ⟨δ,M,Q2,hs,hm,q,k⟩
 refine⟨δ,M,_,hs,hm,q,λ x H1 d M1 hd bU t1 q1=>?_⟩
 refine⟨δ,M1,_,hs.mono t1,bU,q1,λ y H2 e M2 he mw t2 q2=>?_⟩
 exact hr x y d e H2 M2 Q2 Q (Dat.mono t2 d hd) he mw q2 (k.mono (t1.trans t2))
theorem OI{op:Operator}{r2:eX}(o:eY X (binaryOp op) r2)(ha:QE X a ta)(hb:QE X b tb):QE X (.BinOp a op b pos) (we r2 ta tb):=by
 obtain⟨r,ho,hr⟩:=o
 exact bJ (Ln ho ha hb) (jg hr)
def Ou(r2:D->Mem->bq->Prop)(ta:bV):bV:=λ δ M Q=>ta δ M λ d M1=>r2 d M1 Q
theorem OG{op:UnaryOp}{r2:D->Mem->bq->Prop}(o:Qv X (unaryOp op) r2)(ha:QE X a ta):QE X (.UnaryOp op a pos) (Ou r2 ta):=by
 obtain⟨r,ho,hr⟩:=o
 refine bJ (Lm ho ha) ?_
 rintro σ H Q ⟨δ,M,Q2,hs,hm,q,k⟩
 exact⟨δ,M,_,hs,hm,q,λ x H1 d M1 hd bU t1 q1=>hr x d H1 M1 Q2 Q hd bU q1 (k.mono t1)⟩
theorem Lh{op:CmpOp}{r2:eX}(o:eY X (compareOp op) r2)(ha:QE X a ta)(hb:QE X b tb)(hm:behindInMarks op b=false):QE X (.Compare a [op] [b] pos) (we r2 ta tb):=by
 obtain⟨r,ho,hr⟩:=o
 exact bJ (DC ho ha hb hm) (jg hr)
def lW(t:bV):dh:=λ δ M Q=>t δ M λ d M1=>match d with
 | .bl k=>Q k M1
 |_=>False
theorem lO{K:PySem.W.Frag}{H:Hp}{Q2:Bool->Mem->Prop}{Q:Bool->Hp->Prop}(k:rG K H Q2 Q):f_ K H (λ d M1=>match d with| .bl k=>Q2 k M1|_=>False) (λ x H'=>∃k,x=.bl k/\Q k H'):=λ v H' d M' hd hm t q=>by
 cases d with
 |bl b=>exact⟨b,aN.mp hd,k b H' M' hm t q⟩
 |_=>exact q.elim
theorem Hz{op:CmpOp}{r2:eX}(o:eY X (compareOp op) r2)(ha:QE X a ta)(hb:QE X b tb)(hm:behindInMarks op b=false):QT X (.Compare a [op] [b] pos) (lW (we r2 ta tb)):=by
 obtain⟨r,ho,hr⟩:=o
 refine zi (Dq ho ha hb hm) ?_
 rintro σ H Q ⟨δ,M,Q2,hs,hm,q,k⟩
 exact jg hr σ H _ ⟨δ,M,_,hs,hm,q,lO k⟩
theorem Hx(h:QE X e ta)(he:∀whole,isTrue e X.env whole=(do let v <- whole;standAt e.pos;holding [v] (truthy v)):=by intro _;rfl):QT X e (lW ta):=by
 refine zi (zh h he) ?_
 rintro σ H Q ⟨δ,M,Q2,hs,hm,q,k⟩
 exact⟨δ,M,_,hs,hm,q,lO k⟩
variable {tA tB:dh}{rest:List Expr}
def GY(t u:dh):dh:=λ δ M Q=>t δ M λ c M1=>if c=true then u δ M1 Q else Q false M1
def Ow(t u:dh):dh:=λ δ M Q=>t δ M λ c M1=>if c=true then Q true M1 else u δ M1 Q
def GW(t:dh):dh:=λ δ M Q=>t δ M λ c M1=>Q (!c) M1
theorem C6(ha:QT X a tA):QW X (.BoolOp .And [a] pos) tA:=Dp ha
theorem Hv(ha:QT X a tA):QW X (.BoolOp .Or [a] pos) tA:=HP ha
theorem Hw(ha:QT X a tA)(hb:QW X (.BoolOp .And (b::rest) pos) tB):QW X (.BoolOp .And (a::b::rest) pos) (GY tA tB):=FD (HQ ha hb) λ σ H Q ⟨δ,M,Q2,hs,hm,q,k⟩=>by
 refine⟨δ,M,_,hs,hm,q,λ c H1 M1 bU t1 q1=>?_⟩
 cases c with
 |true=>
  rw[B3 rfl]at q1 ⊢
  exact⟨δ,M1,Q2,hs.mono t1,bU,q1,k.mono t1⟩
 |false=>
  rw[B4 l8]at q1 ⊢
  exact k _ _ _ bU t1 q1
theorem K'(ha:QT X a tA)(hb:QW X (.BoolOp .Or (b::rest) pos) tB):QW X (.BoolOp .Or (a::b::rest) pos) (Ow tA tB):=FD (Lj ha hb) λ σ H Q ⟨δ,M,Q2,hs,hm,q,k⟩=>by
 refine⟨δ,M,_,hs,hm,q,λ c H1 M1 bU t1 q1=>?_⟩
 cases c with
 |true=>
  rw[B3 rfl]at q1 ⊢
  exact k _ _ _ bU t1 q1
 |false=>
  rw[B4 l8]at q1 ⊢
  exact⟨δ,M1,Q2,hs.mono t1,bU,q1,k.mono t1⟩
theorem Hy(ha:QT X a tA):QT X (.UnaryOp .Not a pos) (GW tA):=zi (HR ha) λ σ H Q ⟨δ,M,Q2,hs,hm,q,k⟩=>⟨δ,M,_,hs,hm,q,λ c H1 M1 bU t1 q1=>k _ _ _ bU t1 q1⟩
def yF(ta tb:bV):bV:=λ δ M Q=>ta δ M λ d M1=>match d with
 | .bl c=>if c=true then tb δ M1 Q else Q (.bl false) M1
 |_=>False
theorem Lc{op}(h:QE X a ta):QE X (.BoolOp op [a] pos) ta:=H9 h
theorem Li(ha:QE X a ta)(hb:QE X (.BoolOp .And (b::rest) pos) tb):QE X (.BoolOp .And (a::b::rest) pos) (yF ta tb):=bJ (Ib ha hb) λ σ H Q ⟨δ,M,Q2,hs,hm,q,k⟩=>by
 refine⟨δ,M,_,hs,hm,q,λ x H1 d M1 hd bU t1 q1=>?_⟩
 cases d with
 |bl c=>
  refine⟨c,aN.mp hd,?_⟩
  have q1:if c=true then tb δ M1 Q2 else Q2 (.bl false) M1:=q1
  cases c with
  |true=>
   rw[B3 rfl]at q1 ⊢
   exact⟨δ,M1,Q2,hs.mono t1,bU,q1,k.mono t1⟩
  |false=>
   rw[B4 l8]at q1 ⊢
   exact k _ _ _ _ (aN.mpr rfl) bU t1 q1
 |_=>exact q1.elim
variable {es:List Expr}{t:eW}
def Cn:eW:=λ _ M Q=>Q [] M
def uv(ta:bV)(tr:eW):eW:=λ δ M Q=>ta δ M λ d M1=>tr δ M1 λ ds M2=>Q (d::ds) M2
theorem zd:QA X [] Cn:=zC cu λ σ H Q ⟨δ,M,Q2,hs,hm,q,k⟩=>k [] H [] M (by rw[ao]) hm (ai.refl H) q
theorem uF(ha:QE X e ta)(hr:QA X es t)(hs:starEach (e::es) X.env=(false,eval e X.env)::starEach es X.env:=by rfl):QA X (e::es) (uv ta t):=zC (aK ha hr hs) λ σ H Q ⟨δ,M,Q2,hs,hm,q,k⟩=>by
 refine⟨δ,M,_,hs,hm,q,λ x H1 d M1 hd bU t1 q1=>?_⟩
 refine⟨δ,M1,_,hs.mono t1,bU,q1,λ xs H2 ds M2 EJ mw t2 q2=>?_⟩
 exact k (x::xs) H2 (d::ds) M2 (af.mpr ⟨x,xs,rfl,Dat.mono t2 d hd,EJ⟩) mw (t1.trans t2) q2
def GU(t:eW):bV:=λ δ M Q=>t δ M λ ds M1=>ds.length<=sizeLine/\Q (.tup ds) M1
theorem fH{K:PySem.W.Frag}{H:Hp}{p:Addr}{xs:List V}{ds:List D}(hp:H p=none)(h:az K H ds xs):Dat K (upd H p (.tup xs)) (.tup ds) (.ref p):=aE.mpr ⟨p,xs,rfl,ef.of aI,az.mono (ai.laid hp) ds h⟩
theorem Lb{x1}(h:QA X es t):QE X (.Tuple es x1 pos) (GU t):=bJ (nM h) λ σ H Q ⟨δ,M,Q2,hs,hm,q,k⟩=>by
 refine⟨δ,M,_,hs,hm,q,λ xs H1 ds M1 hd bU t1 q1=>?_⟩
 refine⟨by rw[hd.length];exact q1.1,λ p hp=>?_⟩
 exact k _ _ (.tup ds) M1 (fH hp hd) (bU.laid hp) (t1.trans (ai.laid hp)) q1.2
def GX(t:eW):bV:=λ δ M Q=>t δ M λ ds M1=>ds.length<=sizeLine/\∀p,M1 p=none->Q (.ref p) (aw M1 p (.lst ds))
theorem cw{K:PySem.W.Frag}{H:Hp}{M:Mem}{p:Addr}{xs:List V}{ds:List D}(hp:H p=none)(h:az K H ds xs)(hm:RelM K H M):RelM K (upd H p (.lst xs)) (aw M p (.lst ds)):=
 hm.put (ai.laid hp) ⟨xs,aI,az.mono (ai.laid hp) ds h⟩
theorem Le(h:QA X es t):QE X (.List es pos) (GX t):=bJ (zx h) λ σ H Q ⟨δ,M,Q2,hs,hm,q,k⟩=>by
 refine⟨δ,M,_,hs,hm,q,λ xs H1 ds M1 hd bU t1 q1=>?_⟩
 refine⟨by rw[hd.length];exact q1.1,λ p hp=>?_⟩
 exact k _ _ (.ref p) _ (aA.mpr rfl) (cw hp hd bU) (t1.trans (ai.laid hp)) (q1.2 p (bU.free hp))
theorem OJ{r2:eX}(o:M9 X r2)(ha:QE X a ta)(hb:QE X b tb)(hs:oW b):QE X (.Subscript a b pos) (we r2 ta tb):=by
 obtain⟨r,ho,hr⟩:=o
 exact bJ (FJ ho ha hb hs) (jg hr)
abbrev Fo:=cD->Mem->(Option Int->Mem->Prop)->Prop
def M_(K:PySem.W.Frag)(H:Hp)(Q2:Option Int->Mem->Prop)(Q:Option Int->Hp->Prop):Prop:=∀o H' M',RelM K H' M'->ai H H'->Q2 o M'->Q o H'
def RO(K:PySem.W.Frag)(t:Fo):TO:=λ σ H Q=>∃δ M Q2,bD K H δ σ/\RelM K H M/\t δ M Q2/\M_ K H Q2 Q
abbrev QO(X:Cx)(e:Option Expr)(t:Fo):Prop:=PO X e (RO X.K t)
theorem FG{e:Option Expr}{t t':TO}(h:PO X e t)(k:∀σ H Q,t' σ H Q->t σ H Q):PO X e t':=λ pins s σ H Q I q=>h pins s σ H Q I (k σ H Q q)
def nA:Fo:=λ _ M Q=>Q none M
def yB(t:bV):Fo:=λ δ M Q=>t δ M λ d M1=>match d with
 | .int i=>Q (some i) M1
 |_=>False
theorem De:QO X none nA:=FG Dt λ σ H Q ⟨δ,M,Q2,hs,hm,q,k⟩=>k _ _ _ hm (ai.refl H) q
theorem Dc(h:QE X e ta):QO X (some e) (yB ta):=FG (Ds h) λ σ H Q ⟨δ,M,Q2,hs,hm,q,k⟩=>by
 refine⟨δ,M,_,hs,hm,q,λ x H1 d M1 hd bU t1 q1=>?_⟩
 cases d with
 |int i=>exact⟨i,aq.mp hd,k _ _ _ bU t1 q1⟩
 |_=>exact q1.elim
variable {lo hi:Option Expr}{tl th:Fo}{p2:Pos}
def Ov(r2:D->Option Int->Option Int->Mem->bq->Prop)(te:bV)(tl th:Fo):bV:=λ δ M Q=>te δ M λ d M1=>tl δ M1 λ l M2=>th δ M2 λ u M3=>r2 d l u M3 Q
theorem Dk{r2:D->Option Int->Option Int->Mem->bq->Prop}(o:MW X r2)(he:QE X e ta)(hl:QO X lo tl)(hu:QO X hi th):QE X (.Subscript e (.Slice lo hi none p2) pos) (Ov r2 ta tl th):=by
 obtain⟨r,ho,hr⟩:=o
 refine bJ (zw ho he hl hu) ?_
 rintro σ H Q ⟨δ,M,Q2,hs,hm,q,k⟩
 refine⟨δ,M,_,hs,hm,q,λ x H1 d M1 hd bU t1 q1=>?_⟩
 refine⟨δ,M1,_,hs.mono t1,bU,q1,λ l H2 M2 mw t2 q2=>?_⟩
 refine⟨δ,M2,_,hs.mono (t1.trans t2),mw,q2,λ u H3 M3 EE t3 q3=>?_⟩
 exact hr x d l u H3 M3 Q2 Q (Dat.mono (t2.trans t3) d hd) EE q3 (k.mono (t1.trans (t2.trans t3)))
def JX(r2:List D->Mem->bq->Prop)(t:eW):bV:=λ δ M Q=>t δ M λ ds M1=>r2 ds M1 Q
variable {x:Str}{p:Pos}{id T:String}
theorem vC{K:PySem.W.Frag}{r:List V->Hp->VK->Prop}{r2:List D->Mem->bq->Prop}(hr:JN K r r2):∀σ H Q,up K (JX r2 t) σ H Q->GN r (QR K t) σ H Q:=by
 rintro σ H Q ⟨δ,M,Q2,hs,hm,q,k⟩
 exact⟨δ,M,_,hs,hm,q,λ xs H1 ds M1 hd bU t1 q1=>hr xs ds H1 M1 Q2 Q hd bU q1 (k.mono t1)⟩
theorem Dm{r2:List D->Mem->bq->Prop}(o:cK X (.builtin id) r2)(hg:Gl X x)(hm:X.mg x=none)(hv:bootBuiltins x=some (.builtin id))(ha:QA X (e::es) t)(hn:x≠"__name__":=by decide)(hdb:(x==("__debug__":Str))=false:=by decide)
  (he:starEach (e::es) X.env=(false,eval e X.env)::starEach es X.env:=by rfl) (hpl:(backTo pos (starEach es X.env)).any (·.1)=false:=by rfl):QE X (.Call (.Name x p) (e::es) [] pos) (JX r2 t):=by
 obtain⟨r,ho,hr⟩:=o
 exact bJ (gL ho hg hm hv ha hn hdb he hpl) (vC hr)
theorem Dl{r2:List D->Mem->bq->Prop}(o:cK X (.type T) r2)(hg:Gl X x)(hm:X.mg x=none)(hv:bootBuiltins x=some (.type T))(ha:QA X (e::es) t)(hn:x≠"__name__":=by decide)(hdb:(x==("__debug__":Str))=false:=by decide)
  (he:starEach (e::es) X.env=(false,eval e X.env)::starEach es X.env:=by rfl) (hpl:(backTo pos (starEach es X.env)).any (·.1)=false:=by rfl):QE X (.Call (.Name x p) (e::es) [] pos) (JX r2 t):=by
 obtain⟨r,ho,hr⟩:=o
 exact bJ (ig ho hg hm hv ha hn hdb he hpl) (vC hr)
end
end L3
namespace L3
open PySem PySem.Spec L2
def JU(T:String)(d:D)(M:Mem):Prop:=match d with
 | .str _=>T="str"
 | .ref a=>T="list"/\∃ds,M a=some (.lst ds)
 |_=>False
theorem JU.v {K:PySem.W.Frag}{H:Hp}{M:Mem}{T:String}{d:D}{x:V}(h:JU T d M)(r:Dat K H d x)(hm:RelM K H M):Od K T x H:=by
 cases d with
 |str z=>cases(aG.mp r);exact h
 |ref a=>
  cases(aA.mp r)
  obtain⟨e,ds,q⟩:=h
  obtain⟨xs,hx,_⟩:=hm a _ q
  exact .inl ⟨e,xs,cS.of hx⟩
 |_=>exact h.elim
section
variable {X:Cx}{o e:Expr}{es:List Expr}{to:bV}{t:eW}{T id:String}{name:Str}{apos aZ:Pos}
def Ox(T:String)(r2:D->List D->Mem->bq->Prop)(to:bV)(t:eW):bV:=λ δ M Q=>to δ M λ d M1=>JU T d M1/\t δ M1 λ ds M2=>r2 d ds M2 Q
theorem OK{r2:D->List D->Mem->bq->Prop}(pa:PlainAttrs T)(slot:Slot T name id)(hty:typeOf (.builtin id)=pure (.type "method_descriptor"))(hm:JQ X id r2)(ho:QE X o to)(ha:QA X (e::es) t)
  (hbase:attributeBase o name X.env (eval o X.env)=eval o X.env:=by rfl)
  (hfew:((backTo aZ (starEach (e::es) X.env)).all (λ x=>!x.1)&&(backToKw aZ (keywordEach [] X.env)).all (λ x=>x.1.isSome)
   &&decide ((e::es).length+([]:List Keyword).length+(if([]:List Keyword).isEmpty then 0 else 1) < 30))=true:=by rfl)
  (hline:(apos.endLine==aZ.line)=true:=by rfl) (hs:starEach (e::es) X.env=(false,eval e X.env)::starEach es X.env:=by rfl) (hplain:(backTo aZ (starEach es X.env)).any (·.1)=false:=by rfl):
  QE X (.Call (.Attribute o name apos) (e::es) [] aZ) (Ox T r2 to t):=by
 obtain⟨r,h1,hr⟩:=hm
 refine bJ (FK pa slot hty h1 ho ha hbase hfew hline hs hplain) ?_
 rintro σ H Q ⟨δ,M,Q2,hs,hm,q,k⟩
 refine⟨δ,M,_,hs,hm,q,λ x H1 d M1 hd bU t1 q1=>⟨q1.1.v hd bU,δ,M1,_,hs.mono t1,bU,q1.2,λ xs H2 ds M2 EJ mw t2 q2=>?_⟩⟩
 exact hr x xs d ds H2 M2 Q2 Q (Dat.mono t2 d hd) EJ mw q2 (k.mono (t1.trans t2))
end
abbrev fU:=List D->Mem->bq->Prop
def cE(K:PySem.W.Frag)(sp:fU):Sp:=λ vs H Q _=>∃ds M Q2,az K H ds vs/\RelM K H M/\sp ds M Q2/\f_ K H Q2 Q
def sD(sp:fU)(t:eW):bV:=λ δ M Q=>t δ M λ ds M1=>sp ds M1 Q
abbrev cO(P:Program)(w:World)(K:PySem.W.Frag)(mg:Str->Option Value)(base:Heap)(k:Nat)(x:Str)(ps:List Str)(sp:fU):Prop:=bP P w K mg base k x ps (cE K sp)
section
variable {X:Cx}{x:Str}{p pos:Pos}{e:Expr}{es:List Expr}{t:eW}{k j:Nat}{ps:List Str}{sp:fU}
theorem Lg(d:cO X.prog X.w X.K X.mg X.base k x ps sp)(hr:bA k X.A)(hg:Gl X x)(ha:QA X (e::es) t)(hdb:(x==("__debug__":Str))=false:=by decide)(he:starEach (e::es) X.env=(false,eval e X.env)::starEach es X.env:=by rfl)
  (hpl:(backTo pos (starEach es X.env)).any (·.1)=false:=by rfl):QE X (.Call (.Name x p) (e::es) [] pos) (sD sp t):=by
 refine bJ (Ia d hr hg ha hdb he hpl) ?_
 rintro σ H Q ⟨δ,M,Q2,hs,hm,q,k⟩
 exact⟨δ,M,_,hs,hm,q,λ xs H1 ds M1 hd bU t1 q1=>⟨ds,M1,Q2,hd,bU,q1,k.mono t1⟩⟩
end
def eD(N:List Str)(ds:List D):cD:=ds.map some++List.replicate (N.length - ds.length) none
theorem lR{K:PySem.W.Frag}{H:Hp}{N:List Str}{ds:List D}{vs:List V}(h:az K H ds vs):bD K H (eD N ds) (L2.start N vs):=by
 have hl:=h.length
 refine⟨by unfold eD L2.start;simp[hl],λ i d e=>?_⟩
 unfold eD at e
 by_cases hi:i < ds.length
 ·rw[c8 (by simpa using hi),n4]at e
  cases q:ds[i]? with
  |none=>rw[q]at e;cases e
  |some d'=>
   rw[q]at e
   have e:d'=d:=by simpa using e
   subst e
   obtain⟨v,hv,r⟩:=h.get q
   refine⟨v,?_,r⟩
   unfold L2.start
   rw[c8 (by simp;omega),n4,hv]
   rfl
 ·rw[c6 (by simpa using hi),i8]at e
  split at e <;> cases e
def fin2(Q:bq):bq:=λ d M'=>∃xS,ja xS M'/\Q d xS
theorem ay{Q:bq}{d:D}{M:Mem}(q:Q d M):fin2 Q d M:=⟨M,ja.refl M,q⟩
section
variable {P:Program}{w:World}{K:PySem.W.Frag}{mg:Str->Option Value}{base:Heap}
theorem Se{x qual:Str}{st:Stmt}{f:Addr}{fd:FuncData}{N ps:List Str}{k:Nat}{sp:fU}(F:ff K x qual st f fd)(S:aH N ps (aj st))(len:∀ds M Q,sp ds M Q->ds.length=ps.length)
  (dW:∀(bW:Value) (A:Around) (outer:List Env) (s:Shared) (H:Hp) (E:XK) (ds:List D) (M:Mem) (Q:bq),bA k (A.deeper (PyProof.Rows.envOfC qual (aj st) s.heap.objs.size f bW))->sp ds M Q->
   ∃t,BF (lr eP P w K mg base N qual (aj st) f bW A outer s H E).uN (bN st) t/\t {nx:=λ _ M'=>fin2 Q .a_ M',rt:=fin2 Q} (eD N ds) M):bw P w K mg base eP (k+1) f fd ps (cE K sp):=by
 refine F.ok S (λ vs H Q E h=>?_) (λ bW A outer s H vs Q E hr h=>?_)
 ·obtain⟨ds,M,Q2,hd,_,hs,_⟩:=h
  rw[hd.length]
  exact len ds M Q2 hs
 ·obtain⟨ds,M,Q2,hd,hm,hs,kk⟩:=h
  obtain⟨t,ht,q⟩:=dW bW A outer s H E ds M Q2 hr hs
  refine⟨_,ht,eD N ds,M,_,lR hd,hm,q,⟨?_,?_,?_,?_⟩⟩
  ·exact λ σ' H' δ' M' _ cW t' ⟨xS,s,q⟩=>kk _ H' .a_ xS (cQ.mpr rfl) (cW.sub s) t' q
  ·exact λ v H' d M' fQ cW t' ⟨xS,s,q⟩=>kk v H' d xS fQ (cW.sub s) t' q
  ·exact λ σ' H' δ' M' _ cW t' q=>q
  ·exact λ σ' H' δ' M' _ cW t' q=>q
end
section
variable {X:Cx}{st:Stmt}{rest:List Stmt}{t u:fS}{te:bV}{e:Expr}{pos:Pos}
def ur:fS:=λ E δ M=>E.nx δ M
def yA(t u:fS):fS:=λ E δ M=>t {E with nx:=u E} δ M
theorem C8:BF X [] ur:=zj uH λ E σ H ⟨δ,M,D2,hs,hm,q,k⟩=>k.nx σ H δ M hs hm (ai.refl H) q
theorem C7(h:QS X st t):BF X [st] t:=nH h
theorem y_(h1:QS X st t)(h2:BF X rest u):BF X (st::rest) (yA t u):=zj (jQ h1 h2) λ E σ H ⟨δ,M,D2,hs,hm,q,k⟩=>by
 refine⟨δ,M,_,hs,hm,q,⟨λ σ' H' δ' M' cI cW t' q'=>?_,k.rt,k.bk,k.ct⟩⟩
 exact⟨δ',M',D2,cI,cW,q',k.mono t'⟩
def yE(te:bV):fS:=λ E δ M=>te δ M λ _ M1=>E.nx δ M1
theorem C_(he:QE X e te)(hs:swapsWith e none pos.line X.env=pure false:=by rfl):QS X (.Expr e pos) (yE te):=f' (uI he hs) λ E σ H ⟨δ,M,D2,hs,hm,q,k⟩=>
 ⟨δ,M,_,hs,hm,q,λ x H1 d M1 hd bU t1 q1=>k.nx σ H1 δ M1 (hs.mono t1) bU t1 q1⟩
def GV(te:bV):fS:=λ E δ M=>te δ M E.rt
theorem HB(he:QE X e te):QS X (.Return (some e) pos) (GV te):=f' (HS he) λ E σ H ⟨δ,M,D2,hs,hm,q,k⟩=>⟨δ,M,_,hs,hm,q,k.rt⟩
def Co(c:dh)(t u:fS):fS:=λ E δ M=>c δ M λ b M1=>if b=true then t E δ M1 else u E δ M1
theorem La{c:Expr}{a b:List Stmt}{tc:dh}(hc:QT X c tc)(ha:BF X a t)(hb:BF X b u):QS X (.If c a b pos) (Co tc t u):=f' (FE hc ha hb) λ E σ H ⟨δ,M,D2,hs,hm,q,k⟩=>by
 refine⟨δ,M,_,hs,hm,q,λ b H1 M1 bU t1 q1=>?_⟩
 cases b with
 |true=>
  rw[B3 rfl]at q1 ⊢
  exact⟨δ,M1,D2,hs.mono t1,bU,q1,k.mono t1⟩
 |false=>
  rw[B4 l8]at q1 ⊢
  exact⟨δ,M1,D2,hs.mono t1,bU,q1,k.mono t1⟩
abbrev eV:=D->cD->Mem->(cD->Mem->Prop)->Prop
abbrev kM:=List D->cD->Mem->(cD->Mem->Prop)->Prop
def Gz(K:PySem.W.Frag)(t:eV):TG:=λ v σ H Q=>∃d δ M Q2,Dat K H d v/\bD K H δ σ/\RelM K H M/\t d δ M Q2/\iR K H Q2 Q
def Oc(K:PySem.W.Frag)(t:kM):vH:=λ vs σ H Q=>∃ds δ M Q2,az K H ds vs/\bD K H δ σ/\RelM K H M/\t ds δ M Q2/\iR K H Q2 Q
abbrev QG(X:Cx)(tg:Expr)(t:eV):Prop:=PG X tg (Gz X.K t)
abbrev MX(X:Cx)(tg:List Expr)(t:kM):Prop:=JO X tg (Oc X.K t)
theorem zu{tg:Expr}{g g':TG}(h:PG X tg g)(k:∀v σ H Q,g' v σ H Q->g v σ H Q):PG X tg g':=λ pins s σ H v u Q I r q=>h pins s σ H v u Q I r (k v σ H Q q)
theorem zr{tg:List Expr}{g g':vH}(h:JO X tg g)(k:∀v σ H Q,g' v σ H Q->g v σ H Q):JO X tg g':=λ pins s σ H v u Q I r q=>h pins s σ H v u Q I r (k v σ H Q q)
def hName(i:Nat):eV:=λ d δ M Q=>Q (δ.set i (some d)) M
theorem ik{K:PySem.W.Frag}{i:Nat}:∀v σ H Q,Gz K (hName i) v σ H Q->cX i v σ H Q:=λ v σ H Q ⟨d,δ,M,Q2,hd,hs,hm,q,k⟩=>k _ H _ M (hs.set hd) hm (ai.refl H) q
theorem Dj{i:Nat}{x:Str}(hN:X.N.Nodup)(hi:X.N[i]?=some x)(hx:Loc X.env.scope x)(hf:X.fn x=true\/X.env.scope.names.lookup x=some .local:=by first|exact .inl rfl|exact .inr rfl|assumption):QG X (.Name x pos) (hName i):=
 zu (aS hN hi hx hf) ik
def tw:kM:=λ ds δ M Q=>match ds with
 |[]=>Q δ M
 |_=>False
def eS(t:eV)(u:kM):kM:=λ ds δ M Q=>match ds with
 |d::r=>t d δ M λ δ' M'=>u r δ' M' Q
 |_=>False
theorem Di:MX X [] tw:=zr nL λ v σ H Q ⟨ds,δ,M,Q2,hd,hs,hm,q,k⟩=>by
 cases ds with
 |nil=>exact⟨ao.mp hd,k _ H _ M hs hm (ai.refl H) q⟩
 |cons d r=>exact q.elim
theorem zc{e:Expr}{es:List Expr}{t:eV}{u:kM}(h1:QG X e t)(h2:MX X es u)
  (hs:(assignEach (e::es) X.env).map (·.2)=assign e X.env::(assignEach es X.env).map (·.2):=by rfl):MX X (e::es) (eS t u):=zr (fv h1 h2 hs) λ v σ H Q ⟨ds,δ,M,Q2,hd,hs,hm,q,k⟩=>by
 cases ds with
 |nil=>exact q.elim
 |cons d r=>
  obtain⟨x,xs,rfl,hx,Pe⟩:=af.mp hd
  refine⟨x,xs,rfl,d,δ,M,_,hx,hs,hm,q,λ σ' H' δ' M' cI cW t' q'=>?_⟩
  exact⟨r,δ',M',Q2,az.mono t' r Pe,cI,cW,q',k.mono t'⟩
def tu(n:Nat)(t:kM):eV:=λ d δ M Q=>match d with
 | .tup ds=>ds.length=n/\t ds δ M Q
 |_=>False
theorem HG{es:List Expr}{k:Nat}{t:kM}{n:Nat}(hc:X.calm=true)(h:MX X es t)
  (hn:(assignEach es X.env).length=n:=by rfl) (hst:(assignEach es X.env).findIdx? (·.1)=none:=by rfl):QG X (.Tuple es k pos) (tu n t):=zu (sJ hc h hn hst) λ v σ H Q ⟨d,δ,M,Q2,hd,hs,hm,q,k⟩=>by
 cases d with
 |tup ds=>
  obtain⟨p,xs,rfl,hq,hx⟩:=aE.mp hd
  exact⟨p,xs,rfl,hq,by rw[hx.length];exact q.1,ds,δ,M,Q2,hx,hs,hm,q.2,k⟩
 |_=>exact q.elim
abbrev hV:=D->D->D->Mem->(Mem->Prop)->Prop
def Na(K:PySem.W.Frag)(H:Hp)(N2:Mem->Prop)(N:Hp->Prop):Prop:=∀H' M',RelM K H' M'->ai H H'->N2 M'->N H'
def JL(K:PySem.W.Frag)(r:xG)(r2:hV):Prop:=∀o i v d j e H M Q2 Q,Dat K H d o->Dat K H j i->Dat K H e v->RelM K H M->r2 d j e M Q2->Na K H Q2 Q->r o i v H Q
def BE(X:Cx)(r2:hV):Prop:=∃r,oX X r/\JL X.K r r2
def hSub(to ti:bV)(t:hV):eV:=λ e δ M Q=>to δ M λ d M1=>ti δ M1 λ j M2=>t d j e M2 λ M3=>Q δ M3
theorem HH{o i:Expr}{to ti:bV}{t:hV}(ho:QE X o to)(hi:QE X i ti)(hs:BE X t)
  (ha:∀v,assign (.Subscript o i pos) X.env v=(do
   let ov <- holding [v] (eval o X.env)
   let iv <- holding [v,ov] (eval i X.env)
   standAt pos
   holding [v,ov,iv] (setItem ov iv v)
   release [v,ov,iv] []):=by intro _;rfl):QG X (.Subscript o i pos) (hSub to ti t):=by
 obtain⟨r,h1,hr⟩:=hs
 refine zu (H0 ho hi h1 ha) ?_
 rintro v σ H Q ⟨e,δ,M,Q2,hd,hs,hm,q,k⟩
 refine⟨δ,M,_,hs,hm,q,λ x H1 d M1 hx bU t1 q1=>?_⟩
 refine⟨δ,M1,_,hs.mono t1,bU,q1,λ y H2 j M2 hy mw t2 q2=>?_⟩
 exact hr x y v d j e H2 M2 _ _ (Dat.mono t2 d hx) hy (Dat.mono (t1.trans t2) e hd) mw q2 λ H3 M3 EE t3 q3=>k σ H3 δ M3 (hs.mono (t1.trans (t2.trans t3))) EE (t1.trans (t2.trans t3)) q3
def la(te:bV)(g:eV):fS:=λ E δ M=>te δ M λ d M1=>g d δ M1 E.nx
theorem rD{K:PySem.W.Frag}{g:TG}{g2:eV}(hg:∀v σ H Q,Gz K g2 v σ H Q->g v σ H Q):∀E σ H,Ob K (la te g2) E σ H->yg (up K te) g E σ H:=by
 rintro E σ H ⟨δ,M,D2,hs,hm,q,k⟩
 exact⟨δ,M,_,hs,hm,q,λ x H1 d M1 hd bU t1 q1=>hg x σ H1 _ ⟨d,δ,M1,_,hd,hs.mono t1,bU,q1,k.nx.mono t1⟩⟩
theorem HE{tg e:Expr}{g:eV}(he:QE X e te)(hg:QG X tg g)(hs:swapsWithSole [tg] e pos.line X.env=pure false:=by rfl)(hw:swappedStores [tg] e X.env=pure none:=by rfl)
  (h1:(assignEach [tg] X.env).map (·.2)=[assign tg X.env]:=by rfl):QS X (.Assign [tg] e pos) (la te g):=f' (HV he hg hs hw h1) (rD λ _ _ _ _ h=>h)
theorem HA{i:Nat}{x:Str}{e:Expr}{pos':Pos}(hN:X.N.Nodup)(hi:X.N[i]?=some x)(hx:Loc X.env.scope x)(he:QE X e te)(hs:swapsWith e (some (.Name x pos')) pos.line X.env=pure false:=by rfl)
  (hf:X.fn x=true\/X.env.scope.names.lookup x=some .local:=by first|exact .inl rfl|exact .inr rfl|assumption):QS X (.Assign [.Name x pos'] e pos) (la te (hName i)):=f' (zl hN hi hx he hs hf) (rD ik)
end
end L3
namespace L3
open PySem PySem.Spec L2
inductive Src where
 |fix (ds:List D)
 |at(a:Addr)
 |fn (f:Mem->Option (List D))
def items(s:Src)(M:Mem):Option (List D):=match s with
 | .fix ds=>some ds
 | .at a=>match M a with
  |some (.lst ds)=>some ds
  |_=>none
 | .fn f=>f M
def oZ(K:PySem.W.Frag)(H1:Hp)(J:It)(src:Src):Prop:=∀H M ds,ai H1 H->RelM K H M->items src M=some ds->
 (∀i,i < ds.length->J.go i H)/\(∀i,i=ds.length->J.stop i H)/\(∀i x H',i < ds.length->J.BX i H x H'->ai H H'/\RelM K H' M/\∃d,ds[i]?=some d/\Dat K H' d x)
abbrev i':=cD->Mem->(Src->Mem->Prop)->Prop
def JT(K:PySem.W.Frag)(t:i'):TI:=λ σ H R=>∃δ M R2,bD K H δ σ/\RelM K H M/\t δ M R2/\∀J H' src M',oZ K H' J src->RelM K H' M'->ai H H'->R2 src M'->R J H'
abbrev QI(X:Cx)(tg iter:Expr)(t:i'):Prop:=PI X tg iter (JT X.K t)
theorem uK{X:Cx}{tg iter:Expr}{t t':TI}(h:PI X tg iter t)(k:∀σ H R,t' σ H R->t σ H R):PI X tg iter t':=λ pins s σ H R I q=>h pins s σ H R I (k σ H R q)
def ia(z:Str):List D:=z.cps.toList.map λ c=>D.str ⟨#[c]⟩
def eI(lo:Int)(n:Nat):List D:=(List.range n).map λ i=>D.int (lo+(i:Nat))
theorem bu(lo:Int)(n:Nat):(eI lo n).length=n:=by simp[eI]
theorem jP{lo:Int}{n i:Nat}(h:i < n):(eI lo n)[i]?=some (.int (lo+(i:Nat))):=by simp[eI,h]
theorem Ah{K:PySem.W.Frag}{H1:Hp}{z:Str}:oZ K H1 (Ko z) (.fix (ia z)):=λ H M ds t hm e=>by
 cases e
 have hl:(ia z).length=z.cps.size:=by simp[ia]
 refine⟨λ i hi=>by rw[hl]at hi;exact hi,λ i hi=>by rw[hl]at hi;exact hi,λ i x H' hi y=>?_⟩
 obtain⟨e,c,hc,rfl⟩:=y
 subst e
 refine⟨ai.refl _,hm,.str ⟨#[c]⟩,?_,aG.mpr rfl⟩
 simp[ia,hc]
theorem Ag{K:PySem.W.Frag}{H1:Hp}{a:Addr}{xs:List V}{ds:List D}(h:ef K H1 a xs)(hd:az K H1 ds xs):oZ K H1 (QK K a) (.fix ds):=λ H M es t hm e=>by
 cases e
 have hq:=pG t h
 have hx:=az.mono t ds hd
 have hl:=hx.length
 refine⟨λ i hi=>⟨xs,xs[i]'(by omega),hq,by simp[hl,hi]⟩,λ i hi=>⟨xs,hq,by omega⟩,λ i x H' hi y=>?_⟩
 obtain⟨e,y⟩:=y
 obtain⟨d,h1,h2⟩:=hx.tx (y xs hq)
 subst e
 exact⟨ai.refl _,hm,d,h1,h2⟩
theorem Ai{K:PySem.W.Frag}{H1:Hp}{a:Addr}:oZ K H1 (N6 K a) (.at a):=λ H M ds t hm e=>by
 have e:(match M a with|some (.lst ds)=>some ds|_=>none)=some ds:=e
 cases q:M a with
 |none=>rw[q]at e;cases e
 |some o=>
  cases o with
  |eL b kvs=>rw[q]at e;cases e
  |lst es=>
   rw[q]at e
   have e:es=ds:=w9 e
   subst e
   obtain⟨xs,hx,hd⟩:=hm a _ q
   have hq:cS K H a xs:=cS.of hx
   have hl:=hd.length
   refine⟨λ i hi=>⟨xs,xs[i]'(by omega),hq,by simp[hl,hi]⟩,λ i hi=>⟨xs,hq,by omega⟩,λ i x H' hi y=>?_⟩
   obtain⟨e,y⟩:=y
   obtain⟨d,h1,h2⟩:=hd.tx (y xs hq)
   subst e
   exact⟨ai.refl _,hm,d,h1,h2⟩
theorem El{K:PySem.W.Frag}{H1:Hp}{a:Addr}{xs:List V}{ds:List D}(h:Gm K H1 a xs)(hd:az K H1 ds xs):oZ K H1 (N6 K a) (.fix ds):=λ H M es t hm e=>by
 cases e
 have hq:=(qG t h).sq
 have hx:=az.mono t ds hd
 have hl:=hx.length
 refine⟨λ i hi=>⟨xs,xs[i]'(by omega),hq,by simp[hl,hi]⟩,λ i hi=>⟨xs,hq,by omega⟩,λ i x H' hi y=>?_⟩
 obtain⟨e,y⟩:=y
 obtain⟨d,h1,h2⟩:=hx.tx (y xs hq)
 subst e
 exact⟨ai.refl _,hm,d,h1,h2⟩
theorem td{K:PySem.W.Frag}{H1:Hp}{lo:Int}{n:Nat}:oZ K H1 (N5 lo n) (.fix (eI lo n)):=λ H M ds t hm e=>by
 cases e
 rw[bu]
 refine⟨λ i hi=>hi,λ i hi=>Nat.le_of_eq hi.symm,λ i x H' hi y=>?_⟩
 obtain⟨e,rfl⟩:=y
 subst e
 exact⟨ai.refl _,hm,_,jP hi,aq.mpr rfl⟩
section
variable {X:Cx}{tg l:Expr}{tl:bV}{ta:eW}{a b:Expr}{p pos:Pos}
def Ej(tl:bV):i':=λ δ M R=>tl δ M λ d M1=>match d with
 | .str z=>R (.fix (ia z)) M1
 | .tup ds=>R (.fix ds) M1
 | .fl ds=>R (.fix ds) M1
 | .ref a=>match M1 a with
  |some (.lst _)=>R (.at a) M1
  |_=>False
 |_=>False
theorem HF(hl:QE X l tl):QI X tg l (Ej tl):=uK (HZ hl) λ σ H R ⟨δ,M,R2,hs,hm,q,k⟩=>by
 refine⟨δ,M,_,hs,hm,q,λ x H1 d M1 hd bU t1 q1=>?_⟩
 cases d with
 |str z=>
  cases(aG.mp hd)
  exact k _ H1 _ M1 Ah bU t1 q1
 |tup ds=>
  obtain⟨p,xs,rfl,hq,hx⟩:=aE.mp hd
  exact .inr ⟨xs,hq,k _ H1 _ M1 (Ag hq hx) bU t1 q1⟩
 |fl ds=>
  obtain⟨p,xs,rfl,hq,hx⟩:=gj.mp hd
  exact .inl ⟨xs,hq.sq,k _ H1 _ M1 (El hq hx) bU t1 q1⟩
 |ref a=>
  cases(aA.mp hd)
  have q1:(match M1 a with|some (.lst _)=>R2 (.at a) M1|_=>False):=q1
  cases e:M1 a with
  |none=>rw[e]at q1;exact q1.elim
  |some o=>
   cases o with
   |eL b kvs=>rw[e]at q1;exact q1.elim
   |lst es=>
    rw[e]at q1
    obtain⟨xs,hx,_⟩:=bU a _ e
    exact .inl ⟨xs,cS.of hx,k _ H1 _ M1 Ai bU t1 q1⟩
 |_=>exact q1.elim
def QM(j:Int):Prop:= -(2^62)<=j/\j < 2^62
theorem cV{j:Int}(h0: -1000000000<=j)(h1:j<=1000000000):QM j:=by
 constructor
 ·exact Int.le_trans (by decide) h0
 ·exact Int.lt_of_le_of_lt h1 (by decide)
def Ae(ta:eW):i':=λ δ M R=>ta δ M λ ds M1=>match ds with
 |[.int j]=>QM j/\R (.fix (eI 0 j.toNat)) M1
 |_=>False
theorem wx(hg:Gl X "range")(hm:X.mg "range"=none)(ha:QA X [a] ta)(hs:starEach [a] X.env=[(false,eval a X.env)]:=by rfl):QI X tg (.Call (.Name "range" p) [a] [] pos) (Ae ta):=uK (wA hg hm ha hs) λ σ H R ⟨δ,M,R2,hs,hm,q,k⟩=>by
 refine⟨δ,M,_,hs,hm,q,λ xs H1 ds M1 hd bU t1 q1=>?_⟩
 cases ds with
 |nil=>exact q1.elim
 |cons d r=>
  cases r with
  |cons d2 r2=>cases d <;> exact q1.elim
  |nil=>
   cases d with
   |int j=>
    obtain⟨x,r,rfl,hx,hr⟩:=af.mp hd
    cases(ao.mp hr)
    cases(aq.mp hx)
    obtain⟨⟨b1,b2⟩,q1⟩:=q1
    exact⟨j,rfl,b1,b2,k _ H1 _ M1 td bU t1 q1⟩
   |_=>exact q1.elim
end
end L3
namespace L3
open PySem PySem.Spec L2
def yD(wi:i')(g:eV)(tb:fS):fS:=λ E δ M=>wi δ M λ src M1=>∃(B:Nat) (W:Nat->cD->Mem->Prop),W 0 δ M1/\∀i δ M,W i δ M->i<=B/\match items src M with
 |none=>False
 |some ds=>match ds[i]? with
  |none=>i=ds.length/\E.nx δ M
  |some d=>g d δ M λ δ2 M2=>tb {E with nx:=W (i+1),ct:=W (i+1),bk:=E.nx} δ2 M2
section
variable {X:Cx}{tg iter:Expr}{wi:i'}{g:eV}{tb:fS}{body:List Stmt}{pos:Pos}
theorem HD(hp:PassesOwn (model X.prog X.w) X.A X.env X.xe)(hc:X.calm=true)(hi:QI X tg iter wi)(hg:QG X tg g)(hb:BF X body tb)(hs:∀x,foldedSetIterable iter X.env x=pure x:=by intro _;rfl):
  QS X (.For tg iter body [] pos) (yD wi g tb):=f' (HU hp hc hi hg hb hs) λ E σ H ⟨δ,M,D2,hs,hm,q,k⟩=>by
 refine⟨δ,M,_,hs,hm,q,λ J H1 src M1 ok bU t1 q1=>?_⟩
 obtain⟨B,W,w0,turn⟩:=q1
 refine⟨λ i m σ' H'=>m=B+1 - i/\∃δ' M',bD X.K H' δ' σ'/\RelM X.K H' M'/\ai H1 H'/\W i δ' M',⟨B+1,rfl,δ,M1,hs.mono t1,bU,ai.refl _,w0⟩,?_⟩
 rintro i m σ' H' ⟨rfl,δ',M',cI,cW,t',w'⟩
 obtain⟨hB,h⟩:=turn i δ' M' w'
 cases ei:items src M' with
 |none=>rw[ei]at h;exact h.elim
 |some ds=>
  rw[ei]at h
  obtain⟨go,stop,BX⟩:=ok H' M' ds t' cW ei
  cases ed:ds[i]? with
  |none=>
   simp only[ed]at h
   exact .inl ⟨stop i h.1,k.nx σ' H' δ' M' cI cW (t1.trans t') h.2⟩
  |some d=>
   simp only[ed]at h
   have Mi:i < ds.length:=(g9.mp ed).1
   refine .inr ⟨go i Mi,λ σ2 H2=>∃δ2 M2,bD X.K H2 δ2 σ2/\RelM X.K H2 M2/\ai H1 H2/\W (i+1) δ2 M2,λ σ2 H2 ⟨δ2,M2,a,b,c,w2⟩=>⟨B+1 - (i+1),by omega,rfl,δ2,M2,a,b,c,w2⟩,λ x H2 y=>?_⟩
   obtain⟨t2,mw,d',e',fQ⟩:=BX i x H2 Mi y
   rw[ed]at e'
   cases e'
   refine⟨d,δ',M',_,fQ,cI.mono t2,mw,h,λ σ3 H3 δ3 M3 Ey EE t3 q3=>?_⟩
   refine⟨δ3,M3,_,Ey,EE,q3,⟨?_,?_,?_,?_⟩⟩
   ·exact λ σ4 H4 δ4 M4 a b c w4=>⟨δ4,M4,a,b,t'.trans (t2.trans (t3.trans c)),w4⟩
   ·exact k.rt.mono (t1.trans (t'.trans (t2.trans t3)))
   ·exact k.nx.mono (t1.trans (t'.trans (t2.trans t3)))
   ·exact λ σ4 H4 δ4 M4 a b c w4=>⟨δ4,M4,a,b,t'.trans (t2.trans (t3.trans c)),w4⟩
end
end L3
namespace L3
open PySem PySem.Spec L2
def sg(c:dh)(tb:fS):fS:=λ E δ M=>∃W:Nat->cD->Mem->Prop,(∃m,W m δ M)/\∀m δ M,W m δ M->c δ M λ b M1=>
 if b=true then ∃N:cD->Mem->Prop,(∀δ' M',N δ' M'->∃m',m' < m/\W m' δ' M')/\tb {E with nx:=N,ct:=N,bk:=E.nx} δ M1 else E.nx δ M1
section
variable {X:Cx}{c:Expr}{tc:dh}{tb:fS}{body:List Stmt}{pos:Pos}
theorem za(hp:PassesOwn (model X.prog X.w) X.A X.env X.xe)(hc:QT X c tc)(hb:BF X body tb):QS X (.While c body [] pos) (sg tc tb):=f' (zk hp hc hb) λ E σ H ⟨δ,M,D2,hs,hm,q,k⟩=>by
 obtain⟨W,⟨m0,w0⟩,turn⟩:=q
 refine⟨λ m σ' H'=>∃δ' M',bD X.K H' δ' σ'/\RelM X.K H' M'/\ai H H'/\W m δ' M',⟨m0,δ,M,hs,hm,ai.refl _,w0⟩,?_⟩
 rintro m σ' H' ⟨δ',M',cI,cW,t',w'⟩
 refine⟨δ',M',_,cI,cW,turn m δ' M' w',λ b H1 M1 bU t1 q1=>?_⟩
 cases b with
 |false=>
  simp only[m5,B0]at q1
  exact k.nx σ' H1 δ' M1 (cI.mono t1) bU (t'.trans t1) q1
 |true=>
  simp only[if_true]at q1
  obtain⟨N,hN,q1⟩:=q1
  refine⟨λ σ2 H2=>∃δ2 M2,bD X.K H2 δ2 σ2/\RelM X.K H2 M2/\ai H H2/\N δ2 M2,λ σ2 H2 ⟨δ2,M2,a,b,c,n2⟩=>?_,?_⟩
  ·obtain⟨m',cW,w2⟩:=hN δ2 M2 n2
   exact⟨m',cW,δ2,M2,a,b,c,w2⟩
  ·refine⟨δ',M1,_,cI.mono t1,bU,q1,⟨?_,?_,?_,?_⟩⟩
   ·exact λ σ4 H4 δ4 M4 a b c w4=>⟨δ4,M4,a,b,t'.trans (t1.trans c),w4⟩
   ·exact k.rt.mono (t'.trans t1)
   ·exact k.nx.mono (t'.trans t1)
   ·exact λ σ4 H4 δ4 M4 a b c w4=>⟨δ4,M4,a,b,t'.trans (t1.trans c),w4⟩
end
end L3
namespace L3
open PySem PySem.Spec L2
def gn(n:Nat)(fr:List Nat)(δ:cD):cD:=List.replicate n none++fr.map (λ j=>δ.getD j none)
theorem Ff{K:PySem.W.Frag}{H:Hp}{δ:cD}{σ:L2.St}(h:bD K H δ σ)(n:Nat)(fr:List Nat):bD K H (gn n fr δ) (dF n fr σ):=by
 refine⟨by simp[gn,dF],λ i d e=>?_⟩
 unfold gn at e
 by_cases hi:i < n
 ·rw[c8 (by simpa using hi),i8,B3 hi]at e
  cases e
 ·rw[c6 (by simpa using hi),j8,n4]at e
  cases ej:fr[i - n]? with
  |none=>rw[ej]at e;cases e
  |some j=>
   rw[ej]at e
   have e:δ.getD j none=some d:=w9 e
   have hj:j < δ.length:=by
    refine r6 λ z=>?_
    rw[c7,j9 z]at e
    cases e
   have e':δ[j]?=some (some d):=by
    rw[c7,i5 hj]at e
    rw[i5 hj]
    exact B1 some e
   obtain⟨v,hv,r⟩:=h.get j d e'
   refine⟨v,?_,r⟩
   unfold dF
   rw[c6 (by simpa using hi),j8,n4,ej]
   simp[c7,hv]
def eG(wi:i')(g:eV)(tt:dh)(te:bV)(n:Nat)(fr:List Nat):cD->Mem->(List D->Mem->Prop)->Prop:=λ δ M Q=>wi δ M λ src M1=>∃(B:Nat) (W:Nat->List D->Mem->Prop),W 0 [] M1/\∀i acc M,W i acc M->i<=B/\acc.length<=sizeLine/\match items src M with
 |none=>False
 |some ds=>match ds[i]? with
  |none=>i=ds.length/\Q acc M
  |some d=>g d (gn n fr δ) M λ δ2 M2=>tt δ2 M2 λ b M3=>if b=true then te δ2 M3 λ y M4=>W (i+1) (acc++[y]) M4 else W (i+1) acc M3
theorem dX{K:PySem.W.Frag}{wi:i'}{g:eV}{tt:dh}{te:bV}{n:Nat}{fr:List Nat}{Qe:List D->Mem->Prop}{σ:L2.St}{δ:cD}{H:Hp}{M:Mem}{Q:V->Hp->Prop}{gv:TG}(Ml:∀v σ H Q,Gz K g v σ H Q->gv v σ H Q)(hs:bD K H δ σ)(hm:RelM K H M)(q:eG wi g tt te n fr δ M Qe)
  (k:∀acc xs H' M' p,az K H' acc xs->RelM K H' M'->ai H H'->acc.length<=sizeLine->H' p=none->Qe acc M'->Q (.ref p) (upd H' p (.lst xs))):jD (JT K wi) gv (ud K tt) (up K te) n fr σ H Q:=by
 refine⟨δ,M,_,hs,hm,q,λ J H1 src M1 ok bU t1 q1=>?_⟩
 obtain⟨B,W,w0,turn⟩:=q1
 refine⟨λ i m xs H'=>m=B+1 - i/\∃acc M',az K H' acc xs/\RelM K H' M'/\ai H1 H'/\W i acc M',⟨B+1,rfl,[],M1,by rw[ao],bU,ai.refl _,w0⟩,?_⟩
 rintro i m xs H' ⟨rfl,acc,M',fQ,cW,t',w'⟩
 obtain⟨hB,hz,h⟩:=turn i acc M' w'
 refine⟨by rw[fQ.length];exact hz,?_⟩
 cases ei:items src M' with
 |none=>rw[ei]at h;exact h.elim
 |some ds=>
  rw[ei]at h
  obtain⟨go,stop,BX⟩:=ok H' M' ds t' cW ei
  cases ed:ds[i]? with
  |none=>
   simp only[ed]at h
   exact .inl ⟨stop i h.1,λ p hp=>k acc xs H' M' p fQ cW (t1.trans t') hz hp h.2⟩
  |some d=>
   simp only[ed]at h
   have Mi:i < ds.length:=(g9.mp ed).1
   refine .inr ⟨go i Mi,λ ys H2=>∃Fm M2,az K H2 Fm ys/\RelM K H2 M2/\ai H1 H2/\W (i+1) Fm M2,λ ys H2 ⟨Fm,M2,a,b,c,w2⟩=>⟨B+1 - (i+1),by omega,rfl,Fm,M2,a,b,c,w2⟩,λ x H2 y=>?_⟩
   obtain⟨t2,mw,d',e',Eu⟩:=BX i x H2 Mi y
   rw[ed]at e'
   cases e'
   refine Ml _ _ _ _ ⟨d,gn n fr δ,M',_,Eu,Ff (hs.mono (t1.trans (t'.trans t2))) n fr,mw,h,λ σ3 H3 δ3 M3 Ey EE t3 q3=>?_⟩
   refine⟨δ3,M3,_,Ey,EE,q3,λ b H4 M4 Ri t4 q4=>?_⟩
   cases b with
   |false=>
    rw[B4 l8]at q4 ⊢
    exact⟨acc,M4,az.mono (t2.trans (t3.trans t4)) acc fQ,Ri,t'.trans (t2.trans (t3.trans t4)),q4⟩
   |true=>
    rw[B3 rfl]at q4 ⊢
    exact⟨δ3,M4,_,Ey.mono t4,Ri,q4,λ yv H5 y5 M5 Sz S1 t5 q5=>⟨acc++[y5],M5,(az.mono (t2.trans (t3.trans (t4.trans t5))) acc fQ).append (az.one Sz),S1,t'.trans (t2.trans (t3.trans (t4.trans t5))),q5⟩⟩
section
variable {X:Cx}{scope:Scope}{tgs:List Str}{fr:List Nat}{tg elt iter:Expr}{ifs:List Expr}{pos:Pos}{wi:i'}{g:eV}{tt:dh}{te:bV}
abbrev N4(X:Cx)(ifs:List Expr)(t:dh):Prop:=Kn X ifs (ud X.K t)
def pQ:dh:=λ _ M Q=>Q true M
theorem Dg:N4 X [] pQ:=λ pins s σ H Q I h=>Dy pins s σ H Q I (by
 obtain⟨δ,M,Q2,hs,hm,q,k⟩:=h
 exact k _ _ _ hm (ai.refl H) q)
theorem Df{c:Expr}{t:dh}(h:QT X c t):N4 X [c] t:=Dx h
def N0(X:Cx)(scope:Scope)(tgs:List Str)(fr:List Nat)(tg:Expr)(g2:eV):Prop:=
 ∃g:TG,(∀cl C fp s H,PG (bg X scope cl tgs fr C fp s H) tg g)/\gs tgs.length g/\∀v σ H Q,Gz X.K g2 v σ H Q->g v σ H Q
theorem B_{i:Nat}{x:Str}{ps:Pos}(h:∀cl C fp s H,PG (bg X scope cl tgs fr C fp s H) (.Name x ps) (cX i))(hi:i < tgs.length):N0 X scope tgs fr (.Name x ps) (hName i):=⟨_,h,oA hi,ik⟩
def BH(g:TG):Prop:=∀x σ H Q Q',(∀σ' H',Q σ' H'->Q' σ' H')->g x σ H Q->g x σ H Q'
def o_(g:vH):Prop:=∀xs σ H Q Q',(∀σ' H',Q σ' H'->Q' σ' H')->g xs σ H Q->g xs σ H Q'
theorem oz{i:Nat}:BH (cX i):=λ x σ H Q Q' k q=>k _ _ q
theorem AL:o_ xg:=λ xs σ H Q Q' k q=>⟨q.1,k _ _ q.2⟩
theorem EM{t:TG}{u:vH}(ht:BH t)(hu:o_ u):o_ (gU t u):=λ xs σ H Q Q' k ⟨v,r,e,q⟩=>⟨v,r,e,ht v σ H _ _ (λ σ' H' q'=>hu r σ' H' _ _ k q') q⟩
theorem vh{n:Nat}{t:TG}{u:vH}(h:gs n t)(k:jq n u)(ht:BH t)(hu:o_ u):jq n (gU t u):=λ xs σ H Q ⟨v,r,e,q⟩=>by
 refine⟨v,r,e,ht v σ H _ _ (λ σ' H' ⟨q',l',k'⟩=>?_) (h v σ H _ q)⟩
 refine hu r σ' H' _ _ (λ σ2 H2 ⟨q2,l2,k2⟩=>⟨q2,l2.trans l',λ j hj=>(k2 j hj).trans (k' j hj)⟩) (k r σ' H' _ q')
theorem Jp{K:PySem.W.Frag}{m n:Nat}{t:vH}(h:jq m t):gs m (AM K n t):=λ x σ H Q ⟨a,xs,e,hq,hl,q⟩=>⟨a,xs,e,hq,hl,h xs σ H _ q⟩
theorem vV{K:PySem.W.Frag}{i j:Nat}:∀v σ H Q,Gz K (tu 2 (eS (hName i) (eS (hName j) tw))) v σ H Q->AM K 2 (gU (cX i) (gU (cX j) xg)) v σ H Q:=λ v σ H Q ⟨d,δ,M,Q2,hd,hs,hm,q,k⟩=>by
 cases d with
 |tup ds=>
  obtain⟨p,xs,rfl,hq,hx⟩:=aE.mp hd
  obtain⟨hl,q⟩:=q
  match ds,hl,hx,q with
  |[a,b],hl,hx,q=>
   obtain⟨x,r,rfl,ha,hx⟩:=af.mp hx
   obtain⟨y,r,rfl,hb,hx⟩:=af.mp hx
   cases(ao.mp hx)
   exact⟨p,[x,y],rfl,hq,rfl,x,[y],rfl,y,[],rfl,rfl,k _ H _ M ((hs.set ha).set hb) hm (ai.refl H) q⟩
 |_=>exact q.elim
theorem B9{i j k:Nat}{x y:Str}{px py pt:Pos}(h:∀cl C fp s H,PG (bg X scope cl tgs fr C fp s H) (.Tuple [.Name x px,.Name y py] k pt) (AM X.K 2 (gU (cX i) (gU (cX j) xg))))(hi:i < tgs.length)(hj:j < tgs.length):
  N0 X scope tgs fr (.Tuple [.Name x px,.Name y py] k pt) (tu 2 (eS (hName i) (eS (hName j) tw))):=
 ⟨_,h,Jp (vh (oA hi) (vh (oA hj) Jq oz AL) oz (EM oz AL)),vV⟩
def gw(X:Cx)(scope:Scope)(tgs:List Str)(fr:List Nat)(tg iter:Expr)(ifs:List Expr)(elt:Expr)(wi:i')(g:eV)(tt:dh)(te:bV):Prop:=
 hX X scope fr/\X.calm=true/\(∀e s,X.xe e s->False)/\QI X tg iter wi/\N0 X scope tgs fr tg g/\(∀cl C fp s H,N4 (bg X scope cl tgs fr C fp s H) ifs tt)/\(∀cl C fp s H,QE (bg X scope cl tgs fr C fp s H) elt te)
def pR(wi:i')(g:eV)(tt:dh)(te:bV)(n:Nat)(fr:List Nat):bV:=λ δ M Q=>eG wi g tt te n fr δ M λ ds M'=>∀p,M' p=none->Q (.ref p) (aw M' p (.lst ds))
theorem HN(C:gw X scope tgs fr tg iter ifs elt wi g tt te)(hs:∀x,foldedSetIterable iter X.env x=pure x:=by intro _;rfl):QE X (.ListComp elt [⟨tg,iter,ifs,0⟩] scope pos) (pR wi g tt te tgs.length fr):=by
 obtain⟨B,hc,hE,hi,⟨gv,hg,gk,gl⟩,ht,he⟩:=C
 refine bJ (gJ (tt:=ud X.K tt) (te:=up X.K te) B hc hE hi hg gk ht he hs) ?_
 rintro σ H Q ⟨δ,M,Q2,hs,hm,q,k⟩
 exact dX gl hs hm q λ acc xs H' M' p hd cW t' hz hp q'=>k _ _ (.ref p) _ (aA.mpr rfl) (cw hp hd cW) (t'.trans (ai.laid hp)) (q' p (cW.free hp))
theorem sE{i:Nat}{y:Str}{py fm:Pos}(hN:X.N.Nodup)(hiy:X.N[i]?=some y)(hy:Loc X.env.scope y)(C:gw X scope tgs fr tg iter ifs elt wi g tt te)
  (hsw:swapsWith (.ListComp elt [⟨tg,iter,ifs,0⟩] scope pos) (some (.Name y py)) fm.line X.env=pure true:=by rfl)
  (hf:X.fn y=true\/X.env.scope.names.lookup y=some .local:=by first|exact .inl rfl|exact .inr rfl|assumption)
  (hs:∀x,foldedSetIterable iter X.env x=pure x:=by intro _;rfl):QS X (.Assign [.Name y py] (.ListComp elt [⟨tg,iter,ifs,0⟩] scope pos) fm) (la (pR wi g tt te tgs.length fr) (hName i)):=by
 obtain⟨B,hc,hE,hi,⟨gv,hg,gk,gl⟩,ht,he⟩:=C
 refine f' (sG (tt:=ud X.K tt) (te:=up X.K te) hN hiy hy B hc hE hi hg gk ht he hsw hf hs) ?_
 rintro E σ H ⟨δ,M,D2,hs,hm,q,k⟩
 exact dX gl hs hm q λ acc xs H' M' p hd cW t' hz hp q'=>k.nx _ _ _ _ (((hs.mono t').mono (ai.laid hp)).set (aA.mpr rfl)) (cw hp hd cW) (t'.trans (ai.laid hp)) (q' p (cW.free hp))
def wd(r3:List D->Mem->bq->Prop)(wi:i')(g:eV)(tt:dh)(te:bV)(n:Nat)(fr:List Nat):bV:=λ δ M Q=>eG wi g tt te n fr δ M λ ds M'=>r3 ds M' Q
def iQ(r2:List D->Mem->bq->Prop)(r3:List D->Mem->bq->Prop):Prop:=∀ds M p Q,M p=none->ds.length<=sizeLine->r3 ds M Q->r2 [.ref p] (aw M p (.lst ds)) (fin2 Q)
theorem qI{K:PySem.W.Frag}{H:Hp}{Q2:bq}{Q:VK}(k:f_ K H Q2 Q):f_ K H (fin2 Q2) Q:=λ v H' d M' hd hm t ⟨xS,s,q⟩=>k v H' d xS hd (hm.sub s) t q
variable {x:Str}{p:Pos}{id T:String}{aZ:Pos}
theorem pC{r:List V->Hp->VK->Prop}{r2 r3:List D->Mem->bq->Prop}{gv:TG}(gl:∀v σ H Q,Gz X.K g v σ H Q->gv v σ H Q)(hr:JN X.K r r2)(h3:iQ r2 r3):∀σ H Q,up X.K (wd r3 wi g tt te tgs.length fr) σ H Q->GN r (dq (jD (JT X.K wi) gv (ud X.K tt) (up X.K te) tgs.length fr) kW) σ H Q:=by
 rintro σ H Q ⟨δ,M,Q2,hs,hm,q,k⟩
 show jD (JT X.K wi) gv (ud X.K tt) (up X.K te) tgs.length fr σ H (λ x H1=>r [x] H1 Q)
 refine dX gl hs hm q λ acc xs H' M' p hd cW t' hz hp q'=>?_
 exact hr [.ref p] [.ref p] _ _ (fin2 Q2) Q (az.one (aA.mpr rfl)) (cw hp hd cW) (h3 acc M' p Q2 (cW.free hp) hz q') (qI (k.mono (t'.trans (ai.laid hp))))
theorem HK{r2 r3:List D->Mem->bq->Prop}(o:cK X (.builtin id) r2)(h3:iQ r2 r3)(hg:Gl X x)(hm:X.mg x=none)(hv:bootBuiltins x=some (.builtin id))(C:gw X scope tgs fr tg iter ifs elt wi g tt te)(hn:x≠"__name__":=by decide)(hdb:(x==("__debug__":Str))=false:=by decide)
  (hs:∀x,foldedSetIterable iter X.env x=pure x:=by intro _;rfl):QE X (.Call (.Name x p) [.ListComp elt [⟨tg,iter,ifs,0⟩] scope aZ] [] pos) (wd r3 wi g tt te tgs.length fr):=by
 obtain⟨B,hc,hE,hi,⟨gv,EG,gk,gl⟩,ht,he⟩:=C
 obtain⟨r,ho,hr⟩:=o
 exact bJ (gL ho hg hm hv (aK (gJ (tt:=ud X.K tt) (te:=up X.K te) B hc hE hi EG gk ht he hs) cu) hn hdb) (pC gl hr h3)
theorem HI{r2 r3:List D->Mem->bq->Prop}(o:cK X (.type T) r2)(h3:iQ r2 r3)(hg:Gl X x)(hm:X.mg x=none)(hv:bootBuiltins x=some (.type T))(C:gw X scope tgs fr tg iter ifs elt wi g tt te)(hn:x≠"__name__":=by decide)(hdb:(x==("__debug__":Str))=false:=by decide)
  (hs:∀x,foldedSetIterable iter X.env x=pure x:=by intro _;rfl):QE X (.Call (.Name x p) [.ListComp elt [⟨tg,iter,ifs,0⟩] scope aZ] [] pos) (wd r3 wi g tt te tgs.length fr):=by
 obtain⟨B,hc,hE,hi,⟨gv,EG,gk,gl⟩,ht,he⟩:=C
 obtain⟨r,ho,hr⟩:=o
 exact bJ (ig ho hg hm hv (aK (gJ (tt:=ud X.K tt) (te:=up X.K te) B hc hE hi EG gk ht he hs) cu) hn hdb) (pC gl hr h3)
variable {o:Expr}{to:bV}{name:Str}{apos:Pos}
def yz(T:String)(r3:D->List D->Mem->bq->Prop)(to:bV)(wi:i')(g:eV)(tt:dh)(te:bV)(n:Nat)(fr:List Nat):bV:=λ δ M Q=>to δ M λ d M1=>JU T d M1/\eG wi g tt te n fr δ M1 λ ds M'=>r3 d ds M' Q
def tX(r2:D->List D->Mem->bq->Prop)(r3:D->List D->Mem->bq->Prop):Prop:=∀d ds M p Q,M p=none->ds.length<=sizeLine->r3 d ds M Q->r2 d [.ref p] (aw M p (.lst ds)) (fin2 Q)
theorem HJ{r2 r3:D->List D->Mem->bq->Prop}(pa:PlainAttrs T)(slot:Slot T name id)(hty:typeOf (.builtin id)=pure (.type "method_descriptor"))(hm:JQ X id r2)(h3:tX r2 r3)(ho:QE X o to)(C:gw X scope tgs fr tg iter ifs elt wi g tt te)
  (hs:∀x,foldedSetIterable iter X.env x=pure x:=by intro _;rfl)
  (hbase:attributeBase o name X.env (eval o X.env)=eval o X.env:=by rfl)
  (hfew:((backTo pos (starEach [.ListComp elt [⟨tg,iter,ifs,0⟩] scope aZ] X.env)).all (λ x=>!x.1)&&(backToKw pos (keywordEach [] X.env)).all (λ x=>x.1.isSome)
   &&decide (([.ListComp elt [⟨tg,iter,ifs,0⟩] scope aZ]:List Expr).length+([]:List Keyword).length+(if([]:List Keyword).isEmpty then 0 else 1) < 30))=true:=by rfl)
  (hline:(apos.endLine==pos.line)=true:=by rfl):
  QE X (.Call (.Attribute o name apos) [.ListComp elt [⟨tg,iter,ifs,0⟩] scope aZ] [] pos) (yz T r3 to wi g tt te tgs.length fr):=by
 obtain⟨B,hc,hE,hi,⟨gv,EG,gk,gl⟩,ht,he⟩:=C
 obtain⟨r,h1,hr⟩:=hm
 refine bJ (FK pa slot hty h1 ho (aK (gJ (tt:=ud X.K tt) (te:=up X.K te) B hc hE hi EG gk ht he hs) cu) hbase hfew hline) ?_
 rintro σ H Q ⟨δ,M,Q2,hs,hm,q,k⟩
 refine⟨δ,M,_,hs,hm,q,λ x H1 d M1 hd bU t1 q1=>⟨q1.1.v hd bU,?_⟩⟩
 show jD (JT X.K wi) gv (ud X.K tt) (up X.K te) tgs.length fr σ H1 (λ y H2=>r x [y] H2 Q)
 refine dX gl (hs.mono t1) bU q1.2 λ acc xs H' M' p oy cW t' hz hp q'=>?_
 exact hr x [.ref p] d [.ref p] _ _ (fin2 Q2) Q (Dat.mono (t'.trans (ai.laid hp)) d hd) (az.one (aA.mpr rfl)) (cw hp oy cW) (h3 d acc M' p Q2 (cW.free hp) hz q') (qI (k.mono (t1.trans (t'.trans (ai.laid hp)))))
end
end L3
namespace L3
open PySem PySem.Spec L2
section
variable {X:Cx}
def dI(C:Int->Int->Prop)(g:Int->Int->D):eX:=λ x y M Q=>match x,y with
 | .int i,.int j=>C i j/\Q (g i j) M
 |_,_=>False
def Gj(g:Int->Int->D):eX:=λ x y M Q=>match x,y with
 | .int i,.int j=>Q (g i j) M
 |_,_=>False
theorem si{f:Value->Value->Sem Value}{C:Int->Int->Prop}{g:Int->Int->Int}(h:eo X f (rI C λ i j=>.int (g i j))):eY X f (dI C λ i j=>.int (g i j)):=⟨_,h,λ x y d e H M Q2 Q hd he hm q k=>by
 cases d <;> cases e <;> first
  |exact q.elim
  |(cases(aq.mp hd);cases(aq.mp he);exact⟨_,_,rfl,rfl,q.1,k _ H _ M (aq.mpr rfl) hm (ai.refl H) q.2⟩)⟩
theorem R4{f:Value->Value->Sem Value}{g:Int->Int->Int}(h:eo X f (C5 λ i j=>.int (g i j))):eY X f (Gj λ i j=>.int (g i j)):=⟨_,h,λ x y d e H M Q2 Q hd he hm q k=>by
 cases d <;> cases e <;> first
  |exact q.elim
  |(cases(aq.mp hd);cases(aq.mp he);exact⟨_,_,rfl,rfl,k _ H _ M (aq.mpr rfl) hm (ai.refl H) q⟩)⟩
theorem Ot{f:Value->Value->Sem Value}{g:Int->Int->Bool}(h:eo X f (C5 λ i j=>.bl (g i j))):eY X f (Gj λ i j=>.bl (g i j)):=⟨_,h,λ x y d e H M Q2 Q hd he hm q k=>by
 cases d <;> cases e <;> first
  |exact q.elim
  |(cases(aq.mp hd);cases(aq.mp he);exact⟨_,_,rfl,rfl,k _ H _ M (aN.mpr rfl) hm (ai.refl H) q⟩)⟩
theorem FN:eY X (binaryOp .Sub) (Gj λ i j=>.int (i - j)):=R4 Ie
theorem iF:eY X (binaryOp .Mod) (dI (λ _ j=>0 < j) λ i j=>.int (i % j)):=si Ik
theorem nO:eY X (binaryOp .FloorDiv) (dI JS λ i j=>.int (i / j)):=si DL
theorem Lz:eY X (binaryOp .Pow) (dI Nc λ i j=>.int (i^j.toNat)):=si Ih
theorem Iz:eY X (compareOp .Lt) (Gj λ i j=>.bl (decide (i < j))):=Ot Lr
theorem DY:eY X (compareOp .Gt) (Gj λ i j=>.bl (decide (j < i))):=Ot Ls
theorem OR:eY X (compareOp .GtE) (Gj λ i j=>.bl (decide (j<=i))):=Ot Lu
def E4:eX:=λ x y M Q=>match x,y with
 | .int i,.int j=>Q (.int (i+j)) M
 | .str i,.str j=>i.length+j.length<=sizeLine/\Q (.str (i++j)) M
 | .tup xs,.tup ys=>xs≠[]/\xs.length+ys.length<=sizeLine/\Q (.tup (xs++ys)) M
 | .ref a,.ref b=>match M a,M b with
  |some (.lst xs),some (.lst ys)=>xs.length+ys.length<=sizeLine/\∀p,M p=none->Q (.ref p) (aw M p (.lst (xs++ys)))
  |_,_=>False
 |_,_=>False
theorem LB:eY X (binaryOp .Add) E4:=⟨_,Iq.or (sP.or (Ip.or DM)),λ x y d e H M Q2 Q hd he hm q k=>by
 cases d with
 |int i=>
  cases e with
  |int j=>cases(aq.mp hd);cases(aq.mp he);exact .inl ⟨_,_,rfl,rfl,k _ H _ M (aq.mpr rfl) hm (ai.refl H) q⟩
  |_=>exact q.elim
 |str i=>
  cases e with
  |str j=>cases(aG.mp hd);cases(aG.mp he);exact .inr (.inl ⟨_,_,rfl,rfl,q.1,k _ H _ M (aG.mpr rfl) hm (ai.refl H) q.2⟩)
  |_=>exact q.elim
 |tup xs=>
  cases e with
  |tup ys=>
   obtain⟨p,vs,rfl,hp,hx⟩:=aE.mp hd
   obtain⟨p2,ws,rfl,gA,hy⟩:=aE.mp he
   obtain⟨eR,hlen,q⟩:=q
   refine .inr (.inr (.inr ⟨p,p2,vs,ws,rfl,rfl,hp,gA,?_,by rw[hx.length,hy.length];exact hlen,?_⟩))
   ·intro z
    have:=hx.length
    rw[z]at this
    exact eR (j0.mp this.symm)
   ·refine⟨λ hz=>?_,λ hz p3 EC=>?_⟩
    ·have SA:ys=[]:=by
      have:=hy.length
      rw[hz]at this
      exact j0.mp this.symm
     subst SA
     rw[u9]at q
     exact k _ H _ M (aE.mpr ⟨p,vs,rfl,hp,hx⟩) hm (ai.refl H) q
    ·exact k _ _ _ M (fH EC (hx.append hy)) (hm.laid EC) (ai.laid EC) q
  |_=>exact q.elim
 |ref a=>
  cases e with
  |ref b=>
   cases(aA.mp hd);cases(aA.mp he)
   have q:(match M a,M b with|some (.lst xs),some (.lst ys)=>xs.length+ys.length<=sizeLine/\∀p,M p=none->Q2 (.ref p) (aw M p (.lst (xs++ys)))|_,_=>False):=q
   cases ea:M a with
   |none=>rw[ea]at q;exact q.elim
   |some oa=>
    cases eb:M b with
    |none=>rw[ea,eb]at q;cases oa <;> exact q.elim
    |some ob=>
     cases oa with
     |eL b kvs=>rw[ea,eb]at q;exact q.elim
     |lst xs=>
      cases ob with
      |eL b kvs=>rw[ea,eb]at q;exact q.elim
      |lst ys=>
       rw[ea,eb]at q
       obtain⟨vs,Q_,AX⟩:=hm a _ ea
       obtain⟨ws,SD,Ry⟩:=hm b _ eb
       refine .inr (.inr (.inl ⟨a,b,vs,ws,rfl,rfl,Q_,SD,by rw[AX.length,Ry.length];exact q.1,λ p hp=>?_⟩))
       exact k _ _ (.ref p) _ (aA.mpr rfl) (cw hp (AX.append Ry) hm) (ai.laid hp) (q.2 p (hm.free hp))
  |_=>exact q.elim
 |_=>exact q.elim⟩
def E1:eX:=λ x y M Q=>match x,y with
 | .int i,.int j=>pb i j/\Q (.int (i*j)) M
 | .str z,.int n=>MulOk z n/\Q (.str (Txt.mul z n)) M
 |_,_=>False
theorem LA:eY X (binaryOp .Mult) E1:=⟨_,Ij.or sO,λ x y d e H M Q2 Q hd he hm q k=>by
 cases d <;> cases e <;> first
  |exact q.elim
  |(cases(aq.mp hd);cases(aq.mp he);exact .inl ⟨_,_,rfl,rfl,q.1,k _ H _ M (aq.mpr rfl) hm (ai.refl H) q.2⟩)
  |(cases(aG.mp hd);cases(aq.mp he);exact .inr ⟨_,_,rfl,rfl,q.1,k _ H _ M (aG.mpr rfl) hm (ai.refl H) q.2⟩)⟩
def ko:D->Option V
 | .a_=>some .a_
 | .bl b=>some (.bl b)
 | .int i=>some (.int i)
 | .str x=>some (.str x)
 |_=>none
theorem my{K:PySem.W.Frag}{H:Hp}{d:D}{x v:V}(e:ko d=some v)(h:Dat K H d x):x=v:=by
 cases d with
 |a_=>cases e;exact cQ.mp h
 |bl b=>cases e;exact aN.mp h
 |int i=>cases e;exact aq.mp h
 |str z=>cases e;exact aG.mp h
 |ty n=>exact absurd e (by intro z;cases z)
 |ref a=>exact absurd e (by intro z;cases z)
 |tup xs=>exact absurd e (by intro z;cases z)
 |fl xs=>exact absurd e (by intro z;cases z)
theorem km{d:D}{v:V}(e:ko d=some v):eT v=true:=by
 cases d with
 |a_=>cases e;rfl
 |bl b=>cases e;rfl
 |int i=>cases e;rfl
 |str z=>cases e;rfl
 |ty n=>exact absurd e (by intro z;cases z)
 |ref a=>exact absurd e (by intro z;cases z)
 |tup xs=>exact absurd e (by intro z;cases z)
 |fl xs=>exact absurd e (by intro z;cases z)
def JB(neg:Bool):eX:=λ x y M Q=>match x,y with
 | .int i,.int j=>Q (.bl (xor neg (decide (i=j)))) M
 | .bl i,.bl j=>Q (.bl (xor neg (decide (i=j)))) M
 | .str i,.str j=>Q (.bl (xor neg (decide (i=j)))) M
 |_,_=>False
theorem OS:eY X (compareOp .Eq) (JB false):=⟨_,Lv,λ x y d e H M Q2 Q hd he hm q k=>by
 cases d <;> cases e <;> first
  |exact q.elim
  |(cases(aq.mp hd);cases(aq.mp he);refine⟨rfl,k _ H _ M (aN.mpr rfl) hm (ai.refl H) ?_⟩;have q:Q2 (.bl (xor false (decide (_=_)))) M:=q;simpa using q)
  |(cases(aN.mp hd);cases(aN.mp he);refine⟨rfl,k _ H _ M (aN.mpr rfl) hm (ai.refl H) ?_⟩;have q:Q2 (.bl (xor false (decide (_=_)))) M:=q;simpa using q)
  |(cases(aG.mp hd);cases(aG.mp he);refine⟨rfl,k _ H _ M (aN.mpr rfl) hm (ai.refl H) ?_⟩;have q:Q2 (.bl (xor false (decide (_=_)))) M:=q;simpa using q)⟩
theorem OP:eY X (compareOp .NotEq) (JB true):=⟨_,Lq,λ x y d e H M Q2 Q hd he hm q k=>by
 cases d <;> cases e <;> first
  |exact q.elim
  |(cases(aq.mp hd);cases(aq.mp he);refine⟨rfl,k _ H _ M (aN.mpr rfl) hm (ai.refl H) ?_⟩;have q:Q2 (.bl (xor true (decide (_=_)))) M:=q;simpa using q)
  |(cases(aN.mp hd);cases(aN.mp he);refine⟨rfl,k _ H _ M (aN.mpr rfl) hm (ai.refl H) ?_⟩;have q:Q2 (.bl (xor true (decide (_=_)))) M:=q;simpa using q)
  |(cases(aG.mp hd);cases(aG.mp he);refine⟨rfl,k _ H _ M (aN.mpr rfl) hm (ai.refl H) ?_⟩;have q:Q2 (.bl (xor true (decide (_=_)))) M:=q;simpa using q)⟩
def Jz(neg:Bool):eX:=λ x y M Q=>match y with
 | .a_=>match x with
  | .a_=>Q (.bl (!neg)) M
  |_=>Q (.bl neg) M
 |_=>False
theorem Be{K:PySem.W.Frag}{H:Hp}{d:D}{x:V}(h:Dat K H d x):decide (x=.a_)=match d with| .a_=>true|_=>false:=by
 cases d with
 |a_=>cases(cQ.mp h);rfl
 |bl b=>cases(aN.mp h);rfl
 |int b=>cases(aq.mp h);rfl
 |str b=>cases(aG.mp h);rfl
 |ty b=>cases(tI.mp h);rfl
 |ref b=>cases(aA.mp h);rfl
 |tup b=>obtain⟨p,xs,rfl,_⟩:=aE.mp h;rfl
 |fl b=>obtain⟨p,xs,rfl,_⟩:=gj.mp h;rfl
theorem uM:eY X (compareOp .Is) (Jz false):=⟨_,Il,λ x y d e H M Q2 Q hd he hm q k=>by
 cases e with
 |a_=>
  refine⟨cQ.mp he,?_⟩
  rw[Be hd]
  refine k _ H _ M (aN.mpr rfl) hm (ai.refl H) ?_
  cases d <;> exact q
 |_=>exact q.elim⟩
def MG:D->Mem->bq->Prop:=λ x M Q=>match x with
 | .int i=>Q (.int (-i)) M
 |_=>False
theorem Fu:Qv X (unaryOp .USub) MG:=⟨_,GA,λ x d H M Q2 Q hd hm q k=>by
 cases d with
 |int i=>exact⟨i,aq.mp hd,k _ H _ M (aq.mpr rfl) hm (ai.refl H) q⟩
 |_=>exact q.elim⟩
def iK:List D->Option (List V)
 |[]=>some []
 |d::r=>match ko d,iK r with
  |some v,some vs=>some (v::vs)
  |_,_=>none
theorem kj{K:PySem.W.Frag}{H:Hp}:∀{ds:List D} {xs vs:List V},iK ds=some vs->az K H ds xs->xs=vs/\vs.all eT=true
 |[],xs,vs,e,h=>by cases e;exact⟨ao.mp h,rfl⟩
 |d::r,xs,vs,e,h=>by
  obtain⟨x,ys,rfl,hx,hy⟩:=af.mp h
  unfold iK at e
  cases e1:ko d with
  |none=>rw[e1]at e;cases e
  |some v=>
   cases e2:iK r with
   |none=>rw[e1,e2]at e;cases e
   |some ws=>
    rw[e1,e2]at e
    cases e
    obtain⟨h1,h2⟩:=kj e2 hy
    exact⟨by rw[my e1 hx,h1],by rw[all_cons,km e1,h2];rfl⟩
def inD(x:D)(ds:List D):Option Bool:=match ko x,iK ds with
 |some v,some vs=>some (FT v vs)
 |_,_=>none
def NW:eX:=λ x y M Q=>match y with
 | .str j=>match x with
  | .str i=>Q (.bl (!(Builtin.Str.occurrences j i 0 j.length 1).isEmpty)) M
  |_=>False
 | .tup ds=>match inD x ds with
  |some b=>Q (.bl b) M
  |none=>False
 | .ref a=>match M a with
  |some (.lst ds)=>match inD x ds with
   |some b=>Q (.bl b) M
   |none=>False
  |_=>False
 |_=>False
theorem Am{K:PySem.W.Frag}{H:Hp}{x:V}{xs:List V}{d:D}{ds:List D}{b:Bool}(e:inD d ds=some b)(hd:Dat K H d x)(hx:az K H ds xs):eT x=true/\xs.all eT=true/\FT x xs=b:=by
 unfold inD at e
 cases e1:ko d with
 |none=>rw[e1]at e;cases e
 |some v=>
  cases e2:iK ds with
  |none=>rw[e1,e2]at e;cases e
  |some vs=>
   rw[e1,e2]at e
   have e:FT v vs=b:=w9 e
   obtain⟨rfl,h2⟩:=kj e2 hx
   cases(my e1 hd)
   exact⟨km e1,h2,e⟩
theorem OQ:eY X (compareOp .In) NW:=⟨_,wC.or wD,λ x y d e H M Q2 Q hd he hm q k=>by
 cases e with
 |str j=>
  cases(aG.mp he)
  cases d with
  |str i=>cases(aG.mp hd);exact .inl ⟨_,_,rfl,rfl,k _ H _ M (aN.mpr rfl) hm (ai.refl H) q⟩
  |_=>exact q.elim
 |tup ds=>
  obtain⟨p,xs,rfl,hp,hx⟩:=aE.mp he
  have q:(match inD d ds with|some b=>Q2 (.bl b) M|none=>False):=q
  cases ei:inD d ds with
  |none=>rw[ei]at q;exact q.elim
  |some b=>
   rw[ei]at q
   obtain⟨h1,h2,h3⟩:=Am ei hd hx
   refine .inr ⟨p,xs,rfl,.inr hp,h1,h2,?_⟩
   simp only[m5,B0]
   rw[h3]
   exact k _ H _ M (aN.mpr rfl) hm (ai.refl H) q
 |ref a=>
  cases(aA.mp he)
  have q:(match M a with|some (.lst ds)=>(match inD d ds with|some b=>Q2 (.bl b) M|none=>False)|_=>False):=q
  cases ea:M a with
  |none=>rw[ea]at q;exact q.elim
  |some o=>
   cases o with
   |eL b kvs=>rw[ea]at q;exact q.elim
   |lst ds=>
    rw[ea]at q
    obtain⟨xs,hx,dx⟩:=hm a _ ea
    cases ei:inD d ds with
    |none=>simp only[ei]at q
    |some b=>
     simp only[ei]at q
     obtain⟨h1,h2,h3⟩:=Am ei hd dx
     refine .inr ⟨a,xs,rfl,.inl (cS.of hx),h1,h2,?_⟩
     simp only[m5,B0]
     rw[h3]
     exact k _ H _ M (aN.mpr rfl) hm (ai.refl H) q
 |_=>exact q.elim⟩
end
end L3
namespace L3
open PySem PySem.Spec L2
theorem Fi{K:PySem.W.Frag}{H:Hp}{ds:List D}{xs:List V}(h:az K H ds xs){i:Int}{d:D}(e:e_ ds i=some d):∃x,e_ xs i=some x/\Dat K H d x:=by
 unfold e_ at e ⊢
 rw[h.length]
 cases q:uZ ds.length i with
 |none=>rw[q]at e;cases e
 |some j=>
  rw[q]at e
  obtain⟨x,h1,h2⟩:=h.get (i:=j) e
  exact⟨x,h1,h2⟩
section
variable {X:Cx}
def aO(M:Mem)(a:Addr):Option (List D):=match M a with
 |some (.lst ds)=>some ds
 |_=>none
theorem cM{K:PySem.W.Frag}{H:Hp}{M:Mem}{a:Addr}{ds:List D}(e:aO M a=some ds)(hm:RelM K H M):∃xs,H a=some (.lst xs)/\az K H ds xs:=by
 unfold aO at e
 cases q:M a with
 |none=>rw[q]at e;cases e
 |some o=>
  cases o with
  |eL b kvs=>rw[q]at e;cases e
  |lst es=>
   rw[q]at e
   cases e
   exact hm a _ q
def cG(M:Mem):D->Option (List D)
 | .tup ds=>some ds
 | .fl ds=>some ds
 | .ref a=>aO M a
 |_=>none
theorem fq{K:PySem.W.Frag}{H:Hp}{M:Mem}{d:D}{v:V}{ds:List D}(e:cG M d=some ds)(hd:Dat K H d v)(hm:RelM K H M):∃p xs,v=.ref p/\(cS K H p xs\/ef K H p xs)/\az K H ds xs:=by
 cases d with
 |tup es=>
  cases e
  obtain⟨p,xs,rfl,h,q⟩:=aE.mp hd
  exact⟨p,xs,rfl,.inr h,q⟩
 |fl es=>
  cases e
  obtain⟨p,xs,rfl,h,q⟩:=gj.mp hd
  exact⟨p,xs,rfl,.inl h.sq,q⟩
 |ref a=>
  cases(aA.mp hd)
  obtain⟨xs,h,q⟩:=cM e hm
  exact⟨a,xs,rfl,.inl (cS.of h),q⟩
 |_=>cases e
def Jy:eX:=λ x y M Q=>match y with
 | .int i=>match x with
  | .str z=>z.length<=sizeLine/\(match e_ z.cps.toList i with
   |some c=>Q (.str ⟨#[c]⟩) M
   |none=>False)
  |x=>match cG M x with
   |some ds=>(match e_ ds i with
    |some d=>Q d M
    |none=>False)
   |none=>False
 |_=>False
theorem nV{x:V}{d:D}{i:Int}{H:Hp}{M:Mem}{Q2:bq}{Q:VK}{K:PySem.W.Frag}(hd:Dat K H d x)(hm:RelM K H M)(k:f_ K H Q2 Q)
  (q:match cG M d with|some ds=>(match e_ ds i with|some d=>Q2 d M|none=>False)|none=>False):∃p xs v,x=.ref p/\(cS K H p xs\/ef K H p xs)/\e_ xs i=some v/\Q v H:=by
 cases e:cG M d with
 |none=>rw[e]at q;exact q.elim
 |some ds=>
  rw[e]at q
  cases ei:e_ ds i with
  |none=>simp only[ei]at q
  |some d'=>
   simp only[ei]at q
   obtain⟨p,xs,rfl,h,hx⟩:=fq e hd hm
   obtain⟨v,h1,h2⟩:=Fi hx ei
   exact⟨p,xs,v,rfl,h,h1,k v H d' M h2 hm (ai.refl H) q⟩
theorem bh:M9 X Jy:=⟨_,L2.bh,λ x y d e H M Q2 Q hd he hm q k=>by
 cases e with
 |int i=>
  cases(aq.mp he)
  cases d with
  |str z=>
   cases(aG.mp hd)
   obtain⟨hz,q⟩:=q
   refine⟨hz,?_⟩
   cases ei:e_ z.cps.toList i with
   |none=>rw[ei]at q;exact q.elim
   |some c=>rw[ei]at q;exact⟨c,rfl,k _ H _ M (aG.mpr rfl) hm (ai.refl H) q⟩
  |tup ds=>
   obtain⟨p,xs,v,rfl,h⟩:=nV (d:=.tup ds) (i:=i) hd hm k q
   exact⟨xs,v,h⟩
  |fl ds=>
   obtain⟨p,xs,v,rfl,h⟩:=nV (d:=.fl ds) (i:=i) hd hm k q
   exact⟨xs,v,h⟩
  |ref a=>
   obtain⟨p,xs,v,rfl,h⟩:=nV (d:=.ref a) (i:=i) hd hm k q
   exact⟨xs,v,h⟩
  |_=>exact q.elim
 |_=>exact q.elim⟩
def cutD(xs:List D)(lo hi:Option Int):List D:=(xs.drop (HT.bS xs.length 0 lo)).take (HT.bS xs.length xs.length hi - HT.bS xs.length 0 lo)
theorem qT{K:PySem.W.Frag}{H:Hp}{ds:List D}{xs:List V}(h:az K H ds xs)(lo hi:Option Int):az K H (cutD ds lo hi) (qU xs lo hi):=by
 unfold cutD qU
 rw[h.length]
 exact(h.drop _).take _
def Rz:D->Option Int->Option Int->Mem->bq->Prop:=λ x lo hi M Q=>match x with
 | .str z=>z.length<=sizeLine/\Q (.str (lx z lo hi)) M
 | .tup ds=>¬(HT.bS ds.length 0 lo=0/\HT.bS ds.length ds.length hi=ds.length)/\Q (.tup (cutD ds lo hi)) M
 | .ref a=>match aO M a with
  |some ds=>∀p,M p=none->Q (.ref p) (aw M p (.lst (cutD ds lo hi)))
  |none=>False
 |_=>False
theorem ny:MW X Rz:=⟨_,L2.ny,λ x d lo hi H M Q2 Q hd hm q k=>by
 cases d with
 |str z=>cases(aG.mp hd);exact⟨q.1,k _ H _ M (aG.mpr rfl) hm (ai.refl H) q.2⟩
 |tup ds=>
  obtain⟨p,xs,rfl,h,hx⟩:=aE.mp hd
  refine .inr ⟨p,xs,rfl,h,by rw[hx.length];exact q.1,λ p2 gA=>?_⟩
  exact k _ _ _ M (fH gA (qT hx lo hi)) (hm.laid gA) (ai.laid gA) q.2
 |ref a=>
  cases(aA.mp hd)
  have q:(match aO M a with|some ds=>∀p,M p=none->Q2 (.ref p) (aw M p (.lst (cutD ds lo hi)))|none=>False):=q
  cases e:aO M a with
  |none=>rw[e]at q;exact q.elim
  |some ds=>
   rw[e]at q
   obtain⟨xs,h,hx⟩:=cM e hm
   exact .inl ⟨a,xs,rfl,cS.of h,λ p hp=>k _ _ (.ref p) _ (aA.mpr rfl) (cw hp (qT hx lo hi) hm) (ai.laid hp) (q p (hm.free hp))⟩
 |_=>exact q.elim⟩
def xq:List D->Mem->bq->Prop:=λ xs M Q=>match xs with
 |[.str z]=>z.length<=sizeLine/\Q (.int z.length) M
 |[x]=>match cG M x with
  |some ds=>Q (.int ds.length) M
  |none=>False
 |_=>False
theorem iP:cK X (.builtin "len") xq:=⟨_,oP.or oQ,λ xs ds H M Q2 Q hd hm q k=>by
 cases ds with
 |nil=>exact q.elim
 |cons d r=>
  cases r with
  |cons d2 r2=>cases d <;> exact q.elim
  |nil=>
   obtain⟨x,r,rfl,hx,hr⟩:=af.mp hd
   cases(ao.mp hr)
   have seq:(match cG M d with|some ds=>Q2 (.int ds.length) M|none=>False)->∃p ys,[x]=[V.ref p]/\(cS X.K H p ys\/ef X.K H p ys)/\Q (.int ys.length) H:=λ q=>by
    cases e:cG M d with
    |none=>rw[e]at q;exact q.elim
    |some es=>
     rw[e]at q
     obtain⟨p,ys,rfl,h,hy⟩:=fq e hx hm
     refine⟨p,ys,rfl,h,?_⟩
     rw[hy.length]
     exact k _ H _ M (aq.mpr rfl) hm (ai.refl H) q
   cases d with
   |str z=>cases(aG.mp hx);exact .inl ⟨z,rfl,q.1,k _ H _ M (aq.mpr rfl) hm (ai.refl H) q.2⟩
   |tup es=>exact .inr (seq q)
   |fl es=>exact .inr (seq q)
   |ref a=>exact .inr (seq q)
   |_=>exact q.elim⟩
def dList:List D->Mem->bq->Prop:=λ xs M Q=>match xs with
 |[x]=>match cG M x with
  |some ds=>∀p,M p=none->Q (.ref p) (aw M p (.lst ds))
  |none=>False
 |_=>False
theorem JE:cK X (.type "list") dList:=⟨_,oO,λ xs ds H M Q2 Q hd hm q k=>by
 cases ds with
 |nil=>exact q.elim
 |cons d r=>
  cases r with
  |cons d2 r2=>exact q.elim
  |nil=>
   obtain⟨x,r,rfl,hx,hr⟩:=af.mp hd
   cases(ao.mp hr)
   have q:(match cG M d with|some ds=>∀p,M p=none->Q2 (.ref p) (aw M p (.lst ds))|none=>False):=q
   cases e:cG M d with
   |none=>rw[e]at q;exact q.elim
   |some es=>
    rw[e]at q
    obtain⟨p,ys,rfl,h,hy⟩:=fq e hx hm
    exact⟨p,ys,rfl,h,λ l hl=>k _ _ (.ref l) _ (aA.mpr rfl) (cw hl hy hm) (ai.laid hl) (q l (hm.free hl))⟩⟩
def oH:List D->Mem->bq->Prop:=λ xs M Q=>match xs with
 |[x]=>match cG M x with
  |some ds=>Q (.tup ds) M
  |none=>False
 |_=>False
theorem cf:cK X (.type "tuple") oH:=⟨_,ly,λ xs ds H M Q2 Q hd hm q k=>by
 cases ds with
 |nil=>exact q.elim
 |cons d r=>
  cases r with
  |cons d2 r2=>exact q.elim
  |nil=>
   obtain⟨x,r,rfl,hx,hr⟩:=af.mp hd
   cases(ao.mp hr)
   have q:(match cG M d with|some ds=>Q2 (.tup ds) M|none=>False):=q
   cases e:cG M d with
   |none=>rw[e]at q;exact q.elim
   |some es=>
    rw[e]at q
    obtain⟨p,ys,rfl,h|h,hy⟩:=fq e hx hm
    ·exact⟨p,ys,rfl,.inl ⟨h,λ l hl=>k _ _ (.tup es) M (fH hl hy) (hm.laid hl) (ai.laid hl) q⟩⟩
    ·exact⟨p,ys,rfl,.inr ⟨h,k _ H (.tup es) M (aE.mpr ⟨p,ys,rfl,h,hy⟩) hm (ai.refl H) q⟩⟩⟩
theorem bQ:iQ oH (λ ds M Q=>Q (.tup ds) M):=λ ds M p Q hp hz q=>by
 show(match cG (aw M p (.lst ds)) (.ref p)with|some es=>fin2 Q (.tup es) (aw M p (.lst ds))|none=>False)
 have e:cG (aw M p (.lst ds)) (.ref p)=some ds:=by
  show aO (aw M p (.lst ds)) p=some ds
  unfold aO
  rw[ar]
 rw[e]
 exact⟨M,(ja.refl M).put hp,q⟩
def hU:List D->Option (List Bool)
 |[]=>some []
 | .bl b::r=>(hU r).map (b::·)
 |_::_=>none
theorem dZ:∀(bs:List Bool),hU (bs.map D.bl)=some bs
 |[]=>rfl
 |b::bs=>by rw[z4];unfold hU;rw[dZ bs];rfl
theorem vE:∀{ds:List D} {bs:List Bool},hU ds=some bs->ds=bs.map D.bl
 |[],bs,e=>by cases e;rfl
 |d::r,bs,e=>by
  cases d with
  |bl b=>
   unfold hU at e
   cases q:hU r with
   |none=>rw[q]at e;cases e
   |some cs=>
    rw[q]at e
    cases e
    rw[vE q]
    rfl
  |_=>cases e
def MN:List D->Mem->bq->Prop:=λ xs M Q=>match xs with
 |[.ref a]=>match aO M a with
  |some ds=>match hU ds with
   |some bs=>Q (.bl (bs.all id)) M
   |none=>False
  |none=>False
 |_=>False
theorem Gk(hc:X.calm=true):cK X (.builtin "all") MN:=⟨_,rg hc,λ xs ds H M Q2 Q hd hm q k=>by
 cases ds with
 |nil=>exact q.elim
 |cons d r=>
  cases r with
  |cons d2 r2=>cases d <;> exact q.elim
  |nil=>
   cases d with
   |ref a=>
    obtain⟨x,r,rfl,hx,hr⟩:=af.mp hd
    cases(ao.mp hr)
    cases(aA.mp hx)
    have q:(match aO M a with|some ds=>(match hU ds with|some bs=>Q2 (.bl (bs.all id)) M|none=>False)|none=>False):=q
    cases e:aO M a with
    |none=>rw[e]at q;exact q.elim
    |some es=>
     rw[e]at q
     cases eb:hU es with
     |none=>simp only[eb]at q
     |some bs=>
      simp only[eb]at q
      obtain⟨ys,h,hy⟩:=cM e hm
      rw[vE eb]at hy
      exact⟨a,bs,rfl,cS.of (by rw[h,qQ hy]),k _ H _ M (aN.mpr rfl) hm (ai.refl H) q⟩
   |_=>exact q.elim⟩
theorem ip{M:Mem}{p:Addr}{ds:List D}:aO (aw M p (.lst ds)) p=some ds:=by unfold aO;rw[ar]
def mF:List D->Mem->bq->Prop:=λ ds M Q=>match hU ds with
 |some bs=>Q (.bl (bs.all id)) M
 |none=>False
theorem ug:iQ MN mF:=λ ds M p Q hp hz q=>by
 show(match aO (aw M p (.lst ds)) p with|some Ui=>(match hU Ui with|some bs=>fin2 Q (.bl (bs.all id)) (aw M p (.lst ds))|none=>False)|none=>False)
 rw[ip]
 unfold mF at q
 cases eb:hU ds with
 |none=>rw[eb]at q;exact q.elim
 |some bs=>
  rw[eb]at q
  simp only[eb]
  exact⟨M,(ja.refl M).put hp,q⟩
def jA(M:Mem):D->Option String
 | .a_=>some "NoneType"
 | .bl _=>some "bool"
 | .int _=>some "int"
 | .str _=>some "str"
 | .tup _=>some "tuple"
 | .fl _=>some "list"
 | .ref a=>(aO M a).map λ _=>"list"
 |_=>none
def nW(n T:String):Bool:=n==T||(n=="bool"&&T=="int")
structure eZ(K:PySem.W.Frag)(T:String):Prop where
 a_:PySem.W.kitOne K (.type "NoneType") (.type T)=some (nW "NoneType" T)
 bl:PySem.W.kitOne K (.type "bool") (.type T)=some (nW "bool" T)
 int:PySem.W.kitOne K (.type "int") (.type T)=some (nW "int" T)
 str:PySem.W.kitOne K (.type "str") (.type T)=some (nW "str" T)
 tup:PySem.W.kitOne K (.type "tuple") (.type T)=some (nW "tuple" T)
 lst:PySem.W.kitOne K (.type "list") (.type T)=some (nW "list" T)
end
end L3
namespace L3
open PySem PySem.Spec L2
section
variable {X:Cx}
theorem Bx:b_ X (.builtin "isinstance") (λ xs H Q=>∃(x:V) (T n:String),xs=[x,.ty T]/\eZ X.K T/\
  ((x=.a_/\n="NoneType")\/(∃b,x=.bl b/\n="bool")\/(∃i,x=.int i/\n="int")\/(∃z,x=.str z/\n="str")\/(∃p ys,x=.ref p/\ef X.K H p ys/\n="tuple")\/(∃p ys,x=.ref p/\cS X.K H p ys/\n="list"))/\Q (.bl (nW n T)) H):=by
 intro pins s σ H xs us Q I r h
 obtain⟨x,T,n,rfl,ok,hx,q⟩:=h
 obtain⟨u,w',rfl,rx,ry⟩:=vals2 r
 have e:w'=Value.type T:=ry
 subst e
 rcases hx with⟨rfl,rfl⟩|⟨b,rfl,rfl⟩|⟨i,rfl,rfl⟩|⟨z,rfl,rfl⟩|⟨p,ys,rfl,hq,rfl⟩|⟨p,ys,rfl,hq,rfl⟩
 ·exact fP I rx .a_ ok.a_ λ tk=>⟨.bl _,H,I.tok tk,rfl,q⟩
 ·exact fP I rx (.bl b) ok.bl λ tk=>⟨.bl _,H,I.tok tk,rfl,q⟩
 ·exact fP I rx (.int i) ok.int λ tk=>⟨.bl _,H,I.tok tk,rfl,q⟩
 ·exact fP I rx (.str z) ok.str λ tk=>⟨.bl _,H,I.tok tk,rfl,q⟩
 ·cases(show u=Value.ref p from rx)
  obtain⟨ah,_,⟨o,h1,h2,_⟩,_⟩:=I.tuple hq
  exact x6 PySem.W.kitx_tuple I.eQ ⟨o,h1,h2⟩ ok.tup (λ z=>nomatch z) λ tk=>⟨.bl _,H,I.tok tk,rfl,q⟩
 ·cases(show u=Value.ref p from rx)
  obtain⟨ah,_,pl,_⟩:=I.list hq
  obtain⟨o,h1,h2,_⟩:=pl.isList
  exact x6 PySem.W.kitx_list I.eQ ⟨o,h1,h2⟩ ok.lst (λ z=>nomatch z) λ tk=>⟨.bl _,H,I.tok tk,rfl,q⟩
def Gi(T:String):List D->Mem->bq->Prop:=λ xs M Q=>match xs with
 |[x,.ty U]=>U=T/\(match jA M x with
  |some n=>Q (.bl (nW n T)) M
  |none=>False)
 |_=>False
theorem eU{T:String}(ok:eZ X.K T):cK X (.builtin "isinstance") (Gi T):=⟨_,Bx,λ xs ds H M Q2 Q hd hm q k=>by
 cases ds with
 |nil=>exact q.elim
 |cons d r0=>
 cases r0 with
 |nil=>exact q.elim
 |cons d2 r1=>
 cases r1 with
 |cons _ _=>cases d2 <;> exact q.elim
 |nil=>
 cases d2 with
 |ty U=>
  obtain⟨x,r,rfl,hx,hr⟩:=af.mp hd
  obtain⟨y,r2,rfl,hy,qD⟩:=af.mp hr
  cases(ao.mp qD)
  cases(tI.mp hy)
  obtain⟨rfl,q⟩:=q
  cases e:jA M d with
  |none=>rw[e]at q;exact q.elim
  |some n=>
   rw[e]at q
   refine⟨x,U,n,rfl,ok,?_,k _ H _ M (aN.mpr rfl) hm (ai.refl H) q⟩
   cases d with
   |a_=>cases e;exact .inl ⟨cQ.mp hx,rfl⟩
   |bl b=>cases e;exact .inr (.inl ⟨b,aN.mp hx,rfl⟩)
   |int i=>cases e;exact .inr (.inr (.inl ⟨i,aq.mp hx,rfl⟩))
   |str z=>cases e;exact .inr (.inr (.inr (.inl ⟨z,aG.mp hx,rfl⟩)))
   |tup es=>
    cases e
    obtain⟨p,ys,rfl,h,_⟩:=aE.mp hx
    exact .inr (.inr (.inr (.inr (.inl ⟨p,ys,rfl,h,rfl⟩))))
   |fl es=>
    cases e
    obtain⟨p,ys,rfl,h,_⟩:=gj.mp hx
    exact .inr (.inr (.inr (.inr (.inr ⟨p,ys,rfl,h.sq,rfl⟩))))
   |ref a=>
    cases el:aO M a with
    |none=>
     have e:(aO M a).map (λ _=>"list")=some n:=e
     rw[el]at e;cases e
    |some es=>
     have e:(aO M a).map (λ _=>"list")=some n:=e
     rw[el]at e;cases e
     obtain⟨ys,h,_⟩:=cM el hm
     exact .inr (.inr (.inr (.inr (.inr ⟨a,ys,aA.mp hx,cS.of h,rfl⟩))))
   |ty n=>cases e
 |_=>exact q.elim⟩
def dS:List D->Option (List Str)
 |[]=>some []
 | .str z::r=>(dS r).map (z::·)
 |_::_=>none
theorem pF:∀{ds:List D} {zs:List Str},dS ds=some zs->ds=zs.map D.str
 |[],zs,e=>by cases e;rfl
 |d::r,zs,e=>by
  cases d with
  |str z=>
   unfold dS at e
   cases q:dS r with
   |none=>rw[q]at e;cases e
   |some ys=>
    rw[q]at e
    cases e
    rw[pF q]
    rfl
  |_=>cases e
theorem lP:∀(zs:List Str),dS (zs.map D.str)=some zs
 |[]=>rfl
 |b::bs=>by rw[z4];unfold dS;rw[lP bs];rfl
def kJ:D->List D->Mem->bq->Prop:=λ x ds M Q=>match x with
 | .str z=>match dS ds with
  |some ys=>(ys.map (·.length)).sum+ys.length*z.length<=16777216/\Q (.str (Txt.join z ys)) M
  |none=>False
 |_=>False
def Gh:D->List D->Mem->bq->Prop:=λ x vs M Q=>match vs with
 |[.ref a]=>match aO M a with
  |some ds=>kJ x ds M Q
  |none=>False
 |_=>False
theorem IF:JQ X "str.join" Gh:=⟨_,D5,λ x xs d ds H M Q2 Q hx hd hm q k=>by
 cases ds with
 |nil=>exact q.elim
 |cons d1 r0=>
 cases r0 with
 |cons _ _=>cases d1 <;> exact q.elim
 |nil=>
 cases d1 with
 |ref a=>
  obtain⟨y,r,rfl,hy,hr⟩:=af.mp hd
  cases(ao.mp hr)
  cases(aA.mp hy)
  have q:(match aO M a with|some ds=>kJ d ds M Q2|none=>False):=q
  cases e:aO M a with
  |none=>rw[e]at q;exact q.elim
  |some es=>
   rw[e]at q
   cases d with
   |str z=>
    have q:(match dS es with|some ys=>(ys.map (·.length)).sum+ys.length*z.length<=16777216/\Q2 (.str (Txt.join z ys)) M|none=>False):=q
    cases Ga:dS es with
    |none=>rw[Ga]at q;exact q.elim
    |some ys=>
     rw[Ga]at q
     obtain⟨vs,h,hv⟩:=cM e hm
     rw[pF Ga]at hv
     exact⟨z,a,ys,aG.mp hx,rfl,cS.of (by rw[h,mD hv]),q.1,k _ H _ M (aG.mpr rfl) hm (ai.refl H) q.2⟩
   |_=>exact q.elim
 |_=>exact q.elim⟩
theorem yd:tX Gh kJ:=λ d ds M p Q hp hz q=>by
 show(match aO (aw M p (.lst ds)) p with|some es=>kJ d es (aw M p (.lst ds)) (fin2 Q)|none=>False)
 rw[ip]
 cases d with
 |str z=>
  have q:(match dS ds with|some ys=>(ys.map (·.length)).sum+ys.length*z.length<=16777216/\Q (.str (Txt.join z ys)) M|none=>False):=q
  show(match dS ds with|some ys=>(ys.map (·.length)).sum+ys.length*z.length<=16777216/\fin2 Q (.str (Txt.join z ys)) (aw M p (.lst ds))|none=>False)
  cases e:dS ds with
  |none=>rw[e]at q;exact q.elim
  |some ys=>rw[e]at q;exact⟨q.1,M,(ja.refl M).put hp,q.2⟩
 |_=>exact q.elim
def EZ:hV:=λ o i v M N=>match o,i with
 | .ref a,.int k=>match aO M a with
  |some ds=>(match uZ ds.length k with
   |some j=>N (aw M a (.lst (ds.set j v)))
   |none=>False)
  |none=>False
 |_,_=>False
theorem jL:BE X EZ:=⟨_,set_list,λ o i v d j e H M Q2 Q hd hj he hm q k=>by
 cases d with
 |ref a=>
  cases j with
  |int n=>
   cases(aA.mp hd);cases(aq.mp hj)
   have q:(match aO M a with|some ds=>(match uZ ds.length n with|some j=>Q2 (aw M a (.lst (ds.set j e)))|none=>False)|none=>False):=q
   cases el:aO M a with
   |none=>rw[el]at q;exact q.elim
   |some ds=>
    rw[el]at q
    cases ei:uZ ds.length n with
    |none=>simp only[ei]at q
    |some m=>
     simp only[ei]at q
     obtain⟨xs,h,hx⟩:=cM el hm
     refine⟨a,xs,n,m,rfl,rfl,h,by rw[hx.length];exact ei,?_⟩
     exact k _ _ (hm.put (u:=.lst (ds.set m e)) (ai.lst h) ⟨_,aI,az.mono (ai.lst h) _ (hx.set he m)⟩) (ai.lst h) q
  |_=>exact q.elim
 |_=>exact q.elim⟩
end
end L3
namespace L3
open PySem L2
section
variable {δ:cD}{M M1:Mem}{Q:bq}{ta tb tc:bV}{r r':eX}{E:cJ}{t u:fS}{c c':dh}{QB:Bool->Mem->Prop}{tl:eW}{QL:List D->Mem->Prop}
theorem G'(h:t {E with nx:=u E} δ M):yA t u E δ M:=h
theorem Hl(h:c δ M λ b M1=>if b=true then t E δ M1 else u E δ M1):Co c t u E δ M:=h
theorem CA(h:E.nx δ M):ur E δ M:=h
theorem Ha(h:ta δ M E.rt):GV ta E δ M:=h
theorem Hs{g:eV}(h:ta δ M λ d M1=>g d δ M1 E.nx):la ta g E δ M:=h
theorem CT(h:ta δ M λ _ M1=>E.nx δ M1):yE ta E δ M:=h
theorem uA{i:Nat}{d:D}{N:cD->Mem->Prop}(h:N (δ.set i (some d)) M):hName i d δ M N:=h
theorem G9{d:D}{N:cD->Mem->Prop}{s:hV}(h:ta δ M λ o M1=>tb δ M1 λ j M2=>s o j d M2 λ M3=>N δ M3):hSub ta tb s d δ M N:=h
theorem G_{a:Addr}{k:Int}{v:D}{ds:List D}{j:Nat}{N:Mem->Prop}(h:M a=some (.lst ds))(e:uZ ds.length k=some j)(q:N (aw M a (.lst (ds.set j v)))):EZ (.ref a) (.int k) v M N:=by
 show(match aO M a with|some ds=>(match uZ ds.length k with|some j=>N (aw M a (.lst (ds.set j v)))|none=>False)|none=>False)
 have e1:aO M a=some ds:=by unfold aO;rw[h]
 rw[e1]
 simp only[e]
 exact q
theorem Ct(h:ta δ M λ d M1=>match d with| .bl k=>QB k M1|_=>False):lW ta δ M QB:=h
theorem KW(h:ta δ M λ d M1=>tb δ M1 λ e M2=>r d e M2 Q):we r ta tb δ M Q:=h
theorem KQ{s:D->Mem->bq->Prop}(h:ta δ M λ d M1=>s d M1 Q):Ou s ta δ M Q:=h
theorem G6{i:Nat}{d:D}(e:δ[i]?=some (some d))(h:Q d M):ib i δ M Q:=by unfold ib;rw[e];exact h
theorem OB{d:D}(h:Q d M):sC d δ M Q:=h
theorem Ht(h:c δ M λ b M1=>if b=true then c' δ M1 QB else QB false M1):GY c c' δ M QB:=h
theorem KU(h:c δ M λ b M1=>if b=true then QB true M1 else c' δ M1 QB):Ow c c' δ M QB:=h
theorem Hb(h:c δ M λ b M1=>QB (!b) M1):GW c δ M QB:=h
theorem C1(h:ta δ M λ d M1=>match d with| .bl c=>(if c=true then tb δ M1 Q else Q (.bl false) M1)|_=>False):yF ta tb δ M Q:=h
theorem Hc(h:QL [] M):Cn δ M QL:=h
theorem CV(h:ta δ M λ d M1=>tl δ M1 λ ds M2=>QL (d::ds) M2):uv ta tl δ M QL:=h
theorem G7(h:tl δ M λ ds M1=>ds.length<=sizeLine/\Q (.tup ds) M1):GU tl δ M Q:=h
theorem Hh(h:tl δ M λ ds M1=>ds.length<=sizeLine/\∀p,M1 p=none->Q (.ref p) (aw M1 p (.lst ds))):GX tl δ M Q:=h
theorem KZ{s:List D->Mem->bq->Prop}(h:tl δ M λ ds M1=>s ds M1 Q):JX s tl δ M Q:=h
theorem OA{sp:fU}(h:tl δ M λ ds M1=>sp ds M1 Q):sD sp tl δ M Q:=h
theorem KS{s:D->Option Int->Option Int->Mem->bq->Prop}{l h':Fo}(h:ta δ M λ d M1=>l δ M1 λ i M2=>h' δ M2 λ j M3=>s d i j M3 Q):Ov s ta l h' δ M Q:=h
theorem wo{QO:Option Int->Mem->Prop}(h:QO none M):nA δ M QO:=h
theorem Cz{QO:Option Int->Mem->Prop}(h:ta δ M λ d M1=>match d with| .int i=>QO (some i) M1|_=>False):yB ta δ M QO:=h
theorem K0{T:String}{s:D->List D->Mem->bq->Prop}(h:ta δ M λ d M1=>JU T d M1/\tl δ M1 λ ds M2=>s d ds M2 Q):Ox T s ta tl δ M Q:=h
theorem ic(W:cD->Mem->Prop)(h1:∀N:cD->Mem->Prop,(∀δ' M',W δ' M'->N δ' M')->t {E with nx:=N} δ M)(h2:∀δ' M',W δ' M'->u E δ' M'):yA t u E δ M:=h1 (u E) h2
set_option tactic.hygienic true in
theorem lM{M:Mem}{a:Addr}{o:MO}(h:M a=some o):aw M a o=M:=by
 funext b
 unfold aw
 split
 ·rename_i e;rw[e,h]
 ·rfl
theorem dy{a:Addr}{i:Int}{ds:List D}{d:D}(h:M a=some (.lst ds))(e:e_ ds i=some d)(q:Q d M):Jy (.ref a) (.int i) M Q:=by
 show(match aO M a with|some ds=>(match e_ ds i with|some d=>Q d M|none=>False)|none=>False)
 have e1:aO M a=some ds:=by unfold aO;rw[h]
 rw[e1]
 simp only[e]
 exact q
theorem dw{i:Int}{ds:List D}{d:D}(e:e_ ds i=some d)(q:Q d M):Jy (.tup ds) (.int i) M Q:=by
 show(match e_ ds i with|some d=>Q d M|none=>False)
 rw[e]
 exact q
theorem sx{i:Int}{z:Str}{x:Nat}(hz:z.length<=sizeLine)(e:e_ z.cps.toList i=some x)(q:Q (.str ⟨#[x]⟩) M):Jy (.str z) (.int i) M Q:=by
 refine⟨hz,?_⟩
 show(match e_ z.cps.toList i with|some c=>Q (.str ⟨#[c]⟩) M|none=>False)
 rw[e]
 exact q
theorem Oz{C:Int->Int->Prop}{g:Int->Int->D}{i j:Int}(h:C i j)(q:Q (g i j) M):dI C g (.int i) (.int j) M Q:=⟨h,q⟩
theorem Hf{g:Int->Int->D}{i j:Int}(h:0 < j)(q:Q (g i j) M):dI (λ _ j=>0 < j) g (.int i) (.int j) M Q:=⟨h,q⟩
theorem Hr{g:Int->Int->D}{i j:Int}(h:0 < j)(h2:j < 1073741824)(q:Q (g i j) M):dI JS g (.int i) (.int j) M Q:=⟨⟨h,h2⟩,q⟩
theorem Bt{i j:Int}(h0: -1000000000000<=i)(h1:i<=1000000000000):pb i j:=.inl ⟨Int.lt_of_lt_of_le (by decide) h0,Int.lt_of_le_of_lt h1 (by decide)⟩
theorem Bs{i j:Int}(h0: -1000000000000<=j)(h1:j<=1000000000000):pb i j:=.inr ⟨Int.lt_of_lt_of_le (by decide) h0,Int.lt_of_le_of_lt h1 (by decide)⟩
theorem KY{g:Int->Int->D}{i j:Int}(q:Q (g i j) M):Gj g (.int i) (.int j) M Q:=q
theorem C3{a b:Addr}{xs ys:List D}(ha:M a=some (.lst xs))(hb:M b=some (.lst ys))(h:xs.length+ys.length<=sizeLine)(q:∀p,M p=none->Q (.ref p) (aw M p (.lst (xs++ys)))):E4 (.ref a) (.ref b) M Q:=by
 show(match M a,M b with|some (.lst xs),some (.lst ys)=>xs.length+ys.length<=sizeLine/\∀p,M p=none->Q (.ref p) (aw M p (.lst (xs++ys)))|_,_=>False)
 rw[ha,hb]
 exact⟨h,q⟩
theorem CG{i j:Int}(h:pb i j)(q:Q (.int (i*j)) M):E1 (.int i) (.int j) M Q:=⟨h,q⟩
theorem CF{i:Str}{j:Int}(h:MulOk i j)(q:Q (.str (Txt.mul i j)) M):E1 (.str i) (.int j) M Q:=⟨h,q⟩
theorem Ho{i j:Int}(q:Q (.bl (decide (i=j))) M):JB false (.int i) (.int j) M Q:=by
 show Q (.bl (xor false (decide (i=j)))) M
 simpa using q
theorem Hq{i j:Bool}(q:Q (.bl (decide (i=j))) M):JB false (.bl i) (.bl j) M Q:=by
 show Q (.bl (xor false (decide (i=j)))) M
 simpa using q
theorem Hn{i j:Str}(q:Q (.bl (decide (i=j))) M):JB false (.str i) (.str j) M Q:=by
 show Q (.bl (xor false (decide (i=j)))) M
 simpa using q
theorem He{i j:Bool}(q:Q (.bl (!decide (i=j))) M):JB true (.bl i) (.bl j) M Q:=by
 show Q (.bl (xor true (decide (i=j)))) M
 simpa using q
theorem CJ{a:Addr}{ds:List D}(h:M a=some (.lst ds))(q:Q (.int ds.length) M):xq [.ref a] M Q:=by
 show(match aO M a with|some ds=>Q (.int ds.length) M|none=>False)
 have e1:aO M a=some ds:=by unfold aO;rw[h]
 rw[e1]
 exact q
theorem CI{ds:List D}(q:Q (.int ds.length) M):xq [.tup ds] M Q:=q
theorem Hi{x:D}{ds:List D}{b:Bool}(e:inD x ds=some b)(q:Q (.bl b) M):NW x (.tup ds) M Q:=by
 show(match inD x ds with|some b=>Q (.bl b) M|none=>False)
 rw[e]
 exact q
theorem Hj{x:D}{a:Addr}{ds:List D}{b:Bool}(h:M a=some (.lst ds))(e:inD x ds=some b)(q:Q (.bl b) M):NW x (.ref a) M Q:=by
 show(match M a with|some (.lst ds)=>(match inD x ds with|some b=>Q (.bl b) M|none=>False)|_=>False)
 rw[h]
 simp only[e]
 exact q
theorem yO{ds:List D}(q:∀p,M p=none->Q (.ref p) (aw M p (.lst ds))):dList [.fl ds] M Q:=q
theorem Hd{i:Int}(q:Q (.int (-i)) M):MG (.int i) M Q:=q
theorem bB{P:Prop}{inst:Decidable P}{A B:Prop}(h1:P->A)(h2:¬P->B):if @decide P inst=true then A else B:=by
 by_cases h:P
 ·rw[y2 h,B3 rfl];exact h1 h
 ·rw[v8 h,B4 l8];exact h2 h
theorem jd{P:Prop}{inst:Decidable P}{A B:Prop}(h1:¬P->A)(h2:P->B):if(!@decide P inst)=true then A else B:=by
 by_cases h:P
 ·rw[y2 h,Bool.not_true,B4 l8];exact h2 h
 ·rw[v8 h,Bool.not_false,B3 rfl];exact h1 h
theorem CK{A B:Prop}(h:A):if true=true then A else B:=by rw[B3 rfl];exact h
theorem CL{A B:Prop}(h:B):if false=true then A else B:=by rw[B4 l8];exact h
theorem uC{b:Bool}{A B:Prop}(h1:b=true->A)(h2:b=false->B):if b=true then A else B:=by
 cases b with
 |true=>rw[B3 rfl];exact h1 rfl
 |false=>rw[B4 l8];exact h2 rfl
end
end L3
namespace L3
open PySem L2
section
variable {g:eV}{tt:dh}{te:bV}{tb:fS}{δ δc:cD}{M1:Mem}{Qe:List D->Mem->Prop}{E:cJ}
theorem fF{ds:List D}(Pv:Nat->List D->Mem->Prop)(h0:Pv 0 [] M1)(hz:∀i acc M,i<=ds.length->Pv i acc M->acc.length<=sizeLine)
  (hs:∀i d acc M,ds[i]?=some d->Pv i acc M->g d δc M λ δ2 M2=>tt δ2 M2 λ b M3=>if b=true then te δ2 M3 λ y M4=>Pv (i+1) (acc++[y]) M4 else Pv (i+1) acc M3)
  (hd:∀acc M,Pv ds.length acc M->Qe acc M):
  ∃(B:Nat) (W:Nat->List D->Mem->Prop),W 0 [] M1/\∀i acc M,W i acc M->i<=B/\acc.length<=sizeLine/\match items (.fix ds) M with
   |none=>False
   |some ds=>match ds[i]? with
    |none=>i=ds.length/\Qe acc M
    |some d=>g d δc M λ δ2 M2=>tt δ2 M2 λ b M3=>if b=true then te δ2 M3 λ y M4=>W (i+1) (acc++[y]) M4 else W (i+1) acc M3:=by
 refine⟨ds.length,λ i acc M=>if i<=ds.length then Pv i acc M else False,by dsimp only;rw[B3 (A4 _)];exact h0,?_⟩
 intro i acc M w
 by_cases hi:i<=ds.length
 ·rw[B3 hi]at w
  refine⟨hi,hz i acc M hi w,?_⟩
  show(match ds[i]? with
    |none=>i=ds.length/\Qe acc M
    |some d=>g d δc M λ δ2 M2=>tt δ2 M2 λ b M3=>if b=true then te δ2 M3 λ y M4=>(if i+1<=ds.length then Pv (i+1) (acc++[y]) M4 else False)else(if i+1<=ds.length then Pv (i+1) acc M3 else False))
  cases e:ds[i]? with
  |none=>
   have:i=ds.length:=y1 hi (i0.mp e)
   subst this
   exact⟨rfl,hd acc M w⟩
  |some d=>
   have fX:i+1<=ds.length:=(g9.mp e).1
   simp only[B3 fX]
   exact hs i d acc M e w
 ·rw[B4 hi]at w
  exact w.elim
theorem dO{ds:List D}(Pv:Nat->cD->Mem->Prop)(h0:Pv 0 δ M1)
  (hs:∀i d δ M,ds[i]?=some d->Pv i δ M->g d δ M λ δ2 M2=>tb {E with nx:=Pv (i+1),ct:=Pv (i+1),bk:=E.nx} δ2 M2)
  (hd:∀δ M,Pv ds.length δ M->E.nx δ M):
  ∃(B:Nat) (W:Nat->cD->Mem->Prop),W 0 δ M1/\∀i δ M,W i δ M->i<=B/\match items (.fix ds) M with
   |none=>False
   |some ds=>match ds[i]? with
    |none=>i=ds.length/\E.nx δ M
    |some d=>g d δ M λ δ2 M2=>tb {E with nx:=W (i+1),ct:=W (i+1),bk:=E.nx} δ2 M2:=by
 refine⟨ds.length,λ i δ M=>if i<=ds.length then Pv i δ M else False,by dsimp only;rw[B3 (A4 _)];exact h0,?_⟩
 intro i δ M w
 by_cases hi:i<=ds.length
 ·rw[B3 hi]at w
  refine⟨hi,?_⟩
  show(match ds[i]? with
    |none=>i=ds.length/\E.nx δ M
    |some d=>g d δ M λ δ2 M2=>tb {E with nx:=(λ δ M=>if i+1<=ds.length then Pv (i+1) δ M else False),ct:=(λ δ M=>if i+1<=ds.length then Pv (i+1) δ M else False),bk:=E.nx} δ2 M2)
  cases e:ds[i]? with
  |none=>
   have:i=ds.length:=y1 hi (i0.mp e)
   subst this
   exact⟨rfl,hd δ M w⟩
  |some d=>
   have fX:i+1<=ds.length:=(g9.mp e).1
   simp only[B3 fX]
   exact hs i d δ M e w
 ·rw[B4 hi]at w
  exact w.elim
theorem My{a:Addr}{ds:List D}(Pv:Nat->cD->Mem->Prop)(h0:Pv 0 δ M1)(hl:∀i δ M,i<=ds.length->Pv i δ M->M a=some (.lst ds))
  (hs:∀i d δ M,ds[i]?=some d->Pv i δ M->g d δ M λ δ2 M2=>tb {E with nx:=Pv (i+1),ct:=Pv (i+1),bk:=E.nx} δ2 M2)
  (hd:∀δ M,Pv ds.length δ M->E.nx δ M):
  ∃(B:Nat) (W:Nat->cD->Mem->Prop),W 0 δ M1/\∀i δ M,W i δ M->i<=B/\match items (.at a) M with
   |none=>False
   |some ds=>match ds[i]? with
    |none=>i=ds.length/\E.nx δ M
    |some d=>g d δ M λ δ2 M2=>tb {E with nx:=W (i+1),ct:=W (i+1),bk:=E.nx} δ2 M2:=by
 refine⟨ds.length,λ i δ M=>if i<=ds.length then Pv i δ M else False,by dsimp only;rw[B3 (A4 _)];exact h0,?_⟩
 intro i δ M w
 by_cases hi:i<=ds.length
 ·rw[B3 hi]at w
  refine⟨hi,?_⟩
  have e0:items (.at a) M=some ds:=by
   show(match M a with|some (.lst ds)=>some ds|_=>none)=some ds
   rw[hl i δ M hi w]
  rw[e0]
  show(match ds[i]? with
    |none=>i=ds.length/\E.nx δ M
    |some d=>g d δ M λ δ2 M2=>tb {E with nx:=(λ δ M=>if i+1<=ds.length then Pv (i+1) δ M else False),ct:=(λ δ M=>if i+1<=ds.length then Pv (i+1) δ M else False),bk:=E.nx} δ2 M2)
  cases e:ds[i]? with
  |none=>
   have:i=ds.length:=y1 hi (i0.mp e)
   subst this
   exact⟨rfl,hd δ M w⟩
  |some d=>
   have fX:i+1<=ds.length:=(g9.mp e).1
   simp only[B3 fX]
   exact hs i d δ M e w
 ·rw[B4 hi]at w
  exact w.elim
end
section
variable {δ:cD}{M:Mem}{Q:bq}{wi:i'}{g:eV}{tt:dh}{te:bV}{n:Nat}{fr:List Nat}{ta:bV}{E:cJ}{tb:fS}{tl:eW}{R:Src->Mem->Prop}
theorem G8{r3:List D->Mem->bq->Prop}(h:wi δ M λ src M1=>∃(B:Nat) (W:Nat->List D->Mem->Prop),W 0 [] M1/\∀i acc M,W i acc M->i<=B/\acc.length<=sizeLine/\match items src M with
   |none=>False
   |some ds=>match ds[i]? with
    |none=>i=ds.length/\r3 acc M Q
    |some d=>g d (gn n fr δ) M λ δ2 M2=>tt δ2 M2 λ b M3=>if b=true then te δ2 M3 λ y M4=>W (i+1) (acc++[y]) M4 else W (i+1) acc M3):wd r3 wi g tt te n fr δ M Q:=h
theorem Cs{T:String}{r3:D->List D->Mem->bq->Prop}(h:ta δ M λ d M1=>JU T d M1/\eG wi g tt te n fr δ M1 λ ds M'=>r3 d ds M' Q):yz T r3 ta wi g tt te n fr δ M Q:=h
theorem yU{Qe:List D->Mem->Prop}(h:wi δ M λ src M1=>∃(B:Nat) (W:Nat->List D->Mem->Prop),W 0 [] M1/\∀i acc M,W i acc M->i<=B/\acc.length<=sizeLine/\match items src M with
   |none=>False
   |some ds=>match ds[i]? with
    |none=>i=ds.length/\Qe acc M
    |some d=>g d (gn n fr δ) M λ δ2 M2=>tt δ2 M2 λ b M3=>if b=true then te δ2 M3 λ y M4=>W (i+1) (acc++[y]) M4 else W (i+1) acc M3):eG wi g tt te n fr δ M Qe:=h
theorem CW(h:eG wi g tt te n fr δ M λ ds M'=>∀p,M' p=none->Q (.ref p) (aw M' p (.lst ds))):pR wi g tt te n fr δ M Q:=h
theorem Hm(h:wi δ M λ src M1=>∃(B:Nat) (W:Nat->cD->Mem->Prop),W 0 δ M1/\∀i δ M,W i δ M->i<=B/\match items src M with
   |none=>False
   |some ds=>match ds[i]? with
    |none=>i=ds.length/\E.nx δ M
    |some d=>g d δ M λ δ2 M2=>tb {E with nx:=W (i+1),ct:=W (i+1),bk:=E.nx} δ2 M2):yD wi g tb E δ M:=h
theorem Cy(h:tl δ M λ ds M1=>match ds with|[.int j]=>QM j/\R (.fix (eI 0 j.toNat)) M1|_=>False):Ae tl δ M R:=h
theorem G5{QB:Bool->Mem->Prop}(h:QB true M):pQ δ M QB:=h
theorem rB{α:Type}{xs:List α}{d:Int}(h0:0<=d)(h1:d < xs.length):∃c,e_ xs d=some c:=by
 have hl:d.toNat < xs.length:=by omega
 have e:((d.toNat:Nat):Int)=d:=by omega
 have q:e_ xs ((d.toNat:Nat):Int)=some xs[d.toNat]:=bC (by simp[hl])
 rw[e]at q
 exact⟨_,q⟩
end
end L3
namespace L3
open PySem L2
def strsOf:List Expr->Option (List Str)
 |[]=>some []
 | .Constant (.str x) _ _::r=>(strsOf r).map (x::·)
 |_::_=>none
def uq(zs:List Str):eW:=λ _ M Q=>Q (zs.map D.str) M
theorem Cu{zs:List Str}{δ:cD}{M:Mem}{Q:List D->Mem->Prop}(h:Q (zs.map D.str) M):uq zs δ M Q:=h
theorem uE{X:Cx}:∀{es:List Expr} {zs:List Str},strsOf es=some zs->QA X es (uq zs)
 |[],zs,h=>by cases h;exact zd
 |e::es,zs,h=>by
  cases e with
  |Constant c j pos=>
   cases c with
   |str x=>
    unfold strsOf at h
    cases q:strsOf es with
    |none=>rw[q]at h;cases h
    |some ys=>
     rw[q]at h
     cases h
     exact zC (uF (ta:=sC (.str x)) (t:=uq ys) FC (uE q)) λ σ H Q h=>h
   |_=>exact absurd h (by unfold strsOf;intro z;cases z)
  |_=>exact absurd h (by unfold strsOf;intro z;cases z)
end L3
namespace L4
open PySem PySem.Spec L2 L3
structure WE(X:Cx)(e:Expr)(t:bV):Prop where
 h:QE X e t
structure WT(X:Cx)(e:Expr)(t:dh):Prop where
 h:QT X e t
structure WW(X:Cx)(e:Expr)(t:dh):Prop where
 h:QW X e t
structure WA(X:Cx)(e:List Expr)(t:eW):Prop where
 h:QA X e t
structure WS(X:Cx)(e:Stmt)(t:fS):Prop where
 h:QS X e t
structure BV(X:Cx)(e:List Stmt)(t:fS):Prop where
 h:BF X e t
structure WO(X:Cx)(e:Option Expr)(t:Fo):Prop where
 h:QO X e t
structure WG(X:Cx)(e:Expr)(t:eV):Prop where
 h:QG X e t
structure NY(X:Cx)(e:List Expr)(t:kM):Prop where
 h:MX X e t
structure Qu(X:Cx)(e:List Expr)(t:dh):Prop where
 h:N4 X e t
structure WI(X:Cx)(tg e:Expr)(t:i'):Prop where
 h:QI X tg e t
theorem WW.pt {X:Cx}{e:Expr}{t:dh}(w:WW X e t):WT X e t:=⟨w.h.pt⟩
structure JK(X:Cx)(scope:Scope)(tgs:List Str)(fr:List Nat)(tg:Expr)(g:eV):Prop where
 h:N0 X scope tgs fr tg g
structure dG(X:Cx)(scope:Scope)(tgs:List Str)(fr:List Nat)(tg iter:Expr)(ifs:List Expr)(elt:Expr)(wi:i')(g:eV)(tt:dh)(te:bV):Prop where
 b:hX X scope fr
 calm:X.calm=true
 xe:∀e s,X.xe e s->False
 it:WI X tg iter wi
 RU:JK X scope tgs fr tg g
 ifs:∀cl C fp s H,Qu (bg X scope cl tgs fr C fp s H) ifs tt
 elt:∀cl C fp s H,WE (bg X scope cl tgs fr C fp s H) elt te
theorem dG.h {X:Cx}{scope:Scope}{tgs:List Str}{fr:List Nat}{tg iter:Expr}{ifs:List Expr}{elt:Expr}{wi:i'}{g:eV}{tt:dh}{te:bV}(C:dG X scope tgs fr tg iter ifs elt wi g tt te):gw X scope tgs fr tg iter ifs elt wi g tt te:=
 ⟨C.b,C.calm,C.xe,C.it.h,C.RU.h,λ cl D fp s H=>(C.ifs cl D fp s H).h,λ cl D fp s H=>(C.elt cl D fp s H).h⟩
section
variable {X:Cx}{a b c e:Expr}{ta tb tc:bV}{pos:Pos}
theorem ax(i:Nat){x:Str}(hN:X.N[i]?=some x:=by rfl)(hv:MT X.env.scope x:=by first|exact Or.inl rfl|exact Or.inr (Or.inl rfl)|exact Or.inr (Or.inr rfl))(hd:(x==("__debug__":Str))=false:=by decide)(hcd:(x==("__classdict__":Str))=false:=by decide):WE X (.Name x pos) (ib i):=⟨Sa (i:=i) (hN:=hN) (hv:=hv) (hd:=hd) (hcd:=hcd)⟩
theorem au{i j}:WE X (.Constant (.int i) j pos) (sC (.int i)):=⟨Lf⟩
theorem rS{i j}:WE X (.Constant (.bool i) j pos) (sC (.bl i)):=⟨OL⟩
theorem iA{i j}:WE X (.Constant (.str i) j pos) (sC (.str i)):=⟨FC⟩
theorem ju{j}:WE X (.Constant .none j pos) (sC .a_):=⟨Ld⟩
theorem iS{x:Str}{n:String}(hg:Gl X x)(hm:X.mg x=none)(hv:bootBuiltins x=some (.type n))(hn:x≠"__name__":=by decide)(hd:(x==("__debug__":Str))=false:=by decide):WE X (.Name x pos) (sC (.ty n)):=⟨OH (hg:=hg) (hm:=hm) (hv:=hv) (hn:=hn) (hd:=hd)⟩
theorem bI{op:Operator}{r2:eX}(o:eY X (binaryOp op) r2)(ha:WE X a ta)(hb:WE X b tb):WE X (.BinOp a op b pos) (we r2 ta tb):=⟨OI (o:=o) (ha:=ha.h) (hb:=hb.h)⟩
theorem Kp{op:UnaryOp}{r2:D->Mem->bq->Prop}(o:Qv X (unaryOp op) r2)(ha:WE X a ta):WE X (.UnaryOp op a pos) (Ou r2 ta):=⟨OG (o:=o) (ha:=ha.h)⟩
theorem lI{op:CmpOp}{r2:eX}(o:eY X (compareOp op) r2)(ha:WE X a ta)(hb:WE X b tb)(hm:behindInMarks op b=false):WE X (.Compare a [op] [b] pos) (we r2 ta tb):=⟨Lh (o:=o) (ha:=ha.h) (hb:=hb.h) (hm:=hm)⟩
theorem bj{op:CmpOp}{r2:eX}(o:eY X (compareOp op) r2)(ha:WE X a ta)(hb:WE X b tb)(hm:behindInMarks op b=false):WT X (.Compare a [op] [b] pos) (lW (we r2 ta tb)):=⟨Hz (o:=o) (ha:=ha.h) (hb:=hb.h) (hm:=hm)⟩
theorem h_(h:WE X e ta)(he:∀whole,isTrue e X.env whole=(do let v <- whole;standAt e.pos;holding [v] (truthy v)):=by intro _;rfl):WT X e (lW ta):=⟨Hx (h:=h.h) (he:=he)⟩
variable {tA tB:dh}{rest:List Expr}
theorem mR(ha:WT X a tA):WW X (.BoolOp .And [a] pos) tA:=⟨C6 (ha:=ha.h)⟩
theorem rP(ha:WT X a tA):WW X (.BoolOp .Or [a] pos) tA:=⟨Hv (ha:=ha.h)⟩
theorem rQ(ha:WT X a tA)(hb:WW X (.BoolOp .And (b::rest) pos) tB):WW X (.BoolOp .And (a::b::rest) pos) (GY tA tB):=⟨Hw (ha:=ha.h) (hb:=hb.h)⟩
theorem xZ(ha:WT X a tA)(hb:WW X (.BoolOp .Or (b::rest) pos) tB):WW X (.BoolOp .Or (a::b::rest) pos) (Ow tA tB):=⟨K' (ha:=ha.h) (hb:=hb.h)⟩
theorem x_(ha:WT X a tA):WT X (.UnaryOp .Not a pos) (GW tA):=⟨Hy (ha:=ha.h)⟩
theorem uc{op}(h:WE X a ta):WE X (.BoolOp op [a] pos) ta:=⟨Lc (h:=h.h)⟩
theorem w_and(ha:WE X a ta)(hb:WE X (.BoolOp .And (b::rest) pos) tb):WE X (.BoolOp .And (a::b::rest) pos) (yF ta tb):=⟨Li (ha:=ha.h) (hb:=hb.h)⟩
variable {es:List Expr}{t:eW}
theorem ae:WA X [] Cn:=⟨zd⟩
theorem aa(ha:WE X e ta)(hr:WA X es t)(hs:starEach (e::es) X.env=(false,eval e X.env)::starEach es X.env:=by rfl):WA X (e::es) (uv ta t):=⟨uF (ha:=ha.h) (hr:=hr.h) (hs:=hs)⟩
theorem iz{x1}(h:WA X es t):WE X (.Tuple es x1 pos) (GU t):=⟨Lb (h:=h.h)⟩
theorem fj(h:WA X es t):WE X (.List es pos) (GX t):=⟨Le (h:=h.h)⟩
theorem bE{r2:eX}(o:M9 X r2)(ha:WE X a ta)(hb:WE X b tb)(hs:oW b):WE X (.Subscript a b pos) (we r2 ta tb):=⟨OJ (o:=o) (ha:=ha.h) (hb:=hb.h) (hs:=hs)⟩
theorem mT:WO X none nA:=⟨De⟩
theorem mS(h:WE X e ta):WO X (some e) (yB ta):=⟨Dc (h:=h.h)⟩
variable {lo hi:Option Expr}{tl th:Fo}{p2:Pos}
theorem mX{r2:D->Option Int->Option Int->Mem->bq->Prop}(o:MW X r2)(he:WE X e ta)(hl:WO X lo tl)(hu:WO X hi th):WE X (.Subscript e (.Slice lo hi none p2) pos) (Ov r2 ta tl th):=⟨Dk (o:=o) (he:=he.h) (hl:=hl.h) (hu:=hu.h)⟩
variable {x:Str}{p:Pos}{id T:String}
theorem aR{r2:List D->Mem->bq->Prop}(o:cK X (.builtin id) r2)(hg:Gl X x)(hm:X.mg x=none)(hv:bootBuiltins x=some (.builtin id))(ha:WA X (e::es) t)(hn:x≠"__name__":=by decide)(hdb:(x==("__debug__":Str))=false:=by decide)(he:starEach (e::es) X.env=(false,eval e X.env)::starEach es X.env:=by rfl)(hpl:(backTo pos (starEach es X.env)).any (·.1)=false:=by rfl):WE X (.Call (.Name x p) (e::es) [] pos) (JX r2 t):=⟨Dm (o:=o) (hg:=hg) (hm:=hm) (hv:=hv) (ha:=ha.h) (hn:=hn) (hdb:=hdb) (he:=he) (hpl:=hpl)⟩
theorem mZ{r2:List D->Mem->bq->Prop}(o:cK X (.type T) r2)(hg:Gl X x)(hm:X.mg x=none)(hv:bootBuiltins x=some (.type T))(ha:WA X (e::es) t)(hn:x≠"__name__":=by decide)(hdb:(x==("__debug__":Str))=false:=by decide)(he:starEach (e::es) X.env=(false,eval e X.env)::starEach es X.env:=by rfl)(hpl:(backTo pos (starEach es X.env)).any (·.1)=false:=by rfl):WE X (.Call (.Name x p) (e::es) [] pos) (JX r2 t):=⟨Dl (o:=o) (hg:=hg) (hm:=hm) (hv:=hv) (ha:=ha.h) (hn:=hn) (hdb:=hdb) (he:=he) (hpl:=hpl)⟩
end
section
variable {X:Cx}{o e:Expr}{es:List Expr}{to:bV}{t:eW}{T id:String}{name:Str}{apos aZ:Pos}
theorem yb{r2:D->List D->Mem->bq->Prop}(pa:PlainAttrs T)(slot:Slot T name id)(hty:typeOf (.builtin id)=pure (.type "method_descriptor"))(hm:JQ X id r2)(ho:WE X o to)(ha:WA X (e::es) t)(hbase:attributeBase o name X.env (eval o X.env)=eval o X.env:=by rfl)(hfew:((backTo aZ (starEach (e::es) X.env)).all (λ x=>!x.1)&&(backToKw aZ (keywordEach [] X.env)).all (λ x=>x.1.isSome)
   &&decide ((e::es).length+([]:List Keyword).length+(if([]:List Keyword).isEmpty then 0 else 1) < 30))=true:=by rfl) (hline:(apos.endLine==aZ.line)=true:=by rfl) (hs:starEach (e::es) X.env=(false,eval e X.env)::starEach es X.env:=by rfl) (hplain:(backTo aZ (starEach es X.env)).any (·.1)=false:=by rfl):WE X (.Call (.Attribute o name apos) (e::es) [] aZ) (Ox T r2 to t):=⟨OK (pa:=pa) (slot:=slot) (hty:=hty) (hm:=hm) (ho:=ho.h) (ha:=ha.h) (hbase:=hbase) (hfew:=hfew) (hline:=hline) (hs:=hs) (hplain:=hplain)⟩
end
section
variable {X:Cx}{x:Str}{p pos:Pos}{e:Expr}{es:List Expr}{t:eW}{k j:Nat}{ps:List Str}{sp:fU}
theorem bc(d:cO X.prog X.w X.K X.mg X.base k x ps sp)(hr:bA k X.A)(hg:Gl X x)(ha:WA X (e::es) t)(hdb:(x==("__debug__":Str))=false:=by decide)(he:starEach (e::es) X.env=(false,eval e X.env)::starEach es X.env:=by rfl)(hpl:(backTo pos (starEach es X.env)).any (·.1)=false:=by rfl):WE X (.Call (.Name x p) (e::es) [] pos) (sD sp t):=⟨Lg (d:=d) (hr:=hr) (hg:=hg) (ha:=ha.h) (hdb:=hdb) (he:=he) (hpl:=hpl)⟩
end
section
variable {X:Cx}{st:Stmt}{rest:List Stmt}{t u:fS}{te:bV}{e:Expr}{pos:Pos}
theorem bx:BV X [] ur:=⟨C8⟩
theorem ak(h:WS X st t):BV X [st] t:=⟨C7 (h:=h.h)⟩
theorem ag(h1:WS X st t)(h2:BV X rest u):BV X (st::rest) (yA t u):=⟨y_ (h1:=h1.h) (h2:=h2.h)⟩
theorem jb(he:WE X e te)(hs:swapsWith e none pos.line X.env=pure false:=by rfl):WS X (.Expr e pos) (yE te):=⟨C_ (he:=he.h) (hs:=hs)⟩
theorem aM(he:WE X e te):WS X (.Return (some e) pos) (GV te):=⟨HB (he:=he.h)⟩
theorem bZ{c:Expr}{a b:List Stmt}{tc:dh}(hc:WT X c tc)(ha:BV X a t)(hb:BV X b u):WS X (.If c a b pos) (Co tc t u):=⟨La (hc:=hc.h) (ha:=ha.h) (hb:=hb.h)⟩
theorem cb{i:Nat}{x:Str}(hN:X.N.Nodup)(hi:X.N[i]?=some x)(hx:Loc X.env.scope x)(hf:X.fn x=true\/X.env.scope.names.lookup x=some .local:=by first|exact .inl rfl|exact .inr rfl|assumption):WG X (.Name x pos) (hName i):=⟨Dj (hN:=hN) (hi:=hi) (hx:=hx) (hf:=hf)⟩
theorem B5:NY X [] tw:=⟨Di⟩
theorem pw{e:Expr}{es:List Expr}{t:eV}{u:kM}(h1:WG X e t)(h2:NY X es u)(hs:(assignEach (e::es) X.env).map (·.2)=assign e X.env::(assignEach es X.env).map (·.2):=by rfl):NY X (e::es) (eS t u):=⟨zc (h1:=h1.h) (h2:=h2.h) (hs:=hs)⟩
theorem Gv{es:List Expr}{k:Nat}{t:kM}{n:Nat}(hc:X.calm=true)(h:NY X es t)(hn:(assignEach es X.env).length=n:=by rfl)(hst:(assignEach es X.env).findIdx? (·.1)=none:=by rfl):WG X (.Tuple es k pos) (tu n t):=⟨HG (hc:=hc) (h:=h.h) (hn:=hn) (hst:=hst)⟩
theorem fh{o i:Expr}{to ti:bV}{t:hV}(ho:WE X o to)(hi:WE X i ti)(hs:BE X t)(ha:∀v,assign (.Subscript o i pos) X.env v=(do
   let ov <- holding [v] (eval o X.env)
   let iv <- holding [v,ov] (eval i X.env)
   standAt pos
   holding [v,ov,iv] (setItem ov iv v)
   release [v,ov,iv] []):=by intro _;rfl):WG X (.Subscript o i pos) (hSub to ti t):=⟨HH (ho:=ho.h) (hi:=hi.h) (hs:=hs) (ha:=ha)⟩
theorem fg{tg e:Expr}{g:eV}(he:WE X e te)(hg:WG X tg g)(hs:swapsWithSole [tg] e pos.line X.env=pure false:=by rfl)(hw:swappedStores [tg] e X.env=pure none:=by rfl)(h1:(assignEach [tg] X.env).map (·.2)=[assign tg X.env]:=by rfl):WS X (.Assign [tg] e pos) (la te g):=⟨HE (he:=he.h) (hg:=hg.h) (hs:=hs) (hw:=hw) (h1:=h1)⟩
theorem aP{i:Nat}{x:Str}{e:Expr}{pos':Pos}(hN:X.N.Nodup)(hi:X.N[i]?=some x)(hx:Loc X.env.scope x)(he:WE X e te)(hs:swapsWith e (some (.Name x pos')) pos.line X.env=pure false:=by rfl)(hf:X.fn x=true\/X.env.scope.names.lookup x=some .local:=by first|exact .inl rfl|exact .inr rfl|assumption):WS X (.Assign [.Name x pos'] e pos) (la te (hName i)):=⟨HA (hN:=hN) (hi:=hi) (hx:=hx) (he:=he.h) (hs:=hs) (hf:=hf)⟩
end
section
variable {X:Cx}{tg l:Expr}{tl:bV}{ta:eW}{a b:Expr}{p pos:Pos}
theorem bT(hl:WE X l tl):WI X tg l (Ej tl):=⟨HF (hl:=hl.h)⟩
theorem bH(hg:Gl X "range")(hm:X.mg "range"=none)(ha:WA X [a] ta)(hs:starEach [a] X.env=[(false,eval a X.env)]:=by rfl):WI X tg (.Call (.Name "range" p) [a] [] pos) (Ae ta):=⟨wx (hg:=hg) (hm:=hm) (ha:=ha.h) (hs:=hs)⟩
end
section
variable {X:Cx}{tg iter:Expr}{wi:i'}{g:eV}{tb:fS}{body:List Stmt}{pos:Pos}
theorem dj(hp:PassesOwn (model X.prog X.w) X.A X.env X.xe)(hc:X.calm=true)(hi:WI X tg iter wi)(hg:WG X tg g)(hb:BV X body tb)(hs:∀x,foldedSetIterable iter X.env x=pure x:=by intro _;rfl):WS X (.For tg iter body [] pos) (yD wi g tb):=⟨HD (hp:=hp) (hc:=hc) (hi:=hi.h) (hg:=hg.h) (hb:=hb.h) (hs:=hs)⟩
end
section
variable {X:Cx}{c:Expr}{tc:dh}{tb:fS}{body:List Stmt}{pos:Pos}
theorem x'(hp:PassesOwn (model X.prog X.w) X.A X.env X.xe)(hc:WT X c tc)(hb:BV X body tb):WS X (.While c body [] pos) (sg tc tb):=⟨za (hp:=hp) (hc:=hc.h) (hb:=hb.h)⟩
end
section
variable {X:Cx}{scope:Scope}{tgs:List Str}{fr:List Nat}{tg elt iter:Expr}{ifs:List Expr}{pos:Pos}{wi:i'}{g:eV}{tt:dh}{te:bV}
theorem bo:Qu X [] pQ:=⟨Dg⟩
theorem mU{c:Expr}{t:dh}(h:WT X c t):Qu X [c] t:=⟨Df (h:=h.h)⟩
theorem aU{i:Nat}{x:Str}{ps:Pos}(h:∀cl C fp s H,PG (bg X scope cl tgs fr C fp s H) (.Name x ps) (cX i))(hi:i < tgs.length):JK X scope tgs fr (.Name x ps) (hName i):=⟨B_ (h:=h) (hi:=hi)⟩
theorem pq{i j k:Nat}{x y:Str}{px py pt:Pos}(h:∀cl C fp s H,PG (bg X scope cl tgs fr C fp s H) (.Tuple [.Name x px,.Name y py] k pt) (AM X.K 2 (gU (cX i) (gU (cX j) xg))))(hi:i < tgs.length)(hj:j < tgs.length):JK X scope tgs fr (.Tuple [.Name x px,.Name y py] k pt) (tu 2 (eS (hName i) (eS (hName j) tw))):=⟨B9 (h:=h) (hi:=hi) (hj:=hj)⟩
theorem mY(C:dG X scope tgs fr tg iter ifs elt wi g tt te)(hs:∀x,foldedSetIterable iter X.env x=pure x:=by intro _;rfl):WE X (.ListComp elt [⟨tg,iter,ifs,0⟩] scope pos) (pR wi g tt te tgs.length fr):=⟨HN (C:=C.h) (hs:=hs)⟩
theorem js{i:Nat}{y:Str}{py fm:Pos}(hN:X.N.Nodup)(hiy:X.N[i]?=some y)(hy:Loc X.env.scope y)(C:dG X scope tgs fr tg iter ifs elt wi g tt te)(hsw:swapsWith (.ListComp elt [⟨tg,iter,ifs,0⟩] scope pos) (some (.Name y py)) fm.line X.env=pure true:=by rfl)(hf:X.fn y=true\/X.env.scope.names.lookup y=some .local:=by first|exact .inl rfl|exact .inr rfl|assumption)(hs:∀x,foldedSetIterable iter X.env x=pure x:=by intro _;rfl):WS X (.Assign [.Name y py] (.ListComp elt [⟨tg,iter,ifs,0⟩] scope pos) fm) (la (pR wi g tt te tgs.length fr) (hName i)):=⟨sE (hN:=hN) (hiy:=hiy) (hy:=hy) (C:=C.h) (hsw:=hsw) (hf:=hf) (hs:=hs)⟩
variable {x:Str}{p:Pos}{id T:String}{aZ:Pos}
theorem mW{r2 r3:List D->Mem->bq->Prop}(o:cK X (.builtin id) r2)(h3:iQ r2 r3)(hg:Gl X x)(hm:X.mg x=none)(hv:bootBuiltins x=some (.builtin id))(C:dG X scope tgs fr tg iter ifs elt wi g tt te)(hn:x≠"__name__":=by decide)(hdb:(x==("__debug__":Str))=false:=by decide)(hs:∀x,foldedSetIterable iter X.env x=pure x:=by intro _;rfl):WE X (.Call (.Name x p) [.ListComp elt [⟨tg,iter,ifs,0⟩] scope aZ] [] pos) (wd r3 wi g tt te tgs.length fr):=⟨HK (o:=o) (h3:=h3) (hg:=hg) (hm:=hm) (hv:=hv) (C:=C.h) (hn:=hn) (hdb:=hdb) (hs:=hs)⟩
theorem dH{r2 r3:List D->Mem->bq->Prop}(o:cK X (.type T) r2)(h3:iQ r2 r3)(hg:Gl X x)(hm:X.mg x=none)(hv:bootBuiltins x=some (.type T))(C:dG X scope tgs fr tg iter ifs elt wi g tt te)(hn:x≠"__name__":=by decide)(hdb:(x==("__debug__":Str))=false:=by decide)(hs:∀x,foldedSetIterable iter X.env x=pure x:=by intro _;rfl):WE X (.Call (.Name x p) [.ListComp elt [⟨tg,iter,ifs,0⟩] scope aZ] [] pos) (wd r3 wi g tt te tgs.length fr):=⟨HI (o:=o) (h3:=h3) (hg:=hg) (hm:=hm) (hv:=hv) (C:=C.h) (hn:=hn) (hdb:=hdb) (hs:=hs)⟩
variable {o:Expr}{to:bV}{name:Str}{apos:Pos}
theorem Gw{r2 r3:D->List D->Mem->bq->Prop}(pa:PlainAttrs T)(slot:Slot T name id)(hty:typeOf (.builtin id)=pure (.type "method_descriptor"))(hm:JQ X id r2)(h3:tX r2 r3)(ho:WE X o to)(C:dG X scope tgs fr tg iter ifs elt wi g tt te)(hs:∀x,foldedSetIterable iter X.env x=pure x:=by intro _;rfl)(hbase:attributeBase o name X.env (eval o X.env)=eval o X.env:=by rfl)(hfew:((backTo pos (starEach [.ListComp elt [⟨tg,iter,ifs,0⟩] scope aZ] X.env)).all (λ x=>!x.1)&&(backToKw pos (keywordEach [] X.env)).all (λ x=>x.1.isSome)
   &&decide (([.ListComp elt [⟨tg,iter,ifs,0⟩] scope aZ]:List Expr).length+([]:List Keyword).length+(if([]:List Keyword).isEmpty then 0 else 1) < 30))=true:=by rfl) (hline:(apos.endLine==pos.line)=true:=by rfl):WE X (.Call (.Attribute o name apos) [.ListComp elt [⟨tg,iter,ifs,0⟩] scope aZ] [] pos) (yz T r3 to wi g tt te tgs.length fr):=⟨HJ (pa:=pa) (slot:=slot) (hty:=hty) (hm:=hm) (h3:=h3) (ho:=ho.h) (C:=C.h) (hs:=hs) (hbase:=hbase) (hfew:=hfew) (hline:=hline)⟩
end
theorem ub{X:Cx}{es:List Expr}{zs:List Str}(h:strsOf es=some zs):WA X es (uq zs):=⟨uE h⟩
end L4
namespace L4
open PySem PySem.Spec L2 L3
section
variable {P:Program}{w:World}{K:PySem.W.Frag}{mg:Str->Option Value}{base:Heap}
theorem l_{x qual:Str}{st:Stmt}{f:Addr}{fd:FuncData}{N ps:List Str}{k:Nat}{sp:fU}(F:ff K x qual st f fd)(S:aH N ps (aj st))(len:∀ds M Q,sp ds M Q->ds.length=ps.length)
  (dW:∀(bW:Value) (A:Around) (outer:List Env) (s:Shared) (H:Hp) (E:XK) (ds:List D) (M:Mem) (Q:bq),bA k (A.deeper (PyProof.Rows.envOfC qual (aj st) s.heap.objs.size f bW))->sp ds M Q->
   ∃t,BV (lr eP P w K mg base N qual (aj st) f bW A outer s H E).uN (bN st) t/\t {nx:=λ _ M'=>fin2 Q .a_ M',rt:=fin2 Q} (eD N ds) M):bw P w K mg base eP (k+1) f fd ps (cE K sp):=
 Se F S len λ bW A outer s H E ds M Q hr h=>let⟨t,a,b⟩:=dW bW A outer s H E ds M Q hr h;⟨t,a.h,b⟩
end
end L4
namespace L5
open PySem PySem.W PyProof.Rows
section
variable (n:Nat)(lt:Nat->Nat->Bool)
def kw{α:Type}:KasT α->(α->Prop)->Prop
 | .ret a,Q=>Q a
 | .ask i j k,Q=>i < n/\j < n/\kw (k (lt i j)) Q
variable {n lt}
theorem fO{α β:Type}{f:α->KasT β}{Q:β->Prop}:∀{t:KasT α},kw n lt t (λ a=>kw n lt (f a) Q)->kw n lt (t.bind f) Q
 | .ret a,h=>h
 | .ask i j k,h=>⟨h.1,h.2.1,fO (t:=k (lt i j)) h.2.2⟩
def pg(p:Array Nat)(i:Nat):Nat:=p.getD i 0
theorem iD(p:Array Nat)(i:Nat):pg p i=(p[i]?).getD 0:=by
 unfold pg
 rw[Array.getD_eq_getD_getElem?]
def Pm(n:Nat)(p:Array Nat):Prop:=p.Perm (List.toArray (List.range n))
theorem Pm.size {p:Array Nat}(h:Pm n p):p.size=n:=by
 have:=Array.Perm.size_eq h
 simpa using this
theorem Pm.below {p:Array Nat}(h:Pm n p)(i:Nat)(hn:0 < n):pg p i < n:=by
 rw[iD]
 cases e:p[i]? with
 |none=>exact hn
 |some x=>
  have hm:x∈p:=Array.mem_of_getElem? e
  have:=(Array.Perm.mem_iff h (a:=x)).mp hm
  simpa using this
theorem jS{p:Array Nat}{i j:Nat}(hj:j<=p.size)(k:Nat):pg (kas_rev p i j) k=if i<=k/\k < j then pg p (i+j - 1 - k)else pg p k:=by
 rw[iD]
 unfold kas_rev
 rw[getElem?_mirror_all hj k]
 split
 ·rw[iD]
 ·rw[iD]
theorem Pm.rev {p:Array Nat}(h:Pm n p)(i j:Nat):Pm n (kas_rev p i j):=Array.Perm.trans (mirror_perm _ _ _ _) h
theorem zt{p:Array Nat}{k l:Nat}(hk:k < p.size)(hl:l<=k)(j:Nat):pg (bubble p k (k - l)) j=if j=l then pg p k else if l < j/\j<=k then pg p (j - 1)else pg p j:=by
 have e0:k - (k - l)=l:=by omega
 rw[iD,getElem?_bubble hk (k - l) (by omega) j,e0]
 by_cases h1:j=l
 ·rw[B3 h1,B3 h1,iD]
 ·rw[B4 h1,B4 h1]
  by_cases h2:l < j/\j<=k
  ·rw[B3 h2,B3 h2,iD]
  ·rw[B4 h2,B4 h2,iD]
theorem Pm.UB {p:Array Nat}(h:Pm n p)(k d:Nat):Pm n (bubble p k d):=Array.Perm.trans (bubble_perm _ _ _) h
structure Ord(lt:Nat->Nat->Bool):Prop where
 xE:∀a b,lt a b=true->lt b a=false
 tr:∀a b c,lt a b=false->lt b c=false->lt a c=false
abbrev le(lt:Nat->Nat->Bool)(a b:Nat):Prop:=lt b a=false
theorem Ord.refl (O:Ord lt)(a:Nat):le lt a a:=by
 show lt a a=false
 cases e:lt a a with
 |false=>rfl
 |true=>have:=O.xE a a e;rw[e]at this;cases this
theorem Ord.trans (O:Ord lt){a b c:Nat}(h1:le lt a b)(h2:le lt b c):le lt a c:=O.tr c b a h2 h1
def Up(lt:Nat->Nat->Bool)(p:Array Nat)(m:Nat):Prop:=∀i j,i<=j->j < m->le lt (pg p i) (pg p j)
def Dn(lt:Nat->Nat->Bool)(p:Array Nat)(m:Nat):Prop:=∀i j,i<=j->j < m->le lt (pg p j) (pg p i)
def Ev(lt:Nat->Nat->Bool)(a b:Nat):Prop:=le lt a b/\le lt b a
theorem Ord.Mz (O:Ord lt){a b c:Nat}(h:Ev lt a b)(q:Ev lt b c):Ev lt a c:=⟨O.trans h.1 q.1,O.trans q.2 h.2⟩
theorem Ev.sym {a b:Nat}(h:Ev lt a b):Ev lt b a:=⟨h.2,h.1⟩
theorem Up.one (O:Ord lt)(p:Array Nat):Up lt p 1:=λ i j h q=>by
 have:i=j:=by omega
 subst this
 exact O.refl _
theorem Up.next (O:Ord lt){p:Array Nat}{m:Nat}(h:Up lt p m)(hm:1<=m)(q:le lt (pg p (m - 1)) (pg p m)):Up lt p (m+1):=λ i j ou hj=>by
 by_cases e:j=m
 ·subst e
  by_cases e2:i=j
  ·subst e2;exact O.refl _
  ·exact O.trans (h i (j - 1) (by omega) (by omega)) q
 ·exact h i j ou (by omega)
theorem Dn.next (O:Ord lt){p:Array Nat}{m:Nat}(h:Dn lt p m)(hm:1<=m)(q:le lt (pg p m) (pg p (m - 1))):Dn lt p (m+1):=λ i j ou hj=>by
 by_cases e:j=m
 ·subst e
  by_cases e2:i=j
  ·subst e2;exact O.refl _
  ·exact O.trans q (h i (j - 1) (by omega) (by omega))
 ·exact h i j ou (by omega)
theorem Dn.ev (O:Ord lt){p p':Array Nat}{m:Nat}(h:Dn lt p m)(e:∀k,k < m->Ev lt (pg p' k) (pg p k)):Dn lt p' m:=λ i j ou hj=>
 O.trans (e j hj).1 (O.trans (h i j ou hj) (e i (by omega)).2)
theorem Up.Ly {p:Array Nat}{m:Nat}(hm:m<=p.size)(h:Dn lt p m):Up lt (kas_rev p 0 m) m:=λ i j ou hj=>by
 rw[jS hm,jS hm,B3 ⟨A4 _,by omega⟩,B3 ⟨A4 _,hj⟩]
 exact h _ _ (by omega) (by omega)
theorem tE(O:Ord lt){p:Array Nat}{i j:Nat}(hj:j<=p.size)(he:∀k,i<=k->k < j->Ev lt (pg p k) (pg p (j - 1)))(k:Nat):Ev lt (pg (kas_rev p i j) k) (pg p k):=by
 rw[jS hj]
 split
 case isTrue h=>exact O.Mz (he _ (by omega) (by omega)) (he k h.1 h.2).sym
 case isFalse h=>exact⟨O.refl _,O.refl _⟩
theorem s_(O:Ord lt){p:Array Nat}(hp:Pm n p){Q:Nat->Prop}:∀(f a:Nat),1<=a->a+f<=n->Up lt p a->(∀m,a<=m->m<=a+f->Up lt p m->(m < a+f->lt (pg p m) (pg p (m - 1))=true)->Q m)->kw n lt (kas_asc p f a) Q
 |0,a,h1,hn,hu,hq=>hq a (A2 _) (A2 _) hu λ h=>absurd h (by omega)
 |f+1,a,h1,hn,hu,hq=>by
  refine⟨hp.below a (by omega),hp.below (a - 1) (by omega),?_⟩
  show kw n lt (if lt (pg p a) (pg p (a - 1))=true then KasT.ret a else kas_asc p f (a+1)) Q
  cases e:lt (pg p a) (pg p (a - 1))with
  |true=>
   rw[B3 rfl]
   exact hq a (A2 _) (by omega) hu λ _=>e
  |false=>
   rw[B4 (by simp)]
   exact s_ O hp f (a+1) (by omega) (by omega) (hu.next O h1 e) λ m m1 m2 m3 m4=>hq m (by omega) (by omega) m3 λ q=>m4 (by omega)
theorem jh(O:Ord lt){Q:Array Nat×Nat×Nat->Prop}(Az:0 < n):∀(f:Nat) (p:Array Nat) (m q:Nat),Pm n p->1<=m->m+f<=n->q+1<=m->Dn lt p m->(∀k,m - (q+1)<=k->k < m->Ev lt (pg p k) (pg p (m - 1)))->
  (∀p' m' q',Pm n p'->m<=m'->m'<=m+f->q'+1<=m'->Dn lt p' m'->(∀k,m' - (q'+1)<=k->k < m'->Ev lt (pg p' k) (pg p' (m' - 1)))->Q (p',m',q'))->kw n lt (kas_desc f p m q) Q
 |0,p,m,q,hp,h1,hf,NJ,hd,he,hQ=>hQ p m q hp (A2 _) (A2 _) NJ hd he
 |f+1,p,m,q,hp,h1,hf,NJ,hd,he,hQ=>by
  refine⟨hp.below m Az,hp.below (m - 1) Az,?_⟩
  show kw n lt (if lt (pg p m) (pg p (m - 1))=true then(if q > 0 then kas_desc f (kas_rev p (m - (q+1)) m) (m+1) 0 else kas_desc f p (m+1) 0)else KasT.ask (pg p (m - 1)) (pg p m) λ d=>if d=true then KasT.ret (p,m,q)else kas_desc f p (m+1) (q+1)) Q
  have hz:=hp.size
  cases e:lt (pg p m) (pg p (m - 1))with
  |true=>
   rw[B3 rfl]
   by_cases hq:q > 0
   ·rw[B3 hq]
    have ev:=tE O (p:=p) (i:=m - (q+1)) (j:=m) (by omega) he
    have em:pg (kas_rev p (m - (q+1)) m) m=pg p m:=by rw[jS (by omega),B4 (by omega)]
    refine jh O Az f _ (m+1) 0 (hp.rev _ _) (by omega) (by omega) (by omega) ((hd.ev O λ k _=>ev k).next O h1 ?_) (λ k k1 k2=>?_) λ p' m' q' a b c d g i=>hQ p' m' q' a (by omega) (by omega) d g i
    ·rw[em]
     exact O.trans (O.xE _ _ e) (ev (m - 1)).2
    ·have:k=m:=by omega
     subst this
     exact⟨O.refl _,O.refl _⟩
   ·rw[B4 hq]
    refine jh O Az f _ (m+1) 0 hp (by omega) (by omega) (by omega) (hd.next O h1 (O.xE _ _ e)) (λ k k1 k2=>?_) λ p' m' q' a b c d g i=>hQ p' m' q' a (by omega) (by omega) d g i
    have:k=m:=by omega
    subst this
    exact⟨O.refl _,O.refl _⟩
  |false=>
   rw[B4 (by simp)]
   refine⟨hp.below (m - 1) Az,hp.below m Az,?_⟩
   cases e2:lt (pg p (m - 1)) (pg p m)with
   |true=>exact hQ p m q hp (A2 _) (by omega) NJ hd he
   |false=>
    refine jh O Az f p (m+1) (q+1) hp (by omega) (by omega) (by omega) (hd.next O h1 e2) (λ k k1 k2=>?_) λ p' m' q' a b c d g i=>hQ p' m' q' a (by omega) (by omega) d g i
    have hE:Ev lt (pg p (m - 1)) (pg p m):=⟨e,e2⟩
    by_cases ek:k=m
    ·subst ek;exact⟨O.refl _,O.refl _⟩
    ·exact O.Mz (he k (by omega) (by omega)) hE
theorem uT(O:Ord lt){p:Array Nat}(hp:Pm n p){m:Nat}(h1:1<=m)(hm:m<=n)(hd:Dn lt p m){Q:Nat×Array Nat->Prop}(hQ:∀m' p',Pm n p'->1<=m'->m'<=n->Up lt p' m'->Q (m',p')):kw n lt (kas_tail3 m n p) Q:=by
 unfold kas_tail3
 refine fO (s_ O (hp.rev _ _) (n - m) m h1 (by omega) (Up.Ly (by rw[hp.size];exact hm) hd) λ m' a b c _=>?_)
 exact hQ m' _ (hp.rev _ _) (by omega) (by omega) c
theorem qm(O:Ord lt){p:Array Nat}(hp:Pm n p){m:Nat}(h1:1<=m)(hm:m+1<=n)(hd:Dn lt p (m+1)){Q:Nat×Array Nat->Prop}(hQ:∀m' p',Pm n p'->1<=m'->m'<=n->Up lt p' m'->Q (m',p')):kw n lt (kas_descPart m n p) Q:=by
 unfold kas_descPart
 refine fO (jh O (by omega) (n - (m+1)) p (m+1) 0 hp (by omega) (by omega) (by omega) hd (λ k k1 k2=>?_) λ p' m' q' a b c d g i=>?_)
 ·have:k=m:=by omega
  subst this
  exact⟨O.refl _,O.refl _⟩
 ·show kw n lt (if q' > 0 then kas_tail3 m' n (kas_rev p' (m' - (q'+1)) m')else kas_tail3 m' n p') Q
  by_cases hq:q' > 0
  ·rw[B3 hq]
   have hz:=a.size
   exact uT O (a.rev _ _) (by omega) (by omega) (g.ev O λ k _=>tE O (by omega) i k) hQ
  ·rw[B4 hq]
   exact uT O a (by omega) (by omega) g hQ
theorem zZ(O:Ord lt){p:Array Nat}(hp:Pm n p)(hn:2<=n){Q:Nat×Array Nat->Prop}(hQ:∀m' p',Pm n p'->1<=m'->m'<=n->Up lt p' m'->Q (m',p')):kw n lt (kas_count n p) Q:=by
 unfold kas_count
 refine fO (s_ O hp (n - 1) 1 (A2 _) (by omega) (Up.one O p) λ m a b c d=>?_)
 have hz:=hp.size
 by_cases e1:(m==n)=true
 ·rw[B3 e1]
  exact hQ m p hp a (by omega) c
 ·rw[B4 e1]
  have eR:m≠n:=λ q=>e1 (by rw[q];exact beq_self_eq_true _)
  have hl:=d (by omega)
  by_cases e2:m > 1
  ·rw[B3 e2]
   refine⟨hp.below 0 (by omega),hp.below (m - 1) (by omega),?_⟩
   show kw n lt (if lt (pg p 0) (pg p (m - 1))=true then KasT.ret (m,p)else kas_descPart m n (kas_rev p 0 m)) Q
   cases e3:lt (pg p 0) (pg p (m - 1))with
   |true=>rw[B3 rfl];exact hQ m p hp a (by omega) c
   |false=>
    rw[B4 (by simp)]
    have AJ:∀k,0<=k->k < m->Ev lt (pg p k) (pg p (m - 1)):=λ k _ hk=>⟨c k (m - 1) (by omega) (by omega),O.trans e3 (c 0 k (by omega) hk)⟩
    have ev:=tE O (p:=p) (i:=0) (j:=m) (by omega) AJ
    have em:pg (kas_rev p 0 m) m=pg p m:=by rw[jS (by omega),B4 (by omega)]
    refine qm O (hp.rev _ _) a (by omega) (Dn.next O (λ i j ou hj=>?_) a ?_) hQ
    ·exact O.trans (ev j).1 (O.trans (O.trans (AJ j (A4 _) hj).1 (AJ i (A4 _) (by omega)).2) (ev i).2)
    ·rw[em]
     exact O.trans (O.xE _ _ hl) (ev (m - 1)).2
  ·rw[B4 e2]
   have bU:m=1:=by omega
   subst bU
   refine qm O hp (A2 _) (by omega) (Dn.next O (λ i j ou hj=>?_) (A2 _) (O.xE _ _ hl)) hQ
   have:i=j:=by omega
   subst this
   exact O.refl _
theorem jY(O:Ord lt){p:Array Nat}(hp:Pm n p){k:Nat}(hk:k < n){Q:Nat->Prop}(hQ:∀l,l<=k->(∀i,i < l->le lt (pg p i) (pg p k))->(∀i,l<=i->i < k->lt (pg p k) (pg p i)=true)->Q l)(hu:Up lt p k):
  ∀(f l r:Nat),l<=r->r<=k->r - l<=f->(∀i,i < l->le lt (pg p i) (pg p k))->(∀i,r<=i->i < k->lt (pg p k) (pg p i)=true)->kw n lt (kas_place p k f l r) Q
 |0,l,r,h1,h2,h3,h4,h5=>by
  have:r=l:=by omega
  subst this
  exact hQ r h2 h4 h5
 |f+1,l,r,h1,h2,h3,h4,h5=>by
  unfold kas_place
  by_cases e:l ≥ r
  ·rw[B3 e]
   have:r=l:=by omega
   subst this
   exact hQ r h2 h4 h5
  ·rw[B4 e]
   refine⟨hp.below k (by omega),hp.below _ (by omega),?_⟩
   show kw n lt (if lt (pg p k) (pg p ((l+r) / 2))=true then kas_place p k f l ((l+r) / 2)else kas_place p k f ((l+r) / 2+1) r) Q
   cases e2:lt (pg p k) (pg p ((l+r) / 2))with
   |true=>
    rw[B3 rfl]
    refine jY O hp hk hQ hu f l _ (by omega) (by omega) (by omega) h4 λ i i1 i2=>?_
    cases e3:lt (pg p k) (pg p i)with
    |true=>rfl
    |false=>
     have:=O.tr _ _ _ e3 (hu ((l+r) / 2) i i1 i2)
     rw[e2]at this
     cases this
   |false=>
    rw[B4 (by simp)]
    exact jY O hp hk hQ hu f _ r (by omega) (by omega) (by omega) (λ i hi=>O.trans (hu i ((l+r) / 2) (by omega) (by omega)) e2) h5
theorem z_(O:Ord lt){Q:Array Nat->Prop}(hQ:∀p,Pm n p->Up lt p n->Q p):∀(f:Nat) (p:Array Nat) (k:Nat),Pm n p->k+f=n->Up lt p k->kw n lt (kas_bin f p k) Q
 |0,p,k,hp,hf,hu=>hQ p hp (by rw[<- hf];exact hu)
 |f+1,p,k,hp,hf,hu=>by
  unfold kas_bin
  have hz:=hp.size
  refine fO (jY O hp (by omega) (λ l hl h4 h5=>?_) hu k 0 k (A4 _) (A2 _) (by omega) (λ i hi=>absurd hi (by omega)) λ i a b=>absurd b (by omega))
  refine z_ O hQ f _ (k+1) (hp.UB _ _) (by omega) λ i j ou hj=>?_
  rw[zt (by omega) hl,zt (by omega) hl]
  by_cases e1:i=l
  ·rw[B3 e1]
   by_cases e2:j=l
   ·rw[B3 e2];exact O.refl _
   ·rw[B4 e2,B3 ⟨by omega,by omega⟩]
    exact O.xE _ _ (h5 (j - 1) (by omega) (by omega))
  ·rw[B4 e1]
   by_cases e2:j=l
   ·rw[B3 e2,B4 (by omega)]
    exact h4 i (by omega)
   ·rw[B4 e2]
    by_cases e3:l < i/\i<=k
    ·rw[B3 e3,B3 ⟨by omega,by omega⟩]
     exact hu _ _ (by omega) (by omega)
    ·rw[B4 e3]
     by_cases e4:l < j/\j<=k
     ·rw[B3 e4]
      exact hu _ _ (by omega) (by omega)
     ·rw[B4 e4]
      exact hu _ _ (by omega) (by omega)
theorem Eg(O:Ord lt)(hn:2<=n){Q:Array Nat->Prop}(hQ:∀p,Pm n p->Up lt p n->Q p):kw n lt (kas_sort n) Q:=by
 unfold kas_sort
 refine fO (zZ O (Array.Perm.refl _) hn λ m p hp h1 h2 hu=>?_)
 show kw n lt (if m < n then kas_bin (n - max m 1) p (max m 1)else KasT.ret p) Q
 have hm:max m 1=m:=by omega
 rw[hm]
 by_cases e:m < n
 ·rw[B3 e]
  exact z_ O hQ (n - m) p m hp (by omega) hu
 ·rw[B4 e]
  have:m=n:=by omega
  subst this
  exact hQ p hp hu
end
end L5
namespace L5
open PySem
def xH(T:String)(h:Heap)(j l:Addr)(i:Nat):Prop:=∃o,h.get? j=some o/\o.cls=.type T/\o.data=.fields #[.ref l,.int i 0]
structure NK(T:String)(Sq:Heap->Addr->Array Value->Prop):Prop where
 keep:∀{h h':Heap} {l:Addr} {vs:Array Value},Sq h l vs->(∀o,h.get? l=some o->h'.get? l=some o)->Sq h' l vs
 start:∀{prog:Program} {w:World} {A:Around} {E:Value->Shared->Prop} {s:Shared} {l:Addr} {vs:Array Value} {Q:Value->Shared->Prop},Sq s.heap l vs->
  Q (.ref s.heap.objs.size) {s with heap:=s.heap.push {cls:=.type T,data:=.fields #[.ref l,.int 0 0]}}->wpAny (model prog w) A (pyIter (.ref l)) Q E s
 item:∀{prog:Program} {w:World} {A:Around} {E:Value->Shared->Prop} {s:Shared} {j l:Addr} {i:Nat} {vs:Array Value} {x:Value} {Q:Value->Shared->Prop},xH T s.heap j l i->Sq s.heap l vs->vs[i]?=some x->
  (∀h',xH T h' j l (i+1)->Heap.SameBut j s.heap h'->Q x {s with heap:=h'})->wpAny (model prog w) A (Builtin.SmallTypes.nextOf (.ref j)) Q E s
 stop:∀{prog:Program} {w:World} {A:Around} {E:Value->Shared->Prop} {s:Shared} {j l:Addr} {i:Nat} {vs:Array Value} {Q:Value->Shared->Prop},A.handled=none->xH T s.heap j l i->Sq s.heap l vs->vs[i]?=none->
  (∀h' e,Heap.ExtBut j s.heap h'->(∃o,h'.get? e=some o/\o.cls=.type "StopIteration")->E (.ref e) {s with heap:=h'})->wpAny (model prog w) A (Builtin.SmallTypes.nextOf (.ref j)) Q E s
theorem D3:NK "list_iterator" Heap.IsList where
 keep:=λ x k=>x.at k
 start:=λ x q=>o9 x q
 item:=λ a b c d=>wpAny_nextOf_list_item a b c d
 stop:=λ a b c d e=>wpAny_nextOf_list_end a b c d e
section
variable {prog:Program}{w:World}{A:Around}{E:Value->Shared->Prop}{s:Shared}
theorem IC{j q:Addr}{i:Nat}{vs:Array Value}{x:Value}{Q:Value->Shared->Prop}(ji:s.heap.IsTupleIter j q i)(jt:s.heap.IsTuple q vs)(jx:vs[i]?=some x)
  (k:∀h',h'.IsTupleIter j q (i+1)->Heap.SameBut j s.heap h'->Q x {s with heap:=h'}):wpAny (model prog w) A (Builtin.SmallTypes.nextOf (.ref j)) Q E s:=by
 obtain⟨ob,hb,kc,kd⟩:=id ji
 obtain⟨ot,ht,_,nt,dt⟩:=jt
 unfold Builtin.SmallTypes.nextOf
 refine A6 (i9 (name:=Str.ofString "__next__") ji.typeIs c5 (s9 c5 ji.typeIs F.entry_tuple_iterator_next ?_ (F.args_tuple_iterator_next_1 _)))
 refine A6 (m:=field (.ref j) 0) (A5 hb kd (x:=.ref q) rfl ?_)
 show wpAny _ _ (if(Value.ref q==Value.none)=true then _ else _) _ _ s
 rw[B4 (show(Value.ref q==Value.none)≠true from l8)]
 refine A6 (m:=field (.ref j) 1) (A5 hb kd (x:=.int i 0) rfl ?_)
 refine A6 (m:=seqItems? (.ref q)) (y3 ht dt ?_)
 simp only[n6,jx]
 refine A6 (wpAny_setField hb kd (by simp) (A7 ⟨x,rfl,A7 (k _ ?_ (k9 ..))⟩))
 refine⟨_,j4 _ hb (Obj.isFreed_of_fields (Obj.data_mapFields kd _)),(Obj.cls_mapFields ..).trans kc,?_⟩
 rw[Obj.data_mapFields kd];simp[rawInt]
theorem GP{j q:Addr}{i:Nat}{vs:Array Value}{Q:Value->Shared->Prop}(hA:A.handled=none)(ji:s.heap.IsTupleIter j q i)(jt:s.heap.IsTuple q vs)(jx:vs[i]?=none)
  (k:∀h' e,Heap.ExtBut j s.heap h'->(∃o,h'.get? e=some o/\o.cls=.type "StopIteration")->E (.ref e) {s with heap:=h'}):wpAny (model prog w) A (Builtin.SmallTypes.nextOf (.ref j)) Q E s:=by
 obtain⟨ob,hb,kc,kd⟩:=id ji
 obtain⟨ot,ht,_,nt,dt⟩:=jt
 unfold Builtin.SmallTypes.nextOf
 refine A6 (i9 (name:=Str.ofString "__next__") ji.typeIs c5 (s9 c5 ji.typeIs F.entry_tuple_iterator_next ?_ (F.args_tuple_iterator_next_1 _)))
 refine A6 (m:=field (.ref j) 0) (A5 hb kd (x:=.ref q) rfl ?_)
 show wpAny _ _ (if(Value.ref q==Value.none)=true then _ else _) _ _ s
 rw[B4 (show(Value.ref q==Value.none)≠true from l8)]
 refine A6 (m:=field (.ref j) 1) (A5 hb kd (x:=.int i 0) rfl ?_)
 refine A6 (m:=seqItems? (.ref q)) (y3 ht dt ?_)
 simp only[n6,jx]
 refine A6 (wpAny_rule (A6 (wpAny_setField hb kd (by simp) ?_)))
 refine A6 (m:=newExc (.type "StopIteration") []) ?_
 simp only[newExc,newTuple]
 refine A6 (n9 (A6 (m:=firstArgMember _ _) (wpAny_of_eq (a:=Value.none) (by first|rfl|(simp only[firstArgMember];rfl)) (n9 ?_ (by size_fits)))) (by size_fits))
 simp only[raiseNew]
 refine A6 (wpAny_handled ?_)
 have hB:A.in1.handled=none:=hA
 rw[hB]
 exact A6 (A7 (wpAny_throw (k _ _ (((k9 ..).extBut.push _).push _) ⟨_,l6 _ rfl,rfl⟩)))
end
theorem qc:NK "tuple_iterator" Heap.IsTuple where
 keep:=λ x k=>let⟨o,a,r⟩:=x;⟨o,k o a,r⟩
 start:=λ x q=>wpAny_pyIter_tuple x q
 item:=λ a b c d=>IC a b c d
 stop:=λ a b c d e=>GP a b c d e
end L5
namespace L2
open PySem PySem.Spec PyProof.Rows
open HT (lexLt cj cP cz cA jO)
open PySem.SeqAt PySem.MeetsSeq PySem.MeetsSeq2 PySem.MeetsSeq3 PySem.SeqRoads2
open PySem.AutoSeq1 (wpAny_loadPart')
theorem jk{vs:List Value}{ns:List Int}(h:IntsAre vs ns){i:Nat}(hi:i < ns.length):∃t,vs[i]?=some (.int ns[i] t):=by
 induction h generalizing i with
 |nil=>simp at hi
 |cons n t h ih=>
  cases i with
  |zero=>exact⟨t,rfl⟩
  |succ i=>obtain⟨t',e⟩:=ih (i:=i) (by simpa using hi);exact⟨t',by simpa using e⟩
theorem Ea(l b:Addr)(xs ys:Array Value)(n k:Nat)(dd ee:Option Addr)(sl tl:Array (Option Value))(ns ms:List Int)(hi:IntsAre xs.toList ns)(hj:IntsAre ys.toList ms)(f:Nat):
  ∀i:Nat,ns.length - i=f->Meets (Builtin.«list.__eq__.loop» ⟨[.ref l,.ref b,rawInt i,rawInt 0],[]⟩)
   (λ A R s=>s.heap.get? l=some {cls:=.type "list",dict:=dd,data:=.seq xs n,slots:=sl}/\s.heap.get? b=some {cls:=.type "list",dict:=ee,data:=.seq ys k,slots:=tl}/\i<=ns.length/\i<=ms.length/\
    R (.ok (.ret (.bool (lexLt (ns.drop i) (ms.drop i))))) s):=by
 have z1:xs.size=ns.length:=by rw[<- hi.length];simp
 have z2:ys.size=ms.length:=by rw[<- hj.length];simp
 induction f with
 |zero=>
  intro i hf prog w A R s h
  obtain⟨hp,g,d,tk,os⟩:=s
  obtain⟨hl,hb,i1,i2,h⟩:=h
  wp_walk using w5 hl,w5 hb
  have e1:xs[((i:Nat):Int).toNat]?=none:=by simp;omega
  have d1:ns.drop i=[]:=by simp;omega
  rw[d1]at h
  rw[e1]
  have fin:R (.ok (.ret (.bool (decide (xs.size < ys.size))))) ⟨hp,g,d,tk,os⟩:=by
   have q:lexLt [] (ms.drop i)=decide (xs.size < ys.size):=by
    cases e:ms.drop i with
    |nil=>
     have:ms.length<=i:=by simpa using e
     rw[cP];exact(v8 (by omega)).symm
    |cons c r=>
     have:i < ms.length:=by
      refine r6 λ z=>?_
      rw[drop_eq_nil_of_le z]at e
      cases e
     rw[cz];exact(y2 (by omega)).symm
   rw[<- q];exact h
  wp_walk using w5 hl,w5 hb
  exact fin
 |succ f ih=>
  intro i hf prog w A R s h
  obtain⟨hp,g,d,tk,os⟩:=s
  obtain⟨hl,hb,i1,i2,h⟩:=h
  have a1:i < ns.length:=by omega
  obtain⟨t,e1⟩:=jk hi a1
  have e1:xs[((i:Nat):Int).toNat]?=some (.int ns[i] t):=by simpa using e1
  by_cases a2:i < ms.length
  ·obtain⟨u,e2⟩:=jk hj a2
   have e2:ys[((i:Nat):Int).toNat]?=some (.int ms[i] u):=by simpa using e2
   rw[g8 a1,g8 a2,cj]at h
   wp_walk using w5 hl,w5 hb
   rw[e1,e2]
   refine A6 (EqAt.int_int ns[i] t ms[i] u prog w _ _ ?_)
   have cc:((i:Int)+1)=((i+1:Nat):Int):=by push_cast;rfl
   by_cases q:ns[i]=ms[i]
   ·rw[B3 q]at h
    have qb:(ns[i]==ms[i])=true:=by simp[q]
    rw[qb]
    wp_walk
    rw[cc]
    exact⟨z6 plain_eq_loop _,x5 entry_eq_loop (by rw[k8 plain_eq_loop _];exact ih (i+1) (by omega) prog w A R _ ⟨hl,hb,by omega,by omega,h⟩)⟩
   ·rw[B4 q]at h
    have qb:(ns[i]==ms[i])=false:=by simp[q]
    rw[qb]
    have rl:=jO A.in1 ⟨hp,g,d,tk,os⟩ ns[i] t ms[i] u prog w
    wp_walk using w5 hl,w5 hb
    rw[e1,e2]
    wp_walk using rl
    exact h
  ·have e2:ys[((i:Nat):Int).toNat]?=none:=by simp;omega
   have d2:ms.drop i=[]:=by simp;omega
   rw[g8 a1,d2,cA]at h
   wp_walk using w5 hl,w5 hb
   rw[e1,e2]
   wp_walk using w5 hl,w5 hb
   have q:decide (xs.size < ys.size)=false:=v8 (by omega)
   show R (.ok (.ret (.bool (decide (xs.size < ys.size))))) _
   rw[q]
   exact h
theorem qk(l b:Addr)(xs ys:Array Value)(n k:Nat)(dd ee:Option Addr)(sl tl:Array (Option Value))(ns ms:List Int)(hi:IntsAre xs.toList ns)(hj:IntsAre ys.toList ms):
  Meets (Builtin.«list.__lt__» ⟨[.ref l,.ref b],[]⟩) (λ A R s=>s.heap.get? l=some {cls:=.type "list",dict:=dd,data:=.seq xs n,slots:=sl}/\s.heap.get? b=some {cls:=.type "list",dict:=ee,data:=.seq ys k,slots:=tl}/\
    R (.ok (.ret (.bool (lexLt ns ms)))) s):=by
 intro prog w A R s h
 obtain⟨hp,g,d,tk,os⟩:=s
 obtain⟨hl,hb,h⟩:=h
 have f3:=AutoSeq1.sub_list_list
 wp_walk using w5 hl,w5 hb
 exact⟨z6 plain_eq_loop _,x5 entry_eq_loop (by rw[k8 plain_eq_loop _];exact Ea l b xs ys n k dd ee sl tl ns ms hi hj _ 0 rfl prog w A R _ ⟨hl,hb,A4 _,A4 _,h⟩)⟩
theorem zV{prog:Program}{w:World}{A:Around}{E:Value->Shared->Prop}{s:Shared}{l b:Addr}{xs ys:Array Value}{ns ms:List Int}{Q:Value->Shared->Prop}(hl:s.heap.IsList l xs)(hb:s.heap.IsList b ys)(hi:IntsAre xs.toList ns)(hj:IntsAre ys.toList ms)
  (hu:A.units < cLine) (h:Q (.bool (lexLt ns ms)) s):wpAny (model prog w) A (compareOp .Lt (.ref l) (.ref b)) Q E s:=by
 obtain⟨⟨c1,dd,da,sl⟩,o1,k1,n,d1⟩:=id hl
 obtain⟨⟨c2,ee,db,tl⟩,o2,k2,m,d2⟩:=id hb
 simp only at k1 d1 k2 d2
 subst k1 d1 k2 d2
 exact richCompare_meets_room (op:=.Lt) ⟨_,o1,rfl⟩ ⟨_,o2,rfl⟩ PySem.F.slot_list_lt PySem.F.entry_list_lt (PySem.F.args_list_lt_2 _ _) (qk l b xs ys n m dd ee sl tl ns ms hi hj)
  ⟨o1,o2,show Value.bool (lexLt ns ms)≠Value.notImplemented/\Q (.bool (lexLt ns ms)) s from⟨(λ x=>nomatch x),h⟩⟩ hu
end L2
namespace L2
open PySem PySem.Spec PyProof.Rows L5
def Sq(b:Bool)(K:PySem.W.Frag)(H:Hp)(a:Addr)(xs:List V):Prop:=match b with
 |true=>ef K H a xs
 |false=>cS K H a xs
def QV(b:Bool):String:=match b with
 |true=>"tuple_iterator"
 |false=>"list_iterator"
def tm(b:Bool):Heap->Addr->Array Value->Prop:=match b with
 |true=>Heap.IsTuple
 |false=>Heap.IsList
theorem zQ:∀b,NK (QV b) (tm b)
 |true=>qc
 |false=>D3
section
variable {X:Cx}{pins:List (Addr×Obj)}{σ:St}{H:Hp}{s:Shared}{a v:Addr}{xs ys:List V}
theorem jF(I:Inv X pins σ H s):∀{b:Bool},Sq b X.K H a xs->∃ah:List Value,Vals xs ah/\tm b s.heap a ah.toArray
 |true,h=>let⟨ah,r,p,_⟩:=I.tuple h;⟨ah,r,p⟩
 |false,h=>let⟨ah,r,p,_⟩:=I.list h;⟨ah,r,p.isList⟩
theorem GQ(I:Inv X pins σ H s):∀{b:Bool},Sq b X.K H a xs->Sq b X.K H a ys->xs=ys
 |true,h,q=>I.lN h q
 |false,h,q=>I.qj h q
theorem ux{u:HO}(h:Rd H a u):∃o,H a=some o:=by
 rcases h with h|⟨o,h⟩
 ·exact⟨_,h⟩
 ·exact⟨_,h⟩
theorem yj:∀{b:Bool} {K:PySem.W.Frag},Sq b K H a xs->(∃o,H a=some o)\/∃o,K.lookup a=some o
 |true,K,h=>by
  rcases h with h|⟨o,ah,n,hk,_⟩
  ·exact .inl (ux h)
  ·exact .inr ⟨o,hk⟩
 |false,K,h=>by
  rcases h with h|⟨o,ah,n,hk,_⟩
  ·exact .inl (ux h)
  ·exact .inr ⟨o,hk⟩
theorem yk(I:Inv X pins σ H s)(f:gu X pins H v){b:Bool}(h:Sq b X.K H a xs):a≠v:=λ e=>by
 subst e
 rcases yj h with⟨o,q⟩|⟨o,q⟩
 ·rw[f.1]at q;cases q
 ·have q:=I.ok.mod.JZ a o q
  rcases f.2.2.2.1 with z|z
  ·exact I.ok.sS a o q z
  ·exact absurd (m8 (z8 q) (A1 I.ok.xR z)) (z0 _)
theorem pB{t':Nat}{ch:List Addr}{h':Heap}(I:Inv X pins σ H s)(k:∀b o,b∉ch->s.heap.get? b=some o->h'.get? b=some o)(hf:∀b∈ch,gu X pins H b):Inv X pins σ H {s with heap:=h',toks:=t'}:=by
 have LH:∀b u,H b=some u->b∉ch:=λ b u e z=>by rw[(hf b z).1]at e;cases e
 refine I.step (g':=s.gens) (d':=s.drawn) (ch:=ch) (λ b hb=>?_) (λ b o _ _ hc e _=>k b o hc e) (λ b o _ _ hc e _=>⟨o.slots,k b o hc e⟩) (λ _ _ _ _ n=>n)
  (λ b o hc e=>⟨o,k b o hc e⟩) (λ _ _ e=>e) (λ _ _ _ e=>e) (λ b ps e=>⟨#[],by rw[e];simp⟩) (λ m hm=>?_) (λ b u e=>?_) I.bare
 ·obtain⟨f0,f1,f2,f3,f4,f5⟩:=hf b hb
  exact⟨f3,f1,f4,f5⟩
 ·obtain⟨o,es,ep,ho,r⟩:=hm
  exact⟨o,es,ep,k _ o (λ z=>(hf _ z).2.1 rfl) ho,r⟩
 ·refine(I.aL b u e).dr (λ c v hc q=>k c v ?_ q) (λ _ q=>q) λ _ _ q=>q
  rcases hc with z|z
  ·rw[z];exact LH b u e
  ·exact LH c _ z
end
end L2
namespace L5
open PySem PySem.W PySem.Calls PyProof.Rows
section
variable {prog:Program}{w:World}{A:Around}{E:Value->Shared->Prop}{s:Shared}
theorem FR{α:Type}{n:Nat}{lt:Nat->Nat->Bool}{κ:SortKind}{ks:List Value}{Q:α->Shared->Prop}(hc:∀i j C,i < n->j < n->C (lt i j) s->wpAny (model prog w) A (keyLt' κ (ks.getD i Value.none) (ks.getD j Value.none)) C (λ _ _=>False) s):
  ∀(t:KasT α),kw n lt t (λ a=>Q a s)->t.kasWp (kas_ask prog w A κ ks) Q s
 | .ret a,h=>h
 | .ask i j k,h=>hc i j _ h.1 h.2.1 (FR hc (k (lt i j)) h.2.2)
def Out{α:Type}(lt:Nat->Nat->Bool)(vs:List α)(d:α)(out:List α):Prop:=∃p:Array Nat,Pm vs.length p/\Up lt p vs.length/\out=p.toList.map λ i=>vs.getD i d
theorem DF{α:Type}{lt:Nat->Nat->Bool}(O:Ord lt){vs:List α}(d:α)(h:vs.length < 2):Out lt vs d vs:=by
 refine⟨List.toArray (List.range vs.length),Array.Perm.refl _,λ i j ou hj=>?_,?_⟩
 ·have:i=j:=by omega
  subst this
  exact O.refl _
 ·match vs,h with
  |[],_=>rfl
  |[v],_=>rfl
theorem uV{a kS:Addr}{e e1:Nat}{ks out:List Value}{st:SortSt}{P:PySem.Fin->Shared->Prop}(hk:s.heap.get? kS=some (seqObj "list" (List.toArray ks) e))(ha:s.heap.get? a=some (seqObj "list" #[] e1))(eR:a≠kS)(U':ks.length < 64)(U7:out.length < 64)
  (ho:(arrOf st).map (·.2)=List.toArray out) (hf:failedOf st=none)
  (h:∀h' c,h'.get? a=some (seqObj "list" (List.toArray out) c)->(∀b o,b≠a->b≠kS->s.heap.get? b=some o->h'.get? b=some o)->P (.done (.ret .none)) {s with heap:=h'}):wpAny (model prog w) A (ksk_tail a false e1 (.ref kS) st) P E s:=by
 unfold ksk_tail
 try dsimp only
 rw[ho]
 have s1:=k9 s.heap kS (Obj.mapSeq λ _=>(#[]:Array Value))
 have a1:(s.heap.update kS (Obj.mapSeq λ _=>(#[]:Array Value))).get? a=some (seqObj "list" #[] e1):=(s1.2 a eR).trans ha
 have s2:=k9 (s.heap.update kS (Obj.mapSeq λ _=>(#[]:Array Value))) a (Obj.mapSeq λ _=>List.toArray out)
 refine A6 (listUpdate_at hk rfl (A6 (wpAny_letGo (A6 (seqEpoch_at a1 rfl (A6 (listUpdate_at a1 rfl ?_ (A4 _) ?_)))))) (by rw[p7,A3];omega) (A4 _))
 ·rw[hf]
  simp only[bne_self_eq_false,m5,B0]
  exact A7 (h _ _ (get?_update_seq a1 λ _=>List.toArray out) λ b o b1 b2 q=>(s2.2 b b1).trans ((s1.2 b b2).trans q))
 ·simp only[m5,B0]
  rw[p7,A3];omega
theorem IJ{a kS:Addr}{e e1:Nat}{ks vs:List Value}{κ:SortKind}{lt:Nat->Nat->Bool}{P:PySem.Fin->Shared->Prop}(O:Ord lt)(hl:ks.length=vs.length)(qE:vs.length < 64)(hk:s.heap.get? kS=some (seqObj "list" (List.toArray ks) e))(ha:s.heap.get? a=some (seqObj "list" #[] e1))(eR:a≠kS)
  (AB:2<=vs.length->∀C:SortKind->Shared->Prop,C κ s->wpAny (model prog w) A (keyKind' (List.toArray ks)) C E s)
  (hc:2<=vs.length->∀i j C,i < vs.length->j < vs.length->C (lt i j) s->wpAny (model prog w) A (keyLt' κ (ks.getD i Value.none) (ks.getD j Value.none)) C (λ _ _=>False) s)
  (h:∀out h' c,Out lt vs Value.none out->h'.get? a=some (seqObj "list" (List.toArray out) c)->(∀b o,b≠a->b≠kS->s.heap.get? b=some o->h'.get? b=some o)->P (.done (.ret .none)) {s with heap:=h'}):
  wpAny (model prog w) A (ksk_end a false vs.toArray e1 (.ref kS) (List.toArray ks)) P E s:=by
 unfold ksk_end
 try dsimp only
 simp only[m5,B0]
 by_cases h2:vs.length < 2
 ·have z2:vs.toArray.size < 2:=by rw[p7];exact h2
  rw[B3 z2,B3 z2]
  refine A6 (A7 (A6 ?_))
  rw[StateT.run_pure]
  refine A7 ?_
  refine uV hk ha eR (by omega) qE (st:=SortSt.mk' general' ((List.toArray ks).zip vs.toArray) #[] 7 none) ?_ rfl λ h' c a1 a2=>h vs h' c (DF O _ h2) a1 a2
  show((List.toArray ks).zip vs.toArray).map (·.2)=_
  apply Array.toList_inj.mp
  simp
  exact map_snd_zip (by omega)
 ·have z2:¬vs.toArray.size < 2:=by rw[p7];exact h2
  rw[B4 z2,B4 z2]
  refine A6 (AB (by omega) _ ?_)
  refine A6 (A9 (kat_run (Q:=λ nk s'=>s'=s/\∃p:Array Nat,p.size=vs.length/\arrOf nk=p.map (kas_item ((List.toArray ks).zip vs.toArray))/\failedOf nk=none/\Pm vs.length p/\Up lt p vs.length)
   (G:=λ p s'=>s'=s/\Pm vs.length p/\Up lt p vs.length) hl (by omega) qE (λ p nk s' a1 a2 a3 a4=>⟨a4.1,p,a1,a2,a3,a4.2⟩) (FR (hc (by omega)) _ (Eg O (by omega) λ p p1 p2=>⟨rfl,p1,p2⟩))) ?_ λ _ _ x=>x)
  rintro⟨⟨⟩,nk⟩ s' ⟨rfl,p,hp,Tp,hf,p1,p2⟩
  try dsimp only
  refine uV hk ha eR (by omega) ?_ (kat_snds hl Tp) hf λ h' c a1 a2=>h _ h' c ⟨p,p1,p2,rfl⟩ a1 a2
  rw[x8,l5,hp]
  exact qE
theorem uW{kS q:Addr}{body:Value->PUnit->Sem (ForInStep PUnit)}{J:List Value->Nat->Shared->Prop}{vs:List Value}
  (hb:∀x ks e (s:Shared),J ks e s->vs[ks.length]?=some x->wpAny (model prog w) A (body x ⟨⟩) (λ r s'=>r=.yield ⟨⟩/\∃k c,J (ks++[k]) c s') E s):∀(r ks:List Value) (e:Nat) (s:Shared),vs.drop ks.length=r->ks.length<=vs.length->J ks e s->
   wpAny (model prog w) A (forIn r PUnit.unit body) (λ _ s'=>∃ks e,ks.length=vs.length/\J ks e s') E s
 |[],ks,e,s,hr,hl,h=>by
  rw[forIn_nil]
  exact A7 ⟨ks,e,y1 hl (by simpa using hr),h⟩
 |x::r,ks,e,s,hr,hl,h=>by
  rw[forIn_cons]
  have fX:ks.length < vs.length:=by
   refine r6 λ z=>?_
   rw[drop_eq_nil_of_le z]at hr
   cases hr
  rw[g8 fX]at hr
  injection hr with e1 e2
  refine A6 (A9 (hb x ks e s h (by rw[i5 fX,e1])) (λ y s' hy=>?_) λ _ _ z=>z)
  obtain⟨rfl,k,c,h2⟩:=hy
  exact uW (kS:=kS) (q:=q) hb r (ks++[k]) c s' (by rw[l9,j6];exact e2) (by rw[l9,j6];omega) h2
theorem Eh{a kS q:Addr}{e1:Nat}{vs:List Value}{P:PySem.Fin->Shared->Prop}{J:List Value->Nat->Shared->Prop}(qE:vs.length < 64)(hJ:∀ks e s,J ks e s->s.heap.get? kS=some (seqObj "list" (List.toArray ks) e)/\ks.length<=vs.length)
  (Mr:∀x ks e (s:Shared),J ks e s->vs[ks.length]?=some x->wpAny (model prog w) A (call (.ref q) [x]) (λ k s'=>s'.heap.get? kS=some (seqObj "list" (List.toArray ks) e)/\∀h' c,h'.get? kS=some (seqObj "list" (List.toArray (ks++[k])) c)->Heap.SameBut kS s'.heap h'->J (ks++[k]) c {s' with heap:=h'}) (λ _ _=>False) s)
  (h0:J [] 0 s) (PM:∀ks e s,J ks e s->ks.length=vs.length->wpAny (model prog w) A (ksk_end a false vs.toArray e1 (.ref kS) (List.toArray ks)) P E s):wpAny (model prog w) A (ksk_rest a (.ref q) false vs.toArray e1 (.ref kS)) P E s:=by
 unfold ksk_rest
 refine A6 (wpAny_rule ?_)
 first
  |rw[List.forIn_toArray]
  |(rw[<- Array.forIn_toList];simp only[List.toList_toArray])
  |rw[<- Array.forIn_toList]
 refine A6 (A9 (uW (kS:=kS) (q:=q) (J:=J) (vs:=vs) (λ x ks e s' hj hx=>?_) vs [] 0 s rfl (A4 _) h0) (λ _ s' hd=>?_) λ _ _ x=>x)
 ·refine A6 (y8 (A9 (Mr x ks e s' hj hx) (λ k KO hk=>?_) λ _ _ hF=>hF.elim))
  obtain⟨k1,k2⟩:=hk
  have hz:=(hJ ks e s' hj).2
  have s1:=k9 KO.heap kS (Obj.mapSeq (·.push k))
  have ea:(List.toArray ks).push k=List.toArray (ks++[k]):=by simp
  try dsimp only
  refine A6 (listUpdate_at k1 rfl (A7 ⟨rfl,k,_,k2 _ _ (by rw[<- ea];exact get?_update_seq k1 (·.push k)) s1⟩) (by rw[p7,A3];omega) (A1 (Nat.le_of_eq (Array.size_push ..)) (by rw[p7,A3];omega)))
 ·obtain⟨ks,e,hl,hj⟩:=hd
  try dsimp only
  exact A6 (listItems_at (hJ ks e s' hj).1 rfl (PM ks e s' hj hl))
end
end L5
namespace L2
open PySem PySem.Spec PyProof.Rows L5 PySem.W
open HT (lexLt cj cP cz cA)
theorem du{h:Heap}:∀{vs:List Value} {ns:List Int},IntsAre vs ns->ReadsAll h vs (ns.map PyData.int) []
 |_,_,.nil=>ReadsAll.nil
 |_,_,.cons n t r=>ReadsAll.cons (Reads.int n t) (du r)
abbrev Ky:=Int×List Int
def klt(a b:Ky):Bool:=if a.1=b.1 then lexLt a.2 b.2 else decide (a.1 < b.1)
theorem uR:∀a:List Int,lexLt a a=false
 |[]=>rfl
 |x::a=>by rw[cj,B3 rfl];exact uR a
theorem ql:∀a b:List Int,lexLt a b=true->lexLt b a=false
 |[],[],h=>by cases h
 |[],_::_,_=>rfl
 |_::_,[],h=>by cases h
 |x::a,y::b,h=>by
  rw[cj]at h ⊢
  by_cases e:x=y
  ·rw[B3 e]at h
   rw[B3 e.symm]
   exact ql a b h
  ·rw[B4 e]at h
   rw[B4 (B2 e)]
   have:=of_decide_eq_true h
   exact v8 (by omega)
set_option tactic.hygienic true in
theorem zW:∀a b c:List Int,lexLt a b=false->lexLt b c=false->lexLt a c=false
 |_,_::_,[],_,_=>by rename_i a _ _ _ _;cases a <;> rfl
 |[],[],c,_,h=>h
 |_::_,[],[],_,_=>rfl
 |_::_,[],_::_,_,h=>by cases h
 |[],_::_,_::_,h,_=>by cases h
 |x::a,y::b,z::c,h,g=>by
  rw[cj]at h g ⊢
  by_cases e:x=y
  ·rw[B3 e]at h
   subst e
   by_cases e2:x=z
   ·rw[B3 e2]at g ⊢
    exact zW a b c h g
   ·rw[B4 e2]at g ⊢
    exact g
  ·rw[B4 e]at h
   have h:=of_decide_eq_false h
   by_cases e2:y=z
   ·subst e2
    rw[B4 e]
    exact v8 h
   ·rw[B4 e2]at g
    have g:=of_decide_eq_false g
    have:x≠z:=by omega
    rw[B4 this]
    exact v8 (by omega)
theorem Aa(a b:Ky)(h:klt a b=true):klt b a=false:=by
 unfold klt at h ⊢
 by_cases e:a.1=b.1
 ·rw[B3 e]at h
  rw[B3 e.symm]
  exact ql _ _ h
 ·rw[B4 e]at h
  rw[B4 (B2 e)]
  have:=of_decide_eq_true h
  exact v8 (by omega)
theorem IL(a b c:Ky)(h:klt a b=false)(g:klt b c=false):klt a c=false:=by
 unfold klt at h g ⊢
 by_cases e:a.1=b.1
 ·rw[B3 e]at h
  by_cases e2:b.1=c.1
  ·rw[B3 e2]at g
   rw[B3 (e.trans e2)]
   exact zW _ _ _ h g
  ·rw[B4 e2]at g
   rw[B4 (by rw[e];exact e2),e]
   exact g
 ·rw[B4 e]at h
  have h:=of_decide_eq_false h
  by_cases e2:b.1=c.1
  ·rw[B4 (by rw[<- e2];exact e),<- e2]
   exact v8 h
  ·rw[B4 e2]at g
   have g:=of_decide_eq_false g
   have:a.1≠c.1:=by omega
   rw[B4 this]
   exact v8 (by omega)
theorem Ei(key:Nat->Ky):Ord λ i j=>klt (key i) (key j):=⟨λ a b h=>Aa _ _ h,λ a b c h g=>IL _ _ _ h g⟩
def kN(K:PySem.W.Frag)(b:Bool)(H:Hp)(k:V)(c:Ky):Prop:=∃t m,k=.ref t/\ef K H t [.int c.1,.ref m]/\Sq b K H m (c.2.map V.int)
section
variable {X:Cx}{pins:List (Addr×Obj)}{σ:St}{H:Hp}{s:Shared}
theorem nU(I:Inv X pins σ H s){b:Bool}{k:V}{c:Ky}{u:Value}(h:kN X.K b H k c)(r:RelV k u):∃(t m:Addr) (o:Obj) (tk:Tok) (n:Nat) (ah:List Value),u=.ref t/\s.heap.get? t=some o/\o.cls=.type "tuple"/\o.data=.seq #[.int c.1 tk,.ref m] n/\tm b s.heap m ah.toArray/\IntsAre ah c.2:=by
 obtain⟨t,m,rfl,h1,h2⟩:=h
 cases(show u=Value.ref t from r)
 obtain⟨ah,r1,⟨o,ho,hc,n,hd⟩,_⟩:=I.tuple h1
 obtain⟨u1,u2,rfl,⟨tk,rfl⟩,q2⟩:=vals2 r1
 cases(show u2=Value.ref m from q2)
 obtain⟨Sr,r2,p2⟩:=jF I h2
 exact⟨t,m,o,tk,n,Sr,rfl,ho,hc,hd,p2,intsAre_of r2⟩
theorem ES{A:Around}{b:Bool}{m m':Addr}{xs ys:List Value}{ns ms:List Int}(h1:tm b s.heap m xs.toArray)(h2:tm b s.heap m' ys.toArray)(i1:IntsAre xs ns)(i2:IntsAre ys ms)(hu:A.units+1 < cLine):SeqAt.EqAt A s (.ref m) (.ref m') (decide (ns=ms)):=by
 have dp:∀l:List Int,PyData.depthAll (l.map PyData.int)=0:=λ l=>ke_depthAll l
 cases b with
 |true=>
  obtain⟨o,ho,hc,n,hd⟩:=h1
  obtain⟨o',oq,xa,n',fQ⟩:=h2
  have q:=p8 (.tuple (ns.map .int)) (.tuple (ms.map .int)) A s (.ref m) (.ref m') _ _ (reads_tuple_at ho hc hd (du i1)) (reads_tuple_at oq xa fQ (du i2)) (by simp[PyData.canLay0,ke_canLayAll0]) (by simp[PyData.canLay0,ke_canLayAll0]) (by simp[PyData.depth,dp];omega)
  rw[show PyData.eqv (.tuple (ns.map .int)) (.tuple (ms.map .int))=decide (ns=ms) by simp only[PyData.eqv];exact ked_eqvAll ns ms]at q
  exact q
 |false=>
  obtain⟨o,ho,hc,n,hd⟩:=h1
  obtain⟨o',oq,xa,n',fQ⟩:=h2
  have q:=p8 (.list (ns.map .int)) (.list (ms.map .int)) A s (.ref m) (.ref m') _ _ (reads_list_at ho hc hd (du i1)) (reads_list_at oq xa fQ (du i2)) (by simp[PyData.canLay0,ke_canLayAll0]) (by simp[PyData.canLay0,ke_canLayAll0]) (by simp[PyData.depth,dp];omega)
  rw[show PyData.eqv (.list (ns.map .int)) (.list (ms.map .int))=decide (ns=ms) by simp only[PyData.eqv];exact ked_eqvAll ns ms]at q
  exact q
theorem Eb{prog:Program}{w:World}{A:Around}{E:Value->Shared->Prop}{b:Bool}{m m':Addr}{xs ys:List Value}{ns ms:List Int}{Q:Value->Shared->Prop}(h1:tm b s.heap m xs.toArray)(h2:tm b s.heap m' ys.toArray)(i1:IntsAre xs ns)(i2:IntsAre ys ms)(hu:A.units < cLine)
  (h:Q (.bool (lexLt ns ms)) s):wpAny (model prog w) A (compareOp .Lt (.ref m) (.ref m')) Q E s:=by
 cases b with
 |true=>exact HT.sZ (show IsTup s.heap m xs.toArray from h1) (show IsTup s.heap m' ys.toArray from h2) i1 i2 hu h
 |false=>exact zV h1 h2 i1 i2 hu h
theorem IQ{A:Around}(I:Inv X pins σ H s)(hu:A.units+1 < cLine){b:Bool}{k k':V}{c c':Ky}{u u':Value}(h:kN X.K b H k c)(h':kN X.K b H k' c')(r:RelV k u)(r':RelV k' u'){C:Bool->Shared->Prop}(hC:C (klt c c') s):
  wpAny (model X.prog X.w) A (keyLt' (tuples' true) u u') C (λ _ _=>False) s:=by
 obtain⟨t,m,o,tk,n,ah,rfl,ho,_,hd,hm,hi⟩:=nU I h r
 obtain⟨t',m',o',uh,n',its',rfl,oq,_,fQ,cW,Mk⟩:=nU I h' r'
 refine kat_lt ho hd oq fQ (kat_cons (SeqAt.EqAt.int_int c.1 tk c'.1 uh X.prog X.w _ _ ?_))
 unfold klt at hC
 by_cases e:c.1=c'.1
 ·rw[B3 e]at hC
  rw[show(c.1==c'.1)=true by simp[e]]
  refine kat_yes (kat_cons (ES hm cW hi Mk hu X.prog X.w _ _ ?_))
  by_cases e2:c.2=c'.2
  ·rw[y2 e2]
   rw[e2,uR]at hC
   exact kat_yes (kat_nil hC)
  ·rw[v8 e2]
   exact kat_no (kat_one _ _ (Eb hm cW hi Mk (by omega) hC))
 ·rw[B4 e]at hC
  rw[show(c.1==c'.1)=false by simp[e]]
  exact kat_no (oneLt_int hC)
theorem qp(I:Inv X pins σ H s){b:Bool}:∀{kvs:List V} {ks:List Value} {key:Nat->Ky},Vals kvs ks->(∀i k,kvs[i]?=some k->kN X.K b H k (key i))->∃fs,KatTups s.heap ks fs/\fs.length=ks.length/\∀v∈fs,∃i t,v=Value.int i t
 |_,_,_,.nil,_=>⟨[],KatTups.nil,rfl,λ v hv=>by cases hv⟩
 |_,_,key,.cons (a:=k) r rr,h=>by
  obtain⟨fs,h1,h2,h3⟩:=qp I rr (key:=λ i=>key (i+1)) λ i k hk=>h (i+1) k (by simpa using hk)
  obtain⟨t,m,o,tk,n,ah,rfl,ho,hc,hd,_,_⟩:=nU I (h 0 _ rfl) r
  refine⟨.int (key 0).1 tk::fs,KatTups.cons ho hc hd rfl h1,by simp[h2],λ v hv=>?_⟩
  rcases z5.mp hv with rfl|hv
  ·exact⟨_,_,rfl⟩
  ·exact h3 v hv
theorem yc{ys:List V}{ah:List Value}(r:Vals ys ah)(p:List Nat):Vals (p.map λ i=>ys.getD i V.a_) (p.map λ i=>ah.getD i Value.none):=by
 induction p with
 |nil=>exact .nil
 |cons i p ih=>
  refine .cons ?_ ih
  show RelV (ys.getD i V.a_) (ah.getD i Value.none)
  cases e:ys[i]? with
  |none=>
   have e2:=r.none_of e
   rw[c7,c7,e,e2]
   rfl
  |some y=>
   obtain⟨u,hu,ru⟩:=r.get e
   rw[c7,c7,e,hu]
   exact ru
variable {k:Nat}{q:Addr}{fd:FuncData}{ps:List Str}{sp:Sp}
end
end L2
namespace L5
open PySem
theorem B8:fillsNumberSlot (.type "tuple") "mul"=pure false:=fillsNumberSlot_seq (id:="tuple.__mul__") (r:=some (.builtin "tuple.__rmul__")) F.slot_tuple_mul.lookup (by decide+kernel) F.slot_tuple_rmul.lookup (by decide+kernel)
theorem GC:seqRepeat? (.type "tuple")=pure (some (.builtin "tuple.__mul__")):=by
 unfold seqRepeat?
 rw[seqSlot_of (T:="tuple") (name:="__mul__") (id:="tuple.__mul__") F.slot_tuple_mul.lookup (by decide+kernel),seqSlot_of (T:="tuple") (name:="__rmul__") (id:="tuple.__rmul__") F.slot_tuple_rmul.lookup (by decide+kernel)]
 rfl
theorem GF(a:Int)(t:Tok)(l:Addr)(ah:Array Value)(n:Nat)(dd:Option Addr)(sl:Array (Option Value)):Meets (Builtin.«int.__rmul__» ⟨[.int a t,.ref l],[]⟩) (λ _ R s=>s.heap.get? l=some {cls:=.type "tuple",dict:=dd,data:=.seq ah n,slots:=sl}/\R (.ok (.ret Value.notImplemented)) s):=
 .of_wp λ prog w A R s h=>by
  obtain⟨hp,g,d,tk,os⟩:=s
  obtain⟨hl,h⟩:=h
  wp_walk
  exact⟨_,rfl,h⟩
theorem GD(l:Addr)(ah:Array Value)(n:Nat)(dd:Option Addr)(sl:Array (Option Value))(u:Tok):Meets (Builtin.«tuple.__mul__» ⟨[.ref l,.int 1 u],[]⟩) (λ _ R s=>s.heap.get? l=some {cls:=.type "tuple",dict:=dd,data:=.seq ah n,slots:=sl}/\R (.ok (.ret (.ref l))) s):=
 .of_wp λ prog w A R s h=>by
  obtain⟨hp,g,d,tk,os⟩:=s
  obtain⟨hl,h⟩:=h
  wp_walk
  exact⟨_,rfl,h⟩
theorem B7(l:Addr)(ah:Array Value)(n:Nat)(dd:Option Addr)(sl:Array (Option Value))(x:Int)(u:Tok)(hx:x≠1)(h1: -(2^63)<=x)(h2:x < 2^63)(hi:ah.isEmpty=false)(hz:ah.size*x.toNat<=sizeLine):
  Meets (Builtin.«tuple.__mul__» ⟨[.ref l,.int x u],[]⟩) (λ _ R s=>s.heap.get? l=some {cls:=.type "tuple",dict:=dd,data:=.seq ah n,slots:=sl}/\
   R (.ok (.ret (.ref s.heap.objs.size))) {s with heap:=s.heap.push {cls:=.type "tuple",data:=.seq ((List.replicate x.toNat ah).foldl (·++·) #[])}}):=
 .of_wp λ prog w A R s h=>by
  obtain⟨hp,g,d,tk,os⟩:=s
  obtain⟨hl,h⟩:=h
  wp_walk
  rw[B4 (by simp;omega)]
  wp_walk
  by_cases NH:x<=0
  ·rw[B3 (by simp[NH])]
   wp_walk
   have e:x.toNat=0:=by omega
   rw[e]at h
   exact⟨_,rfl,h⟩
  ·rw[B4 (by simp[hi];omega)]
   have ez:((ah.size:Int)*x)=((ah.size*x.toNat:Nat):Int):=by
    rw[Int.natCast_mul,Int.toNat_of_nonneg (by omega)]
   have Pb:=hz
   rw[A3]at Pb
   rw[B4 (by rw[ez];omega)]
   wp_walk
   rw[B4 (by unfold Builtin.Tuple.tupleTooMany;rw[ez,n5,A3];omega)]
   have hsz:(List.foldl (λ x1 x2=>x1++x2) #[] (List.replicate x.toNat ah)).size<=sizeLine:=by
    have f0:∀(m:Nat) (acc:Array Value),(List.foldl (λ x1 x2=>x1++x2) acc (List.replicate m ah)).size=acc.size+m*ah.size:=by
     intro m
     induction m with
     |zero=>intro acc;simp
     |succ m ih=>intro acc;rw[l4,foldl_cons,ih,Array.size_append,Nat.succ_mul];omega
    rw[f0,Nat.mul_comm]
    simpa using hz
   wp_walk
   exact⟨_,rfl,h⟩
end L5
namespace L2
open PySem PySem.Spec PyProof.Rows L5
section
variable {X:Cx}
theorem uj(ns:List Int):∀n,n<=ns.length->preSum (λ i=>ns.getD i 0) n=(ns.take n).sum
 |0,_=>by simp[preSum]
 |n+1,h=>by
  have hn:n < ns.length:=by omega
  rw[preSum,uj ns n (by omega),take_succ_eq_append_getElem hn,sum_append]
  simp[c7,hn]
theorem lA(hc:X.calm=true):b_ X (.builtin "sum") (λ xs H Q=>∃(b:Bool) (p:Addr) (ns:List Int),xs=[.ref p]/\Sq b X.K H p (ns.map V.int)/\Q (.int ns.sum) H):=by
 intro pins s σ H xs us Q I r h
 obtain⟨b,p,ns,rfl,hq,q⟩:=h
 obtain⟨u,rfl,r1⟩:=vals1 r
 cases r1
 obtain⟨ah,rv,pl⟩:=jF I hq
 have hi:IntsAre ah ns:=intsAre_of rv
 have hlen:ah.length=ns.length:=by rw[<- rv.length,x8]
 have hA:X.A.in1.handled=none:=I.ok.hd hc
 have hv:∀i v,ah.toArray[i]?=some v->∃t,v=Value.int (ns.getD i 0) t:=λ i v e=>by
  have e:ah[i]?=some v:=by simpa using e
  have h1:i < ns.length:=by rw[<- hlen];exact(g9.mp e).1
  obtain⟨t,e2⟩:=jk hi h1
  rw[e]at e2
  cases e2
  exact⟨t,by simp[c7,h1]⟩
 have ht:preSum (λ i=>ns.getD i 0) ah.toArray.size=ns.sum:=by
  rw[p7,hlen,uj ns _ (A2 _),r9]
 cases b with
 |false=>
  have pl:s.heap.IsList p ah.toArray:=pl
  have eR:p≠s.heap.objs.size:=by
   obtain⟨o,e,_⟩:=pl
   exact z7 (z8 e)
  refine call_sum_walkG (o9 pl ⟨s.heap.objs.size,_,_,_,_,_,λ i=>ns.getD i 0,rfl,Walks.list hA s.heap.objs.size p eR ah.toArray,⟨⟨_,l6 _ rfl,rfl,rfl⟩,pl.at λ o e=>j2 _ e⟩,?_,hv,λ h' tk t' hk=>?_⟩)
  ·intro b hb
   have:s.heap.objs.size < (s.heap.push {cls:=.type "list_iterator",data:=.fields #[.ref p,.int 0 0]}).objs.size:=by rw[y4];omega
   obtain⟨o,e,_⟩:=pl
   have h2:=z8 e
   simp at hb
   rcases hb with rfl|rfl
   ·exact this
   ·exact Nat.lt_trans h2 this
  ·rw[ht]
   exact⟨.int ns.sum,H,I.kept (t':=tk) λ b o e=>hk b o (by simpa using z7 (z8 e)) (j2 _ e),⟨_,rfl⟩,q⟩
 |true=>
  have pl:s.heap.IsTuple p ah.toArray:=pl
  have eR:p≠s.heap.objs.size:=by
   obtain⟨o,e,_⟩:=pl
   exact z7 (z8 e)
  refine call_sum_walkG (wpAny_pyIter_tuple pl ⟨s.heap.objs.size,_,_,_,_,_,λ i=>ns.getD i 0,rfl,Walks.tuple hA s.heap.objs.size p eR ah.toArray,⟨⟨_,l6 _ rfl,rfl,rfl⟩,qc.keep pl λ o e=>j2 _ e⟩,?_,hv,λ h' tk t' hk=>?_⟩)
  ·intro b hb
   have:s.heap.objs.size < (s.heap.push {cls:=.type "tuple_iterator",data:=.fields #[.ref p,.int 0 0]}).objs.size:=by rw[y4];omega
   obtain⟨o,e,_⟩:=pl
   have h2:=z8 e
   simp at hb
   rcases hb with rfl|rfl
   ·exact this
   ·exact Nat.lt_trans h2 this
  ·rw[ht]
   exact⟨.int ns.sum,H,I.kept (t':=tk) λ b o e=>hk b o (by simpa using z7 (z8 e)) (j2 _ e),⟨_,rfl⟩,q⟩
theorem DJ:eo X (binaryOp .Mult) (λ x y H Q=>∃l k xs,x=.ref l/\y=.int k/\ef X.K H l xs/\xs≠[]/\-(2^63)<=k/\k < 2^63/\xs.length*k.toNat<=sizeLine/\(k=1->Q (.ref l) H)/\(k≠1->∀p,H p=none->Q (.ref p) (upd H p (.tup (List.replicate k.toNat xs).flatten)))):=by
 intro pins s σ H x y v u Q I rx ry h
 obtain⟨l,k,xs,rfl,rfl,hH,eR,h1,h2,hz,q1,q2⟩:=h
 cases rx
 obtain⟨t,rfl⟩:=ry
 obtain⟨ah,r,⟨⟨c,dd,da,sl⟩,e,hc,n,hd⟩,_⟩:=I.tuple hH
 have hl:=r.length
 cases(show c=.type "tuple" from hc)
 cases(show da=.seq ah.toArray n from hd)
 refine wpAny_binaryOp_repeat_ref (T:="tuple") (U:="int") (by decide) ⟨_,e,rfl⟩ (λ s'=>typeIs_int s' k t) B8 F.fills_int_mul F.slot_int_rmul GC F.slot_int_index.lookup
  (A8 F.slot_int_rmul (typeIs_int s k t) F.entry_int_rmul (F.args_int_rmul_2 _ _) (GF k t l ah.toArray n dd sl) ⟨e,rfl,⟨_,e,rfl⟩,?_⟩)
 by_cases hk:k=1
 ·subst hk
  exact A8 F.slot_tuple_mul ⟨_,e,rfl⟩ F.entry_tuple_mul (F.args_tuple_mul_2 _ _) (GD l ah.toArray n dd sl t) ⟨e,.ref l,H,I,rfl,q1 rfl⟩
 ·refine A8 F.slot_tuple_mul ⟨_,e,rfl⟩ F.entry_tuple_mul (F.args_tuple_mul_2 _ _) (B7 l ah.toArray n dd sl k t hk h1 h2 ?_ (by rw[p7,<- hl];exact hz)) ⟨e,?_⟩
  ·cases ah with
   |nil=>cases r;exact absurd rfl eR
   |cons a b=>rfl
  ·have Jf:List.foldl (λ x1 x2=>x1++x2) #[] (List.replicate k.toNat ah.toArray)=(List.replicate k.toNat ah).flatten.toArray:=by
    have:=foldl_rep ah k.toNat []
    rw[nil_append]at this
    exact this
   rw[Jf]
   have fr:=I.fresh
   refine⟨.ref s.heap.objs.size,_,I.laid (t':=s.toks) (o:=.tup (List.replicate k.toNat xs).flatten) (λ b o e=>j2 _ e) (A2 _) ⟨?_,_,r.rep k.toNat,⟨_,l6 _ rfl,rfl,_,rfl⟩⟩,rfl,q2 hk _ fr⟩
   rw[len_rep,Nat.mul_comm]
   exact hz
end
end L2
namespace L3
open PySem PySem.Spec L2 L5 PyProof.Rows
mutual
def toP:D->PyData
 | .a_=>.none
 | .bl b=>.bool b
 | .int i=>.int i
 | .str x=>.str x
 | .ty _=>.none
 | .ref _=>.none
 | .tup ds=>.tuple (toPs ds)
 | .fl ds=>.list (toPs ds)
def toPs:List D->List PyData
 |[]=>[]
 |d::ds=>toP d::toPs ds
end
mutual
def nr:D->Bool
 | .a_=>true
 | .bl _=>true
 | .int _=>true
 | .str _=>true
 | .ty _=>false
 | .ref _=>false
 | .tup ds=>nP ds
 | .fl ds=>nP ds
def nP:List D->Bool
 |[]=>true
 |d::ds=>nr d&&nP ds
end
section
variable {X:Cx}{pins:List (Addr×Obj)}{σ:L2.St}{H:Hp}{s:Shared}
mutual
theorem Nw(I:Inv X pins σ H s):∀(d:D) {x:V} {u:Value},nr d=true->Dat X.K H d x->RelV x u->∃as,Reads s.heap u (toP d) as
 | .a_,x,u,_,h,r=>by cases(cQ.mp h);cases r;unfold toP;exact⟨_,Reads.none⟩
 | .bl b,x,u,_,h,r=>by cases(aN.mp h);cases r;unfold toP;exact⟨_,Reads.bool b⟩
 | .int i,x,u,_,h,r=>by cases(aq.mp h);obtain⟨t,rfl⟩:=r;unfold toP;exact⟨_,Reads.int i t⟩
 | .str z,x,u,_,h,r=>by cases(aG.mp h);obtain⟨t,rfl⟩:=r;unfold toP;exact⟨_,Reads.str z t⟩
 | .ty _,x,u,n,h,r=>by unfold nr at n;cases n
 | .ref _,x,u,n,h,r=>by unfold nr at n;cases n
 | .tup ds,x,u,n,h,r=>by
  unfold nr at n
  obtain⟨p,xs,rfl,hq,hd⟩:=aE.mp h
  cases(show u=Value.ref p from r)
  obtain⟨ah,rv,⟨o,ho,hc,m,oy⟩,_⟩:=I.tuple hq
  obtain⟨as,ra⟩:=sy I ds n hd rv
  unfold toP
  exact⟨_,reads_tuple_at ho hc oy ra⟩
 | .fl ds,x,u,n,h,r=>by
  unfold nr at n
  obtain⟨p,xs,rfl,hq,hd⟩:=gj.mp h
  cases(show u=Value.ref p from r)
  obtain⟨ah,rv,pl,_⟩:=I.list hq.sq
  obtain⟨o,ho,hc,m,oy⟩:=pl.isList
  obtain⟨as,ra⟩:=sy I ds n hd rv
  unfold toP
  exact⟨_,reads_list_at ho hc oy ra⟩
theorem sy(I:Inv X pins σ H s):∀(ds:List D) {xs:List V} {us:List Value},nP ds=true->az X.K H ds xs->Vals xs us->∃as,ReadsAll s.heap us (toPs ds) as
 |[],xs,us,_,h,r=>by cases(ao.mp h);cases r;unfold toPs;exact⟨_,ReadsAll.nil⟩
 |d::ds,xs,us,n,h,r=>by
  unfold nP at n
  rw[u4]at n
  obtain⟨x,Gq,rfl,h1,h2⟩:=af.mp h
  cases r with
  |cons r1 r2=>
   obtain⟨as,a⟩:=Nw I d n.1 h1 r1
   obtain⟨bs,b⟩:=sy I ds n.2 h2 r2
   unfold toPs
   exact⟨_,ReadsAll.cons a b⟩
end
end
def Km(K:PySem.W.Frag)(H:Hp)(x:V)(a:PyData):Prop:=(∃d,nr d=true/\Dat K H d x/\toP d=a)\/∃p ds xs,x=.ref p/\cS K H p xs/\az K H ds xs/\nP ds=true/\a=.list (toPs ds)
def pV(M:Mem)(d:D):Option PyData:=match d with
 | .ref a=>match M a with
  |some (.lst ds)=>if nP ds=true then some (.list (toPs ds))else none
  |_=>none
 |d=>if nr d=true then some (toP d)else none
theorem je{K:PySem.W.Frag}{H:Hp}{M:Mem}{d:D}{x:V}{a:PyData}(e:pV M d=some a)(h:Dat K H d x)(hm:RelM K H M):Km K H x a:=by
 cases d with
 |ref p=>
  cases(aA.mp h)
  unfold pV at e
  cases q:M p with
  |none=>simp[q]at e
  |some o=>
   cases o with
   |eL b kvs=>simp[q]at e
   |lst ds=>
    simp only[q]at e
    by_cases n:nP ds=true
    ·rw[B3 n]at e
     cases e
     obtain⟨xs,hx,hd⟩:=hm p _ q
     exact .inr ⟨p,ds,xs,rfl,cS.of hx,hd,n,rfl⟩
    ·rw[B4 n]at e
     cases e
 |a_=>exact .inl ⟨_,rfl,h,by simpa[pV,nr]using e⟩
 |bl _=>exact .inl ⟨_,rfl,h,by simpa[pV,nr]using e⟩
 |int _=>exact .inl ⟨_,rfl,h,by simpa[pV,nr]using e⟩
 |str _=>exact .inl ⟨_,rfl,h,by simpa[pV,nr]using e⟩
 |ty _=>simp[pV,nr]at e
 |tup ds=>
  by_cases n:nP ds=true
  ·exact .inl ⟨.tup ds,by unfold nr;exact n,h,by simpa[pV,nr,n]using e⟩
  ·simp[pV,nr,n]at e
 |fl ds=>
  by_cases n:nP ds=true
  ·exact .inl ⟨.fl ds,by unfold nr;exact n,h,by simpa[pV,nr,n]using e⟩
  ·simp[pV,nr,n]at e
section
variable {X:Cx}
theorem fK{pins:List (Addr×Obj)}{σ:L2.St}{H:Hp}{s:Shared}(I:Inv X pins σ H s){x:V}{u:Value}{a:PyData}(h:Km X.K H x a)(r:RelV x u):∃as,Reads s.heap u a as:=by
 rcases h with⟨d,n,hd,rfl⟩|⟨p,ds,xs,rfl,hq,hd,n,rfl⟩
 ·exact Nw I d n hd r
 ·cases(show u=Value.ref p from r)
  obtain⟨ah,rv,pl,_⟩:=I.list hq
  obtain⟨o,ho,hc,m,oy⟩:=pl.isList
  obtain⟨as,ra⟩:=sy I ds n hd rv
  exact⟨_,reads_list_at ho hc oy ra⟩
def Qp(neg:Bool):eX:=λ x y M Q=>∃a b,pV M x=some a/\pV M y=some b/\SeqAt.shaped a=true/\SeqAt.shaped b=true/\Q (.bl (if neg then !PyData.eqv a b else PyData.eqv a b)) M
theorem Io(hu:X.A.units+64 < cLine):eo X (compareOp .Eq) (λ x y H Q=>∃a b,Km X.K H x a/\Km X.K H y b/\SeqAt.shaped a=true/\SeqAt.shaped b=true/\Q (.bl (PyData.eqv a b)) H):=by
 intro pins s σ H x y v u Q I rx ry h
 obtain⟨a,b,ha,hb,sa,sb,q⟩:=h
 obtain⟨as,ra⟩:=fK I ha rx
 obtain⟨bs,rb⟩:=fK I hb ry
 exact eq_dataH ra rb sa sb hu ⟨.bl (PyData.eqv a b),H,I,rfl,q⟩
theorem Ii(hu:X.A.units+64 < cLine):eo X (compareOp .NotEq) (λ x y H Q=>∃a b,Km X.K H x a/\Km X.K H y b/\SeqAt.shaped a=true/\SeqAt.shaped b=true/\Q (.bl (!PyData.eqv a b)) H):=by
 intro pins s σ H x y v u Q I rx ry h
 obtain⟨a,b,ha,hb,sa,sb,q⟩:=h
 obtain⟨as,ra⟩:=fK I ha rx
 obtain⟨bs,rb⟩:=fK I hb ry
 exact ne_dataH ra rb sa sb hu ⟨.bl (!PyData.eqv a b),H,I,rfl,q⟩
theorem eY.or {f:Value->Value->Sem Value}{r r':eX}(h:eY X f r)(h':eY X f r'):eY X f (λ x y M Q=>r x y M Q\/r' x y M Q):=by
 obtain⟨a,h1,h2⟩:=h
 obtain⟨b,g1,g2⟩:=h'
 refine⟨_,h1.or g1,λ x y d e H M Q2 Q hd he hm q k=>?_⟩
 rcases q with q|q
 ·exact .inl (h2 x y d e H M Q2 Q hd he hm q k)
 ·exact .inr (g2 x y d e H M Q2 Q hd he hm q k)
def qS(neg:Bool):eX:=λ x y M Q=>JB neg x y M Q\/Qp neg x y M Q
theorem gb(hu:X.A.units+64 < cLine):eY X (compareOp .Eq) (qS false):=OS.or ⟨_,Io hu,λ x y d e H M Q2 Q hd he hm q k=>by
 obtain⟨a,b,ha,hb,sa,sb,q⟩:=q
 exact⟨a,b,je ha hd hm,je hb he hm,sa,sb,k _ H _ M (aN.mpr rfl) hm (ai.refl H) q⟩⟩
theorem uL(hu:X.A.units+64 < cLine):eY X (compareOp .NotEq) (qS true):=OP.or ⟨_,Ii hu,λ x y d e H M Q2 Q hd he hm q k=>by
 obtain⟨a,b,ha,hb,sa,sb,q⟩:=q
 exact⟨a,b,je ha hd hm,je hb he hm,sa,sb,k _ H _ M (aN.mpr rfl) hm (ai.refl H) q⟩⟩
def Bk:D->List D->Mem->bq->Prop:=λ x vs M Q=>∃p ds y,x=.ref p/\vs=[y]/\M p=some (.lst ds)/\nP ds=true/\nr y=true/\PyData.canLayAll0 (toPs ds)=true/\(toP y).canLay0=true/\(toP y).depth < 60/\Q (.int (ds.countP λ d=>PyData.eqv (toP d) (toP y):Nat)) M
theorem qV{A:Around}{s:Shared}{v:Value}{y:PyData}{bs:List Addr}(ry:Reads s.heap v y bs)(cy:y.canLay0=true)(hu:A.units+y.depth < cLine):∀{ds:List D} {us:List Value} {as:List Addr},ReadsAll s.heap us (toPs ds) as->PyData.canLayAll0 (toPs ds)=true->
  ∃e:Value->Bool,(∀u∈us,SeqAt.EqAt A s u v (e u))/\us.countP e=ds.countP λ d=>PyData.eqv (toP d) y:=by
 intro ds us as ra cl
 refine⟨λ u=>PyData.eqv (SeqAt.readOf s.heap u) y,λ u J7=>?_,?_⟩
 ·obtain⟨d,RC,rd,cd,_⟩:=SeqAt.readsAll_mem _ _ _ cl ra u J7
  have e:=SeqAt.readOf_eq cd rd
  dsimp only
  rw[e]
  exact p8 d y A s u v _ _ rd ry cd cy (by omega)
 ·have e:=SeqAt.readsAll_map _ _ _ cl ra
  have f:∀(us:List Value) (ds:List D),us.map (SeqAt.readOf s.heap)=toPs ds->us.countP (λ u=>PyData.eqv (SeqAt.readOf s.heap u) y)=ds.countP λ d=>PyData.eqv (toP d) y:=by
   intro us
   induction us with
   |nil=>
    intro ds q
    cases ds with
    |nil=>rfl
    |cons d r=>unfold toPs at q;cases q
   |cons u us ih=>
    intro ds q
    cases ds with
    |nil=>unfold toPs at q;cases q
    |cons d r=>
     unfold toPs at q
     rw[z4]at q
     injection q with q1 q2
     rw[countP_cons,countP_cons,ih r q2,q1]
  exact f us ds e
theorem D'(hu:X.A.units+64 < cLine):JQ X "list.count" Bk:=⟨λ x vs H Q=>∃p ds xs d y,x=.ref p/\vs=[y]/\cS X.K H p xs/\az X.K H ds xs/\Dat X.K H d y/\nP ds=true/\nr d=true/\PyData.canLayAll0 (toPs ds)=true/\(toP d).canLay0=true/\(toP d).depth < 60/\Q (.int (ds.countP λ e=>PyData.eqv (toP e) (toP d):Nat)) H,by
  intro pins s σ H x xs v us Q I rx rv h
  obtain⟨p,ds,zs,d,y,rfl,rfl,hq,hd,hy,n1,n2,c1,c2,dp,q⟩:=h
  cases(show v=Value.ref p from rx)
  obtain⟨u,rfl,ru⟩:=rv.one
  obtain⟨ah,rz,pl,_⟩:=I.list hq
  obtain⟨as,ra⟩:=sy I ds n1 hd rz
  obtain⟨bs,rb⟩:=Nw I d n2 hy ru
  obtain⟨e,e1,e2⟩:=qV (A:=X.A.in1) rb c2 (by show X.A.units+1+_ < _;omega) ra c1
  obtain⟨⟨c,dd,da,sl⟩,ho,hc,n,oy⟩:=pl.isList
  cases(show c=.type "list" from hc)
  cases(show da=.seq ah.toArray n from oy)
  refine A8 PySem.F.slot_list_count ⟨_,ho,rfl⟩ PySem.F.entry_list_count (PySem.F.args_list_count_2 _ _) (SeqAt.list_countAt p ah.toArray n dd sl u e) ⟨ho,λ y hy=>e1 y (by simpa using hy),?_⟩
  rw[show ah.toArray.toList=ah from rfl,e2]
  exact⟨.int _,H,I.tok _,⟨_,rfl⟩,q⟩,λ x xs d ds H M Q2 Q hx hd hm q k=>by
  obtain⟨p,es,y,rfl,rfl,hM,n1,n2,c1,c2,dp,q⟩:=q
  cases(aA.mp hx)
  obtain⟨v,r,rfl,hv,hr⟩:=af.mp hd
  cases(ao.mp hr)
  obtain⟨zs,hz,fQ⟩:=hm p _ hM
  exact⟨p,es,zs,y,v,rfl,rfl,cS.of hz,fQ,hv,n1,n2,c1,c2,dp,k _ H _ M (aq.mpr rfl) hm (ai.refl H) q⟩⟩
def vy:D->List D->Mem->bq->Prop:=λ x vs M Q=>∃p ds y,x=.ref p/\vs=[y]/\M p=some (.lst ds)/\ds.length < sizeLine/\Q .a_ (aw M p (.lst (ds++[y])))
theorem gN:JQ X "list.append" vy:=⟨uD,wL,λ x xs d ds H M Q2 Q hx hd hm q k=>by
 obtain⟨p,es,y,rfl,rfl,hM,hz,q⟩:=q
 cases(aA.mp hx)
 obtain⟨v,r,rfl,hv,hr⟩:=af.mp hd
 cases(ao.mp hr)
 obtain⟨zs,h1,h2⟩:=hm p _ hM
 have t:=ai.lst (o:=.lst (zs++[v])) h1
 refine⟨p,zs,v,rfl,rfl,h1,by rw[h2.length];exact hz,k _ _ .a_ _ (cQ.mpr rfl) (hm.put (u:=.lst (es++[y])) t ⟨_,aI,?_⟩) t q⟩
 exact(az.mono t es h2).append (az.one (Dat.mono t y hv))⟩
theorem ck{K:PySem.W.Frag}{H:Hp}:∀{ns:List Int} {xs:List V},az K H (ns.map D.int) xs->xs=ns.map V.int
 |[],xs,h=>by rw[map_nil,ao]at h;exact h
 |b::bs,xs,h=>by
  rw[z4,af]at h
  obtain⟨x,r,rfl,a,q⟩:=h
  rw[aq]at a
  rw[a,ck q]
  rfl
def Jx:List D->Mem->bq->Prop:=λ xs M Q=>∃(x:D) (ds:List D) (ns:List Int),xs=[x]/\cG M x=some ds/\ds=ns.map D.int/\Q (.int ns.sum) M
theorem rj(hc:X.calm=true):cK X (.builtin "sum") Jx:=⟨_,lA hc,λ xs ds H M Q2 Q hd hm q k=>by
 obtain⟨x,es,ns,rfl,e,rfl,q⟩:=q
 obtain⟨v,r,rfl,hv,hr⟩:=af.mp hd
 cases(ao.mp hr)
 obtain⟨p,ys,rfl,h,hy⟩:=fq e hv hm
 rw[ck hy]at h
 rcases h with h|h
 ·exact⟨false,p,ns,rfl,h,k _ H _ M (aq.mpr rfl) hm (ai.refl H) q⟩
 ·exact⟨true,p,ns,rfl,h,k _ H _ M (aq.mpr rfl) hm (ai.refl H) q⟩⟩
def MI:List D->Mem->bq->Prop:=λ xs M Q=>∃i j,xs=[.int i,.int j]/\Q (.int (if j < i then j else i)) M
theorem MQ(hc:X.calm=true):cK X (.builtin "min") MI:=⟨_,xt hc,λ xs ds H M Q2 Q hd hm q k=>by
 obtain⟨i,j,rfl,q⟩:=q
 obtain⟨v,r,rfl,hv,hr⟩:=af.mp hd
 obtain⟨v2,r2,rfl,SE,qD⟩:=af.mp hr
 cases(ao.mp qD)
 cases(aq.mp hv)
 cases(aq.mp SE)
 exact⟨i,j,rfl,k _ H _ M (aq.mpr rfl) hm (ai.refl H) q⟩⟩
def MH:eX:=λ x y M Q=>∃ds k,x=.tup ds/\y=.int k/\ds≠[]/\-(2^63)<=k/\k < 2^63/\ds.length*k.toNat<=sizeLine/\Q (.tup (List.replicate k.toNat ds).flatten) M
theorem ky{K:PySem.W.Frag}{H:Hp}{ds:List D}{xs:List V}(h:az K H ds xs):∀k:Nat,az K H (List.replicate k ds).flatten (List.replicate k xs).flatten
 |0=>by simp[ao]
 |k+1=>by rw[l4,l4,o7,o7];exact h.append (ky h k)
def vw:eX:=λ x y M Q=>E1 x y M Q\/MH x y M Q
theorem Iy:eY X (binaryOp .Mult) vw:=LA.or ⟨_,DJ,λ x y d e H M Q2 Q hd he hm q k=>by
 obtain⟨ds,n,rfl,rfl,eR,h1,h2,hz,q⟩:=q
 obtain⟨p,xs,rfl,hq,hx⟩:=aE.mp hd
 cases(aq.mp he)
 refine⟨p,n,xs,rfl,rfl,hq,λ z=>?_,h1,h2,by rw[hx.length];exact hz,λ e1=>?_,λ _ l hl=>?_⟩
 ·have:=hx.length
  rw[z]at this
  exact eR (j0.mp this.symm)
 ·subst e1
  rw[show(1:Int).toNat=1 from rfl,show(List.replicate 1 ds).flatten=ds by simp]at q
  exact k _ H _ M (aE.mpr ⟨p,xs,rfl,hq,hx⟩) hm (ai.refl H) q
 ·exact k _ _ (.tup _) M (fH hl (ky hx _)) (hm.laid hl) (ai.laid hl) q⟩
end
end L3
namespace L3
open PySem PySem.Spec L2 L5
def Fq(b:Bool)(M:Mem)(k:D)(c:Ky):Prop:=match b with
 |true=>k=.tup [.int c.1,.tup (c.2.map D.int)]
 |false=>∃m,k=.tup [.int c.1,.ref m]/\M m=some (.lst (c.2.map D.int))
theorem Fq.v {K:PySem.W.Frag}{H:Hp}{M:Mem}{b:Bool}{k:D}{c:Ky}{v:V}(h:Fq b M k c)(r:Dat K H k v)(hm:RelM K H M):kN K b H v c:=by
 cases b with
 |true=>
  cases(show k=_ from h)
  obtain⟨p,xs,rfl,hq,hd⟩:=aE.mp r
  obtain⟨x1,r1,rfl,h1,hd⟩:=af.mp hd
  obtain⟨x2,r2,rfl,h2,hd⟩:=af.mp hd
  cases(ao.mp hd)
  cases(aq.mp h1)
  obtain⟨p2,ys,rfl,EA,hd2⟩:=aE.mp h2
  rw[ck hd2]at EA
  exact⟨p,p2,rfl,hq,EA⟩
 |false=>
  obtain⟨m,rfl,hM⟩:=h
  obtain⟨p,xs,rfl,hq,hd⟩:=aE.mp r
  obtain⟨x1,r1,rfl,h1,hd⟩:=af.mp hd
  obtain⟨x2,r2,rfl,h2,hd⟩:=af.mp hd
  cases(ao.mp hd)
  cases(aq.mp h1)
  cases(aA.mp h2)
  obtain⟨ys,hy,hd2⟩:=hm m _ hM
  rw[ck hd2]at hy
  exact⟨p,m,rfl,hq,cS.of hy⟩
theorem mE{K:PySem.W.Frag}{H:Hp}{ds:List D}{xs:List V}(h:az K H ds xs):∀p:List Nat,az K H (p.map λ i=>ds.getD i D.a_) (p.map λ i=>xs.getD i V.a_)
 |[]=>by simp[ao]
 |i::p=>by
  rw[z4,z4,af]
  refine⟨_,_,rfl,?_,mE h p⟩
  cases e:ds[i]? with
  |none=>
   have e2:xs[i]?=none:=by
    have:=h.length
    have:=i0.mp e
    exact j9 (by omega)
   rw[c7,c7,e,e2]
   exact cQ.mpr rfl
  |some d=>
   obtain⟨x,e2,hx⟩:=h.get e
   rw[c7,c7,e,e2]
   exact hx
end L3
namespace L3
open PySem PySem.Spec L2 L5
section
variable {M:Mem}{Q:bq}
theorem CQ{i j:Int}(q:Q (.bl (decide (i=j))) M):qS false (.int i) (.int j) M Q:=.inl (Ho q)
theorem CS{i j:Bool}(q:Q (.bl (decide (i=j))) M):qS false (.bl i) (.bl j) M Q:=.inl (Hq q)
theorem CP{i j:Str}(q:Q (.bl (decide (i=j))) M):qS false (.str i) (.str j) M Q:=.inl (Hn q)
theorem CB{i j:Bool}(q:Q (.bl (!decide (i=j))) M):qS true (.bl i) (.bl j) M Q:=.inl (He q)
theorem yN{i j:Int}(h:pb i j)(q:Q (.int (i*j)) M):vw (.int i) (.int j) M Q:=.inl (CG h q)
theorem yM{i:Str}{j:Int}(h:MulOk i j)(q:Q (.str (Txt.mul i j)) M):vw (.str i) (.int j) M Q:=.inl (CF h q)
theorem Hg{i j:Int}(q:Q (.int (if j < i then j else i)) M):MI [.int i,.int j] M Q:=⟨i,j,rfl,q⟩
theorem nE{ns:List Int}(q:Q (.int ns.sum) M):Jx [.tup (ns.map D.int)] M Q:=⟨_,_,ns,rfl,rfl,rfl,q⟩
theorem nF{p:Addr}{ds:List D}{y:D}(h:M p=some (.lst ds))(hz:ds.length < sizeLine)(q:Q .a_ (aw M p (.lst (ds++[y])))):vy (.ref p) [y] M Q:=⟨p,ds,y,rfl,rfl,h,hz,q⟩
abbrev row(ns:List Int):D:=.tup (ns.map D.int)
theorem toPs_ints:∀ns:List Int,toPs (ns.map D.int)=ns.map PyData.int
 |[]=>rfl
 |n::ns=>by rw[z4];unfold toPs;rw[toPs_ints ns];unfold toP;rfl
theorem p_:∀ns:List Int,nP (ns.map D.int)=true
 |[]=>rfl
 |n::ns=>by rw[z4];unfold nP;rw[p_ ns];rfl
theorem Cq{i j:Nat}{a b:D}{δ:cD}{N:cD->Mem->Prop}(h:N ((δ.set i (some a)).set j (some b)) M):tu 2 (eS (hName i) (eS (hName j) tw)) (.tup [a,b]) δ M N:=⟨rfl,h⟩
theorem yQ{A B:Prop}(h:B):if(!true)=true then A else B:=by rw[Bool.not_true,B4 l8];exact h
theorem yR{A B:Prop}(h:A):if(!false)=true then A else B:=by rw[Bool.not_false,B3 rfl];exact h
theorem yH{c:dh}{tb:fS}{E:cJ}{δ:cD}(h:∃W:Nat->cD->Mem->Prop,(∃m,W m δ M)/\∀m δ M,W m δ M->c δ M λ b M1=>
  if b=true then ∃N:cD->Mem->Prop,(∀δ' M',N δ' M'->∃m',m' < m/\W m' δ' M')/\tb {E with nx:=N,ct:=N,bk:=E.nx} δ M1 else E.nx δ M1):sg c tb E δ M:=h
theorem Bu{g:eV}{tt:dh}{te:bV}{δc:cD}{M1:Mem}{Qe:List D->Mem->Prop}{a:Addr}{ds:List D}(Pv:Nat->List D->Mem->Prop)(h0:Pv 0 [] M1)(hl:∀i acc M,i<=ds.length->Pv i acc M->M a=some (.lst ds))(hz:∀i acc M,i<=ds.length->Pv i acc M->acc.length<=sizeLine)
  (hs:∀i d acc M,ds[i]?=some d->Pv i acc M->g d δc M λ δ2 M2=>tt δ2 M2 λ b M3=>if b=true then te δ2 M3 λ y M4=>Pv (i+1) (acc++[y]) M4 else Pv (i+1) acc M3)
  (hd:∀acc M,Pv ds.length acc M->Qe acc M):
  ∃(B:Nat) (W:Nat->List D->Mem->Prop),W 0 [] M1/\∀i acc M,W i acc M->i<=B/\acc.length<=sizeLine/\match items (.at a) M with
   |none=>False
   |some ds=>match ds[i]? with
    |none=>i=ds.length/\Qe acc M
    |some d=>g d δc M λ δ2 M2=>tt δ2 M2 λ b M3=>if b=true then te δ2 M3 λ y M4=>W (i+1) (acc++[y]) M4 else W (i+1) acc M3:=by
 refine⟨ds.length,λ i acc M=>if i<=ds.length then Pv i acc M else False,by dsimp only;rw[B3 (A4 _)];exact h0,?_⟩
 intro i acc M w
 by_cases hi:i<=ds.length
 ·rw[B3 hi]at w
  refine⟨hi,hz i acc M hi w,?_⟩
  have e0:items (.at a) M=some ds:=by
   show(match M a with|some (.lst ds)=>some ds|_=>none)=some ds
   rw[hl i acc M hi w]
  rw[e0]
  show(match ds[i]? with
    |none=>i=ds.length/\Qe acc M
    |some d=>g d δc M λ δ2 M2=>tt δ2 M2 λ b M3=>if b=true then te δ2 M3 λ y M4=>(if i+1<=ds.length then Pv (i+1) (acc++[y]) M4 else False)else(if i+1<=ds.length then Pv (i+1) acc M3 else False))
  cases e:ds[i]? with
  |none=>
   have:i=ds.length:=y1 hi (i0.mp e)
   subst this
   exact⟨rfl,hd acc M w⟩
  |some d=>
   have fX:i+1<=ds.length:=(g9.mp e).1
   simp only[B3 fX]
   exact hs i d acc M e w
 ·rw[B4 hi]at w
  exact w.elim
theorem wq{a:Addr}{ns:List Int}{i:Int}(ha:M a=some (.lst (ns.map D.int)))(q:Q (.int (ns.count i:Nat)) M):Bk (.ref a) [.int i] M Q:=by
 refine⟨a,_,_,rfl,rfl,ha,p_ ns,rfl,by rw[toPs_ints];exact PySem.W.ke_canLayAll0 ns,by simp[toP,PyData.canLay0],by simp[toP,PyData.depth],?_⟩
 have e:(ns.map D.int).countP (λ d=>PyData.eqv (toP d) (toP (.int i)))=ns.count i:=by
  rw[countP_map,count_eq_countP]
  refine countP_congr λ x _=>?_
  show PyData.eqv (toP (.int x)) (toP (.int i))=true↔_
  simp[toP,PyData.eqv]
 rw[e]
 exact q
end
end L3
namespace L5
open PySem
theorem nS:typeLookup (.type "list") "keys"=pure none:=by rw[typeLookup_type,builtinLookup_eq_fast];kernel_rfl
theorem DZ{prog:Program}{w:World}{A:Around}{E:Value->Shared->Prop}{s:Shared}{a:Addr}{xs:Array Value}{k:Nat}{sl:Array (Option Value)}{Q:Option Value->Shared->Prop}(hx:s.heap.get? a=some {cls:=.type "list",dict:=none,data:=.seq xs k,slots:=sl})(hA:A.handled=none)
  (h:∀h' tk,(∀b o,s.heap.get? b=some o->h'.get? b=some o)->Q none {s with heap:=h',toks:=tk}):wpAny (model prog w) A (getAttr? (.ref a) "keys") Q E s:=by
 obtain⟨hp,g,d,tk,os⟩:=s
 have ty:∀uh,(⟨hp,g,d,uh,os⟩:Shared).TypeIs (.ref a) "list":=λ _=>⟨_,hx,rfl⟩
 have f1:=sub_AttributeError
 have f3:=F.slot_list_getattribute.lookup
 have f4:=F.slot_list_getattribute.bind (.ref a)
 have f5:=am_list_getattr_none
 unfold getAttr? getAttrBy? getAttrBy
 repeat(any_goals (first|assumption|exact ty _|((with_reducible show wpAny _ _ (call (Value.builtin "list.__getattribute__") _ _) _ _ _);refine A8 F.slot_list_getattribute (ty _) am_entry_list_getattribute (F.args_list_getattribute_2 _ _) (meets_getattribute_miss_list a xs k sl _ _ nS (by decide+kernel) (by decide+kernel)) ⟨hx,hA,λ h' uh e Eu=>?_⟩)|wp_step))
 obtain⟨t',u',he⟩:=Eu.there
 show wpAny _ _ (getattributeRaised _ _ _ _ _ _ _) _ _ _
 unfold getattributeRaised
 repeat(any_goals (first|assumption|wp_step))
 exact h _ _ Eu.keeps
end L5
namespace L5
open PySem
theorem qL:entryFor table "dict.update.loop"=some Builtin.«dict.update.loop»:=entryFor_of_tree (by kernel_rfl)
theorem jf:plainId "dict.update.loop"=true:=by decide+kernel
section
variable {prog:Program}{w:World}{A:Around}{R:Result->Shared->Prop}
abbrev TK(prog:Program)(w:World):HeapKind prog w (List L2.Key):=tupleKind (L2.bG prog w)
abbrev Ent:=List L2.Key×Addr×Value
theorem rW{h:Heap}{k:List L2.Key}{a:Addr}(x:(TK prog w).is h k a):∃o,h.get? a=some o/\o.cls=.type "tuple":=let⟨o,ah,n,h1,h2,h3,h4⟩:=x;⟨o,h1,h2⟩
theorem nh{h h':Heap}{k:List L2.Key}{a:Addr}(x:(TK prog w).is h k a)(q:∀o,h.get? a=some o->h'.get? a=some o):(TK prog w).is h' k a:=let⟨o,ah,n,h1,h2,h3,h4⟩:=x;⟨o,ah,n,q o h1,h2,h3,h4⟩
structure iy(prog:Program)(w:World)(h:Heap)(u:Value)(p:Ent):Prop where
 ex:∃t,u=.ref t/\h.IsTuple t #[.ref p.2.1,p.2.2]
 key:(TK prog w).is h p.1 p.2.1
def kL(h h':Heap):Prop:=∀b o,o.cls=.type "tuple"->h.get? b=some o->h'.get? b=some o
theorem iy.dr {h h':Heap}{u:Value}{p:Ent}(x:iy prog w h u p)(q:kL h h'):iy prog w h' u p:=by
 obtain⟨⟨t,rfl,o,ho,hc,n,hd⟩,key⟩:=x
 obtain⟨oa,h1,h2⟩:=rW key
 exact⟨⟨t,rfl,o,q t o hc ho,hc,n,hd⟩,nh key λ o' e=>by rw[h1]at e;cases e;exact q _ _ h2 h1⟩
def putAll(xs:List Ent)(ps:List Ent):List Ent:=ps.foldl (λ xs p=>storedH xs p.1 p.2.1 p.2.2) xs
theorem iC(xs:List Ent)(p:Ent):(storedH xs p.1 p.2.1 p.2.2).length<=xs.length+1:=by
 unfold storedH
 split
 ·simp
 ·simp
theorem sM(hu:A.in1.units < cLine)(hA:A.handled=none)(d it l:Addr)(PN:d≠it)(S5:l≠it)(S6:l≠d)(ah:List Value)(ps:List Ent)(hlen:ah.length=ps.length)(Me:ps.length<=1000):
  ∀(k i:Nat) (s:Shared) (xs:List Ent),ps.length - i=k->i<=ps.length->xs.length<=i->s.heap.IsListIter it l i->s.heap.IsList l ah.toArray->s.heap.DictOfH (TK prog w) d xs->
   (∀(j:Nat) (u:Value) (p:Ent),ah[j]?=some u->ps[j]?=some p->iy prog w s.heap u p)->
   (∀h' tk,(∀b o,b≠d->b≠it->s.heap.get? b=some o->h'.get? b=some o)->h'.DictOfH (TK prog w) d (putAll xs (ps.drop i))->R (.ok (.ret .none)) {s with heap:=h',toks:=tk})->
   codeAny (model prog w) A (.builtin "dict.update.loop" ⟨[.ref d,.ref it,rawInt i,.none],[]⟩) R s:=by
 intro k
 induction k with
 |zero=>
  intro i s xs hk hi Pe hit hl hd hp hR
  have e:i=ps.length:=by omega
  subst e
  refine x5 qL ?_
  rw[k8 jf _]
  refine A6 (m:=pyNext (.ref it)) (wpAny_pyNext_list_end (show A.in1.handled=none from hA) hit hl (by simp;omega) λ h' eb=>?_)
  refine A6 (m:=Builtin.Dict.addKeywords d []) (A7 (A7 ?_))
  refine hR h' s.toks (λ b o _ n2 q=>eb b o n2 q) ?_
  rw[drop_length]
  obtain⟨o,es,ep,ho,r1,r2,r3,r4,r5⟩:=hd
  refine⟨o,es,ep,eb d o PN ho,r1,r2,r3,λ x hx=>?_,r5⟩
  obtain⟨oa,h1,h2⟩:=rW (r4 x hx)
  refine nh (r4 x hx) λ o' e=>eb _ _ (λ z=>?_) e
  rw[z]at h1
  obtain⟨oi,g1,g2,_⟩:=hit
  rw[g1]at h1
  cases h1
  rw[g2]at h2
  exact absurd h2 (by decide)
 |succ k ih=>
  intro i s xs hk hi Pe hit hl hd hp hR
  have fX:i < ps.length:=by omega
  have e1:ah[i]?=some ah[i]:=i5 (by omega)
  have e2:ps[i]?=some ps[i]:=i5 fX
  refine x5 qL ?_
  rw[k8 jf _]
  refine A6 (m:=pyNext (.ref it)) (wpAny_pyNext_list_item hit hl (x:=ah[i]) (by simpa using e1) λ g1 So s1=>?_)
  have Oe:kL s.heap g1:=λ b o hc e=>s1.extBut _ _ (λ z=>by
   rw[z]at e
   obtain⟨oi,q1,q2,_⟩:=hit
   rw[q1]at e
   cases e
   rw[hc]at q2
   exact absurd q2 (by decide)) e
  obtain⟨⟨t,et,⟨ct,dt,da,st⟩,ho,hc,n,oy⟩,key⟩:=(hp i _ _ e1 e2).dr Oe
  cases(show ct=.type "tuple" from hc)
  cases(show da=_ from oy)
  have S9:g1.IsList l ah.toArray:=hl.at λ o e=>s1.extBut _ _ S5 e
  have Rq:g1.DictOfH (TK prog w) d xs:=by
   obtain⟨o,es,ep,ho,r1,r2,r3,r4,r5⟩:=hd
   refine⟨o,es,ep,s1.extBut _ _ PN ho,r1,r2,r3,λ x hx=>?_,r5⟩
   obtain⟨oa,h1,h2⟩:=rW (r4 x hx)
   exact nh (r4 x hx) λ o' e=>by rw[h1]at e;cases e;exact Oe _ _ h2 h1
  rw[et]
  refine A6 (y7 (A6 (y6 ?_)))
  unfold Builtin.Dict.pairItems
  refine A6 (wpAny_typeOf (T:="tuple") ⟨_,ho,rfl⟩ ?_)
  rw[B3 (by decide)]
  refine A6 (y3 ho rfl (A7 ?_))
  show wpAny _ A.in1 (holding [Value.ref ps[i].2.1,ps[i].2.2] (dictSet d (.ref ps[i].2.1) ps[i].2.2)) _ _ _
  refine y7 (wpAny_dictSet_heap (s:={s with heap:=g1}) (knd:=TK prog w) hu key Rq (λ g2 d2 s2=>?_) (A1 (show xs.length<=1000 by omega) (by decide)))
  refine A7 ⟨z6 jf _,?_⟩
  have od:∃o,g1.get? d=some o/\o.cls=.type "dict":=by
   obtain⟨o,es,ep,ho,r1,_⟩:=Rq
   exact⟨o,ho,r1.1⟩
  have RS:kL g1 g2:=λ b o hc e=>s2.extBut _ _ (λ z=>by
   rw[z]at e
   obtain⟨oi,q1,q2⟩:=od
   rw[q1]at e
   cases e
   rw[hc]at q2
   exact absurd q2 (by decide)) e
  have Tn:((i:Int)+1)=((i+1:Nat):Int):=by push_cast;rfl
  show codeAny (model prog w) A (.builtin "dict.update.loop" ⟨[.ref d,.ref it,rawInt ((i:Int)+1),.none],[]⟩) R _
  rw[Tn]
  refine ih (i+1) _ (storedH xs ps[i].1 ps[i].2.1 ps[i].2.2) (by omega) fX ?_ (So.at λ o e=>s2.extBut _ _ (B2 PN) e) (S9.at λ o e=>s2.extBut _ _ S6 e) d2 (λ j u p h1 h2=>((hp j u p h1 h2).dr Oe).dr RS) λ h' tk vg fQ=>?_
  ·have:=iC xs ps[i]
   omega
  ·refine hR h' tk (λ b o n1 n2 e=>vg b o n1 n2 (s2.extBut _ _ n1 (s1.extBut _ _ n2 e))) ?_
   rw[g8 fX]
   exact fQ
end
end L5
namespace L5
open PySem PySem.W PySem.Calls PyProof.Rows
section
variable {prog:Program}{w:World}{A:Around}{E:Value->Shared->Prop}{s:Shared}
theorem D7{l:Addr}{ah:List Value}{ps:List Ent}{Q:Value->Shared->Prop}(hu:A.units+2 < cLine)(hA:A.handled=none)(hl:s.heap.IsList l ah.toArray)(hpl:∃o,s.heap.get? l=some o/\o.dict=none)(hlen:ah.length=ps.length)(Me:ps.length<=1000)
  (hp:∀(j:Nat) (u:Value) (p:Ent),ah[j]?=some u->ps[j]?=some p->iy prog w s.heap u p)
  (h:∀h' tk,(∀b o,s.heap.get? b=some o->h'.get? b=some o)->h'.DictOfH (TK prog w) s.heap.objs.size (putAll [] ps)->s.heap.objs.size < h'.objs.size->Q (.ref s.heap.objs.size) {s with heap:=h',toks:=tk}):
  wpAny (model prog w) A (call (.type "dict") [.ref l]) Q E s:=by
 refine callType_codes (Q₁:=λ obj s₁=>obj=.ref s.heap.objs.size/\s₁={s with heap:=s.heap.push {cls:=.type "dict",data:=.dict #[]}}) F.kt_called_dict (F.kt_typeCall_dict_1 _) F.entry_dict_init (kt_code_dict_new _ ⟨rfl,rfl⟩) ?_
 rintro obj s1 ⟨rfl,rfl⟩
 have new:(s.heap.push {cls:=.type "dict",data:=.dict #[]}).DictOfH (TK prog w) s.heap.objs.size []:=Heap.DictOfH.new s.heap
 refine⟨new.typeIs,F.args_dict_init_2 _ _,?_⟩
 unfold Builtin.«dict.__init__»
 refine A6 ?_
 unfold Builtin.Dict.selfAndRest
 refine A6 (wpAny_notOrdered_dict new.typeIs ?_)
 refine A7 (a:=(s.heap.objs.size,[Value.ref l])) ?_
 obtain⟨ob,L7,Th⟩:=hpl
 obtain⟨⟨c,dd,da,sl⟩,ho,hc,n,oy⟩:=id hl
 rw[ho]at L7
 cases L7
 cases(show c=.type "list" from hc)
 cases(show da=.seq ah.toArray n from oy)
 cases(show dd=none from Th)
 have rH:(s.heap.push {cls:=.type "dict",data:=.dict #[]}).get? l=some {cls:=.type "list",dict:=none,data:=.seq ah.toArray n,slots:=sl}:=j2 _ ho
 show wpAny _ _ (Builtin.Dict.updateFrom "dict.__init__" s.heap.objs.size (.ref l) [] .none) _ _ _
 unfold Builtin.Dict.updateFrom
 refine A6 (wpAny_typeOf (T:="list") ⟨_,rH,rfl⟩ ?_)
 rw[B3 (by decide)]
 refine A6 (DZ (s:={s with heap:=s.heap.push {cls:=.type "dict",data:=.dict #[]}}) rH (show A.in1.handled=none from hA) λ g tk gk=>?_)
 rw[B3 (by rfl)]
 have k0:∀b o,s.heap.get? b=some o->g.get? b=some o:=λ b o e=>gk b o (j2 _ e)
 have Rk:g.IsList l ah.toArray:=hl.at λ o e=>k0 l o e
 have dg:g.DictOfH (TK prog w) s.heap.objs.size []:=by
  obtain⟨o,es,ep,h1,r⟩:=new
  exact⟨o,es,ep,gk _ _ h1,r.1,r.2.1,r.2.2.1,λ x hx=>absurd hx (by simp),r.2.2.2.2⟩
 have Qn:s.heap.objs.size < g.objs.size:=by obtain⟨o,es,ep,h1,_⟩:=dg;exact z8 h1
 refine A6 (wpAny_rule (A6 (o9 (s:={s with heap:=g,toks:=tk}) Rk ?_)))
 refine A7 ⟨z6 jf _,?_⟩
 have up:∀b o,g.get? b=some o->(g.push {cls:=.type "list_iterator",data:=.fields #[.ref l,.int 0 0]}).get? b=some o:=λ b o e=>j2 _ e
 have eR:l≠s.heap.objs.size:=z7 (z8 ho)
 have fX:l < g.objs.size:=Nat.lt_trans (z8 ho) Qn
 refine sM (prog:=prog) (w:=w) (A:=A.in1) (by show A.units+1+1 < cLine;omega) (show A.in1.handled=none from hA) s.heap.objs.size g.objs.size l (z7 Qn) (z7 fX) eR ah ps hlen Me _ 0 {s with heap:=g.push {cls:=.type "list_iterator",data:=.fields #[.ref l,.int 0 0]},toks:=tk} [] rfl (A4 _) (A2 _) ⟨_,l6 _ rfl,rfl,rfl⟩ (Rk.at λ o e=>up l o e) ?_ ?_ ?_
 ·obtain⟨o,es,ep,h1,r⟩:=dg
  exact⟨o,es,ep,up _ _ h1,r.1,r.2.1,r.2.2.1,λ x hx=>absurd hx (by simp),r.2.2.2.2⟩
 ·intro j u p e1 e2
  exact(hp j u p e1 e2).dr λ b o _ e=>up b o (k0 b o e)
 ·intro h' uh vg fQ
  have PB:s.heap.objs.size < h'.objs.size:=by obtain⟨o,es,ep,h1,_⟩:=fQ;exact z8 h1
  refine⟨rfl,h h' uh (λ b o e=>vg b o (z7 (z8 e)) (z7 (Nat.lt_trans (z8 e) Qn)) (up b o (k0 b o e))) fQ PB⟩
end
end L5
namespace L5
open PySem PySem.W PySem.Calls PyProof.Rows
def Raw(g:Heap)(d:Addr)(es:Array DictEntry)(ep:Nat):Prop:=∃b,g.get? d=some b/\b.ExactDict/\b.data=.dict es ep
theorem Raw.to {g g':Heap}{d:Addr}{es:Array DictEntry}{ep:Nat}(x:Raw g d es ep)(q:∀b,g.get? d=some b->g'.get? d=some b):Raw g' d es ep:=let⟨b,h1,h2⟩:=x;⟨b,q b h1,h2⟩
theorem Raw.ty {s:Shared}{d:Addr}{es:Array DictEntry}{ep:Nat}(x:Raw s.heap d es ep):s.TypeIs (.ref d) "dict":=let⟨b,h1,h2,_⟩:=x;⟨b,h1,h2.1⟩
theorem Raw.lt {g:Heap}{d:Addr}{es:Array DictEntry}{ep:Nat}(x:Raw g d es ep):d < g.objs.size:=let⟨b,h1,_⟩:=x;z8 h1
section
variable {prog:Program}{w:World}{A:Around}{E:Value->Shared->Prop}{s:Shared}
theorem yY{d:Addr}{es:Array DictEntry}{ep:Nat}{Q:Value->Shared->Prop}(nd:(d==sysModules)=false)(x:Raw s.heap d es ep)
  (fin:Q (.ref s.heap.objs.size) {s with heap:=s.heap.push {cls:=.type "dict_keyiterator",data:=.fields #[.ref d,.int 0 0,.int es.size 0,.int ep 0]}}):wpAny (model prog w) A (pyIter (.ref d)) Q E s:=by
 obtain⟨b,hb,xb,db⟩:=id x
 refine wpAny_pyIter_slot x.ty F.slot_dict_iter (s9 F.slot_dict_iter x.ty F.entry_dict_iter ?_ (F.args_dict_iter_1 _))
 unfold Builtin.«dict.__iter__»
 refine A6 ?_
 unfold Builtin.Dict.dictSlotNone
 refine A6 (wpAny_notOrdered_dict x.ty ?_)
 refine A7 (a:=Value.ref d) ?_
 show wpAny (model prog w) _ (Builtin.Dict.showsAll d >>= _) _ _ s
 unfold Builtin.Dict.showsAll
 rw[B4 (by simp[nd])]
 refine A6 (A7 (A6 (wpAny_dictEntries hb db (A6 (wpAny_dictEpoch hb db ?_)))))
 refine A6 (n9 (A7 ⟨_,rfl,"dict_keyiterator",_,⟨_,l6 _ rfl,rfl⟩,a9.lookup,?_⟩))
 simpa[rawInt]using fin
theorem pU{it d:Addr}{i n ep:Nat}{es:Array DictEntry}{Q:Option Value->Shared->Prop}(ki:s.heap.IsKeyIter it d i n ep)(x:Raw s.heap d es ep)(en:n=es.size)
  (hi:∀e:DictEntry,es[i]?=some e->∀g,g.IsKeyIter it d (i+1) n ep->Heap.SameBut it s.heap g->Q (some e.key) {s with heap:=g})
  (hn:A.handled=none) (he:es[i]?=none->∀g,Heap.ExtBut it s.heap g->Q none {s with heap:=g}):wpAny (model prog w) A (pyNext (.ref it)) Q E s:=by
 subst en
 obtain⟨oi,gi,ci,di⟩:=id ki
 obtain⟨b,hb,xb,db⟩:=id x
 unfold pyNext
 refine A6 (y8 (i9 (name:=Str.ofString "__next__") ki.typeIs a9
  (s9 a9 ki.typeIs F.entry_dict_keyiterator_next ?_ (F.args_dict_keyiterator_next_1 _))))
 refine A6 (A7 (A6 (A6 ?_)))
 first|refine A6 (a8 ki.typeIs (A7 ?_))|refine A6 (wpAny_typeNameOf_keyiter ki.typeIs (A7 ?_))
 refine A6 (wpAny_fieldsOf gi di ?_)
 have own:Builtin.Dict_items.ownsTuple "dict_keyiterator"=false:=rfl
 simp only[own,B0,m5]
 show wpAny (model prog w) _ (if(Value.ref d==Value.none)=true then _ else _) _ _ s
 rw[B4 (by exact l8)]
 refine A6 (A7 (A6 (wpAny_dictEntries hb db ?_)))
 rw[B4 (by simp)]
 refine A6 (A7 (A6 (wpAny_dictEpoch hb db ?_)))
 rw[B4 (by simp)]
 refine A7 ?_
 have nn:¬((i:Int) < 0):=by omega
 by_cases lt:i < es.size
 ·simp only[nn,B0,n6,c9 lt]
  refine A6 ?_
  first|refine A6 (a8 ki.typeIs (A7 ?_))|refine A6 (wpAny_typeNameOf_keyiter ki.typeIs (A7 ?_))
  refine A6 (wpAny_isOneOf_keyiter ki.typeIs ?_)
  show wpAny (model prog w) _ (setField (.ref it) 1 (rawInt ((i:Int)+1)) >>= _) _ _ s
  refine A6 (wpAny_setField gi di (by simp) ?_)
  have k2:(s.heap.update it (Obj.mapFields (·.setIfInBounds 1 (rawInt ((i:Int)+1))))).IsKeyIter it d (i+1) es.size ep:=
   ⟨_,j4 _ gi (Obj.isFreed_of_fields (Obj.data_mapFields di _)),(Obj.cls_mapFields ..).trans ci,by rw[Obj.data_mapFields di];simp[rawInt]⟩
  refine A6 (y7 (A6 (wpAny_isOneOf_keyiter (s:={s with heap:=s.heap.update it (Obj.mapFields (·.setIfInBounds 1 (rawInt ((i:Int)+1))))}) k2.typeIs ?_)))
  show wpAny (model prog w) _ (pure es[i].key) _ _ _
  exact A7 (A7 ⟨_,rfl,A7 (hi _ (c9 lt) _ k2 (k9 ..))⟩)
 ·have ge:es.size<=i:=q8 lt
  simp only[nn,B0,n6,j1 ge]
  refine A6 ?_
  first|refine A6 (a8 ki.typeIs (A7 ?_))|refine A6 (wpAny_typeNameOf_keyiter ki.typeIs (A7 ?_))
  show wpAny (model prog w) _ (setField (.ref it) 0 .none >>= _) _ _ s
  refine A6 (wpAny_setField gi di (by simp) ?_)
  show wpAny (model prog w) _ (newExc (.type "StopIteration") [] >>= _) _ _ _
  refine A6 ?_
  simp only[newTuple,newExc]
  refine A6 (n9 ?_ (by size_fits))
  refine A6 (m:=firstArgMember _ _) (wpAny_of_eq (a:=Value.none) (by first|rfl|(simp only[firstArgMember];rfl)) (n9 ?_ (by size_fits)))
  simp only[raiseNew]
  refine A6 (wpAny_handled ?_)
  rw[show A.in1.handled=none from hn]
  refine A6 (A7 (wpAny_throw ?_))
  refine A6 (wpAny_isInstance (b:=true) (T:="StopIteration") ⟨_,l6 _ rfl,rfl⟩ isSubtype_stop ?_)
  exact A7 (he (j1 ge) _ (((k9 ..).extBut.push _).push _))
theorem yX(hn:A.handled=none)(I d:Addr)(ne:d≠I)(es:Array DictEntry)(ep:Nat):
  Walks prog w A I [I,d] [I] es.size (λ i v=>∃e,es[i]?=some e/\v=e.key) (λ i g=>g.IsKeyIter I d i es.size ep/\Raw g d es ep) where
 sub:=λ b m=>by simp at m;simp[m]
 frame:=λ _ _ _ st k=>⟨st.1.at λ o e=>k I (by simp) o e,st.2.to λ o e=>k d (by simp) o e⟩
 item:=λ i s Q E lt st fin=>pU st.1 st.2 rfl (λ e ee g k2 sb=>fin e.key g s.toks ⟨e,ee,rfl⟩ ⟨k2,st.2.to λ o q=>sb.extBut d o ne q⟩ λ b o m q=>sb.extBut b o (λ z=>m (by simp[z])) q) hn λ e=>absurd e (by rw[c9 lt];exact λ z=>nomatch z)
 done:=λ s Q E st fin=>pU st.1 st.2 rfl (λ e ee=>absurd ee (by rw[j1 (A2 _)];exact λ z=>nomatch z)) hn λ _ g sb=>fin g s.toks λ b o m q=>sb b o (λ z=>m (by simp[z])) q
 self:=λ _ _ _ _ st fin=>wpAny_pyIter_keyiter st.1 fin
theorem C4{d:Addr}{es:Array DictEntry}{ep:Nat}(nd:(d==sysModules)=false):KdlSrc prog w "dict" d d es.size (λ i v=>∃e,es[i]?=some e/\v=e.key) (λ g=>Raw g d es ep) where
 type:=λ _ x=>x.ty
 there:=λ _ x=>⟨x.lt,x.lt⟩
 keep:=λ _ _ x k=>x.to λ o e=>k d (.inl rfl) o e
 notList:=by decide
 notTuple:=by decide
 hint:=λ _ _ _ _ x q=>kdl_hint_dict x.ty q
 iter:=λ _ _ hn x=>⟨_,_,(λ _ _ q=>yY nd x q),yX hn _ d (z7 x.lt) es ep,⟨⟨_,l6 _ rfl,rfl,rfl⟩,x.to λ o e=>j2 _ e⟩⟩
theorem wt{es:Array DictEntry}{acc:Array Value}(it:ItemsOf (λ i v=>∃e,es[i]?=some e/\v=e.key) acc es.size):acc.toList=es.toList.map (·.key):=by
 apply ext_getElem?
 intro i
 by_cases lt:i < acc.size
 ·have le:i < es.size:=by rw[<- it.1];exact lt
  obtain⟨e,e1,e2⟩:=it.2 i acc[i] (c9 lt)
  rw[j7,c9 lt,n4,j7,e1,e2]
  rfl
 ·have le:¬i < es.size:=by rw[<- it.1];exact lt
  rw[j7,j1 (q8 lt),n4,j7,j1 (q8 le)]
  rfl
theorem qW{d:Addr}{es:Array DictEntry}{ep:Nat}{R:List Value->Shared->Prop}(nd:(d==sysModules)=false)(hn:A.handled=none)(x:Raw s.heap d es ep)(hz:es.size<=sizeLine)
  (h:∀g tk,(∀b o,s.heap.get? b=some o->g.get? b=some o)->R (es.toList.map (·.key)) {s with heap:=g,toks:=tk}):wpAny (model prog w) A (collect (.ref d)) R E s:=by
 refine kdu_collect (C4 nd) hn x hz λ g tk acc k it=>?_
 have e:=wt it
 rw[e]
 exact h g tk k
end
end L5
namespace L5
open PySem PySem.W PySem.Calls PyProof.Rows
section
variable {prog:Program}{w:World}{A:Around}{E:Value->Shared->Prop}{s:Shared}
theorem Ci{d q:Addr}{es:Array DictEntry}{ep:Nat}{Q:Value->Shared->Prop}(nd:(d==sysModules)=false)(hn:A.handled=none)(x:Raw s.heap d es ep)(qE:es.size < 64)
  (h:∀(Dd kS:Addr) (g0 g:Heap) (tk e1:Nat),(∀b o,s.heap.get? b=some o->g0.get? b=some o)->Dd≠kS->g0.objs.size<=Dd->g0.objs.size<=kS->g.get? Dd=some (seqObj "list" #[] e1)->g.get? kS=some (seqObj "list" #[] 0)->(∀b o,s.heap.get? b=some o->g.get? b=some o)->
   wpAny (model prog w) A.in1.in1 (ksk_rest Dd (.ref q) false (es.toList.map (·.key)).toArray e1 (.ref kS)) (λ f s'=>f=.done (.ret .none)/\Q (.ref Dd) s') E {s with heap:=g,toks:=tk}):
  wpAny (model prog w) A (call (.builtin "sorted") [.ref d] [(Str.ofString "key",.ref q)]) Q E s:=by
 refine call_function_entry_kw kind_sorted plain_sorted entry_sorted (ksk_s1 _ _) ?_
 unfold Builtin.«sorted»
 have hlen:(es.toList.map (·.key)).length=es.size:=by simp
 refine A6 (m:=checkCount "sorted" 1 1 _) (A7 (A6 (qW nd (show A.in1.handled=none from hn) x (by rw[A3];omega) λ g tk gk=>A6 (wpAny_newList ?_ (by rw[hlen,A3];omega)))))
 generalize Q_:es.toList.map (·.key)=vs at*
 have Py:g.objs.size≠g.objs.size+2:=by omega
 have g1:(g.push (seqObj "list" vs.toArray 0)).get? g.objs.size=some (seqObj "list" vs.toArray 0):=l6 _ rfl
 refine A6 (y7 (wpAny_call_entry_kw slot_list_sort ⟨_,g1,rfl⟩ entry_list_sort ?body (ksk_l1 _ _)))
 case body=>
  show wpAny (model prog w) A.in1.in1 (Builtin.«list.sort» ⟨[.ref g.objs.size],[(Str.ofString "key",.ref q)]⟩) _ _ _
  rw[ksk_t1]
  unfold ksk_tree
  generalize hH:g.push (seqObj "list" vs.toArray 0)=H at*
  have eH:H.objs.size=g.objs.size+1:=by rw[<- hH,size_push']
  obtain⟨c1,o1⟩:∃c1,(H.update g.objs.size (Obj.mapSeq λ _=>(#[]:Array Value))).get? g.objs.size=some (seqObj "list" #[] c1):=⟨_,get?_update_seq g1 λ _=>#[]⟩
  refine A6 (listItems_at g1 rfl (A6 (listUpdate_at g1 rfl (A6 (seqEpoch_at o1 rfl (A6 (wpAny_newTuple (A6 (wpAny_newList (y7 ?_) (A4 _))) (by show vs.length<=_;rw[A3];omega))))) (by rw[p7,A3];omega) (A4 _))))
  have e2:(H.update g.objs.size (Obj.mapSeq λ _=>(#[]:Array Value))).objs.size=g.objs.size+1:=by rw[Heap.size_update,eH]
  have e3:((H.update g.objs.size (Obj.mapSeq λ _=>(#[]:Array Value))).push (seqObj "tuple" vs.toArray 0)).objs.size=g.objs.size+2:=by rw[size_push',e2]
  have g3:(((H.update g.objs.size (Obj.mapSeq λ _=>(#[]:Array Value))).push (seqObj "tuple" vs.toArray 0)).push (seqObj "list" #[] 0)).get? (g.objs.size+2)=some (seqObj "list" #[] 0):=by rw[<- e3];exact l6 _ rfl
  show wpAny (model prog w) A.in1.in1 (ksk_rest g.objs.size (.ref q) false vs.toArray c1 (.ref ((H.update g.objs.size (Obj.mapSeq λ _=>(#[]:Array Value))).push (seqObj "tuple" vs.toArray 0)).objs.size)) _ _ {s with heap:=((H.update g.objs.size (Obj.mapSeq λ _=>(#[]:Array Value))).push (seqObj "tuple" vs.toArray 0)).push (seqObj "list" #[] 0),toks:=tk}
  rw[e3]
  refine A9 (h g.objs.size (g.objs.size+2) g _ tk c1 gk Py (A2 _) (Nat.le_add_right _ _) (j2 _ (j2 _ o1)) g3 λ b o y=>j2 _ (j2 _ (by
   have hb:b < g.objs.size:=z8 (gk b o y)
   rw[Heap.get?_update_ne _ _ _ _ (z7 hb),<- hH];exact j2 _ (gk b o y)))) (λ f s' hf=>?_) λ _ _ z=>z
  obtain⟨rfl,hq⟩:=hf
  exact⟨_,rfl,A7 ⟨_,rfl,hq⟩⟩
end
end L5
namespace L2
open PySem PySem.Spec PyProof.Rows L5 PySem.W
section
variable {X:Cx}{pins:List (Addr×Obj)}{σ:St}{H:Hp}{s:Shared}
variable {k:Nat}{q:Addr}{fd:FuncData}{ps:List Str}{sp:Sp}
def Goes(X:Cx)(q l:Addr)(ah:List Value)(s:Shared):Prop:=∀(Q:Value->Shared->Prop),
 (∀(Dd kS:Addr) (g0 g:Heap) (tk e1:Nat),(∀b o,s.heap.get? b=some o->g0.get? b=some o)->Dd≠kS->g0.objs.size<=Dd->g0.objs.size<=kS->g.get? Dd=some (seqObj "list" #[] e1)->g.get? kS=some (seqObj "list" #[] 0)->(∀b o,s.heap.get? b=some o->g.get? b=some o)->
  wpAny (model X.prog X.w) X.A.in1.in1 (ksk_rest Dd (.ref q) false ah.toArray e1 (.ref kS)) (λ f s'=>f=.done (.ret .none)/\Q (.ref Dd) s') X.xe {s with heap:=g,toks:=tk})->
 wpAny (model X.prog X.w) X.A (call (.builtin "sorted") [.ref l] [(Str.ofString "key",.ref q)]) Q X.xe s
theorem tT(F:bw X.prog X.w X.K X.mg X.base eP k q fd ps sp)(hb:Binds X.K fd ps [])(hr:bA (k+2) X.A){l:Addr}{ys:List V}{Q:VK}{b:Bool}(I:Inv X pins σ H s){ah:List Value}(rv:Vals ys ah)(go:Goes X q l ah s)(qE:ys.length < 64)(R:List V->Hp->Prop)(key:Nat->Ky)(h0:R [] H)
  (hc:∀kvs H v,R kvs H->ys[kvs.length]?=some v->sp [v] H (λ k H'=>R (kvs++[k]) H') E0)
  (hk:∀kvs H,R kvs H->kvs.length=ys.length->(∀i k,kvs[i]?=some k->kN X.K b H k (key i))/\∀p out,H p=none->Out (λ i j=>klt (key i) (key j)) ys V.a_ out->Q (.ref p) (upd H p (.lst out))):
  wpAny (model X.prog X.w) X.A (call (.builtin "sorted") [.ref l] [(Str.ofString "key",.ref q)]) (EP X pins σ Q) X.xe s:=by
 have hlen:=rv.length
 have hu:=hr.units
 have room:bA k X.A.in1.in1:=(hr.in1 (k:=k+1)).in1
 refine go _ λ Dd kS g0 g tk e1 TR eR lD lK gD gK gk=>?_
 have I0:Inv X pins σ H {s with heap:=g0,toks:=tk}:=I.kept (t':=tk) TR
 have f1:=I0.iX (H':=λ _=>none) (b:=Dd) lD rfl
 have f3:=I0.iX (H':=λ _=>none) (b:=kS) lK rfl
 refine Eh (J:=λ ks e s'=>∃kvs H',Inv X ((kS,seqObj "list" (List.toArray ks) e)::(Dd,seqObj "list" #[] e1)::pins) σ H' s'/\Vals kvs ks/\R kvs H'/\ks.length<=ah.length) (by omega) ?_ ?_ ?_ ?_
 ·rintro ks e s' ⟨kvs,H',I',rk,hR,EF⟩
  exact⟨(I'.pin _ (j5 _ (.head _))).1,EF⟩
 ·rintro x ks e s' ⟨kvs,H',I',rk,hR,EF⟩ hx
  have lk:=rk.length
  obtain⟨y,hy,ry⟩:∃y,ys[kvs.length]?=some y/\RelV y x:=by
   have hi:kvs.length < ys.length:=by
    have:=(g9.mp hx).1
    omega
   obtain⟨u,J7,ru⟩:=rv.get (i5 hi)
   rw[lk,hx]at J7
   cases J7
   exact⟨_,i5 hi,ru⟩
  have call:=hc kvs H' y hR hy
  have r1:Vals [y] [x]:=.cons ry .nil
  have Pr:([x]++([]:List Value)).length=ps.length:=by
   have:=F.len _ _ _ _ call
   simpa using this
  have en:kR X.prog X.w X.K X.mg X.base X.A.in1.in1 X.stack s' H':=I'.EU.in1.in1
  have bt:=hb s' [x] I'.eQ Pr
  rw[u9]at bt
  refine wpAny_call (codeAny_mono (F.run X.A.in1.in1 X.stack s' H' ⟨[x],[]⟩ [x] [y] _ E0 room en bt r1 call) λ r s2 hq=>?_)
  cases r with
  |error e=>exact hq
  |ok fl=>
   cases fl with
   |ret u=>
    obtain⟨kv,H2,I2,ru,Tq⟩:=I'.after hq
    have pk:=I2.pin _ (j5 _ (l7 ..))
    refine⟨pk.1,λ h' c Te sb=>⟨kvs++[kv],H2,?_,rk.append (.cons ru .nil),Tq,?_⟩⟩
    ·have I3:Inv X ((Dd,seqObj "list" #[] e1)::pins) σ H2 s2:=I2.cZ λ p hp=>I2.pin p (j5 _ (.tail _ hp))
     have pd:=I2.pin _ (j5 _ (List.Mem.tail _ (l7 ..)))
     have fk:gu X ((Dd,seqObj "list" #[] e1)::pins) H2 (kS):=⟨pk.2.1,f3.2.1,f3.2.2.1,f3.2.2.2.1,f3.2.2.2.2.1,λ p hp=>by
      rcases x9.mp hp with z|z
      ·exact f3.2.2.2.2.2 p (mem_append_left _ z)
      ·rcases z5.mp z with rfl|z
       ·exact eR
       ·exact f3.2.2.2.2.2 p (j5 _ z)⟩
     have I4:Inv X ((Dd,seqObj "list" #[] e1)::pins) σ H2 {s2 with heap:=h'}:=pB (t':=s2.toks) (ch:=[kS]) I3 (λ b o hb e=>(sb.2 b (λ z=>hb (by simp[z]))).trans e) λ b AI=>by
      have:b=kS:=by simpa using AI
      subst this
      exact fk
     refine I4.cZ λ p hp=>?_
     rcases z5.mp hp with rfl|z
     ·exact⟨Te,pk.2.1,f3.2.1,f3.2.2.1,λ v z=>by cases z⟩
     ·exact I4.pin p (j5 _ z)
    ·have:=(g9.mp hx).1
     rw[l9,j6]
     omega
   |next=>exact hq.elim
   |brk=>exact hq.elim
   |cont=>exact hq.elim
 ·have I5:Inv X pins σ H {s with heap:=g,toks:=tk}:=I.kept (t':=tk) gk
  have hn:∀b,g0.objs.size<=b->H b=none:=λ b hb=>I0.aL.fresh hb
  refine⟨[],H,I5.cZ λ p hp=>?_,.nil,h0,A4 _⟩
  rcases z5.mp hp with rfl|z
  ·exact⟨gK,hn _ lK,f3.2.1,f3.2.2.1,λ v z=>by cases z⟩
  ·rcases z5.mp z with rfl|z
   ·exact⟨gD,hn _ lD,f1.2.1,f1.2.2.1,λ v z=>by cases z⟩
   ·exact I5.pin p (j5 _ z)
 ·rintro ks e s' ⟨kvs,H',I',rk,hR,_⟩ EF
  have lk:=rk.length
  obtain⟨AD,hQ⟩:=hk kvs H' hR (by omega)
  have pk:=I'.pin _ (j5 _ (l7 ..))
  have pd:=I'.pin _ (j5 _ (List.Mem.tail _ (l7 ..)))
  have Ra:X.A.in1.in1.units+1 < cLine:=by have:=room.units;omega
  refine IJ (κ:=tuples' true) (Ei key) EF (by omega) pk.1 pd.1 eR (λ h2 C hC=>?_) (λ h2 i j C hi hj hC=>?_) λ out h' c ho hD Mg=>⟨rfl,?_⟩
  ·obtain⟨fs,t1,t2,t3⟩:=qp I' rk AD
   refine kat_kind (T:=.type "int") t1 (by omega) (λ v hv=>?_) rfl hC
   obtain⟨i,t,rfl⟩:=t3 v hv
   exact(show Looks _ s'.heap (pure (Value.type "int")) _ from .now)
  ·have gi:∀i,i < ah.length->∃k u,kvs[i]?=some k/\ks.getD i Value.none=u/\RelV k u:=λ i hi=>by
    have Mk:i < kvs.length:=by omega
    obtain⟨u,e,r⟩:=rk.get (i5 Mk)
    exact⟨_,u,i5 Mk,by rw[c7,e];rfl,r⟩
   obtain⟨k1,u1,a1,a2,a3⟩:=gi i hi
   obtain⟨k2,u2,b1,b2,b3⟩:=gi j hj
   rw[a2,b2]
   exact IQ I' Ra (AD i k1 a1) (AD j k2 b1) a3 b3 hC
  ·obtain⟨p,p1,p2,p3⟩:=ho
   subst p3
   have I6:Inv X pins σ H' s':=I'.cZ λ p hp=>I'.pin p (j5 _ (.tail _ (.tail _ hp)))
   have I7:Inv X pins σ H' {s' with heap:=h'}:=pB (t':=s'.toks) (ch:=[Dd,kS]) I6 (λ b o hb e=>Mg b o (λ z=>hb (by simp[z])) (λ z=>hb (by simp[z])) e) λ b AI=>by
    simp at AI
    rcases AI with rfl|rfl
    ·exact⟨pd.2.1,f1.2⟩
    ·exact⟨pk.2.1,f3.2⟩
   have R6:Vals (p.toList.map λ i=>ys.getD i V.a_) (p.toList.map λ i=>ah.getD i Value.none):=yc rv _
   have Pb:(p.toList.map λ i=>ys.getD i V.a_).length<=sizeLine:=by
    rw[x8,l5,p1.size,A3]
    omega
   refine⟨.ref (Dd),_,Inv.ue (D:=Dd) (o:=.lst (p.toList.map λ i=>ys.getD i V.a_)) I7 pd.2.1 (show _/\∃(ah:List Value) (n:Nat),Vals _ ah/\_ from⟨Pb,_,c,R6,hD⟩) f1.2.1 (A1 I0.sz lD) f1.2.2.2.2.1 f1.2.2.2.2.2,rfl,hQ _ _ pd.2.1 ⟨p,by rw[hlen];exact p1,by rw[hlen];exact p2,rfl⟩⟩
end
end L2
namespace L5
open PySem
section
variable {α β γ:Type}[DecidableEq α][DecidableEq γ]
def gP(acc:List (α×β))(p:α×β):List (α×β):=if p.1∈acc.map (·.1)then acc else acc++[p]
def dA(ps:List (α×β)):List (α×β):=ps.foldl gP []
def gQ(acc:List γ)(r:γ):List γ:=if r∈acc then acc else acc++[r]
def once(rs:List γ):List γ:=rs.foldl gQ []
theorem wM{acc:List (α×β)}{p q:α×β}(h:q∈gP acc p):q∈acc\/q=p:=by
 unfold gP at h
 split at h
 ·exact .inl h
 ·simpa using h
theorem qh:∀(ps acc:List (α×β)) (q:α×β),q∈ps.foldl gP acc->q∈acc\/q∈ps
 |[],_,_,h=>.inl h
 |p::ps,acc,q,h=>by
  rcases qh ps _ q h with h|h
  ·rcases wM h with h|h
   ·exact .inl h
   ·exact .inr (by simp[h])
  ·exact .inr (by simp[h])
theorem sU{ps:List (α×β)}{q:α×β}(h:q∈dA ps):q∈ps:=by
 rcases qh ps [] q h with h|h
 ·cases h
 ·exact h
theorem mx(F:γ->α)(inj:∀a b,F a=F b->a=b):∀(ps acc:List (α×β)) (rs ac:List γ),acc.map (·.1)=ac.map F->ps.map (·.1)=rs.map F->(ps.foldl gP acc).map (·.1)=(rs.foldl gQ ac).map F
 |[],_,[],_,h,_=>h
 |[],_,_::_,_,_,e=>by simp at e
 |_::_,_,[],_,_,e=>by simp at e
 |p::ps,acc,r::rs,ac,h,e=>by
  simp only[z4,List.cons.injEq]at e
  refine mx F inj ps _ rs _ ?_ e.2
  have iff:p.1∈acc.map (·.1)↔r∈ac:=by
   rw[h,e.1,z9]
   constructor
   ·rintro⟨a,ha,hb⟩
    rw[<- inj _ _ hb]
    exact ha
   ·exact λ ha=>⟨r,ha,rfl⟩
  unfold gP gQ
  by_cases m:r∈ac
  ·rw[B3 m,B3 (iff.mpr m)]
   exact h
  ·rw[B4 m,B4 (λ z=>m (iff.mp z))]
   simp[h,e.1]
theorem qH(F:γ->α)(inj:∀a b,F a=F b->a=b){ps:List (α×β)}{rs:List γ}(e:ps.map (·.1)=rs.map F):(dA ps).map (·.1)=(once rs).map F:=mx F inj ps [] rs [] rfl e
theorem md:∀(rs acc:List γ) (q:γ),q∈rs.foldl gQ acc->q∈acc\/q∈rs
 |[],_,_,h=>.inl h
 |p::ps,acc,q,h=>by
  rcases md ps _ q h with h|h
  ·unfold gQ at h
   split at h
   ·exact .inl h
   ·rcases x9.mp h with h|h
    ·exact .inl h
    ·exact .inr (by simp at h;simp[h])
  ·exact .inr (by simp[h])
theorem qg{rs:List γ}{q:γ}(h:q∈once rs):q∈rs:=by
 rcases md rs [] q h with h|h
 ·cases h
 ·exact h
theorem mh:∀(rs acc:List γ),(rs.foldl gQ acc).length<=acc.length+rs.length
 |[],_=>by simp
 |p::ps,acc=>by
  have h:=mh ps (gQ acc p)
  have h2:(gQ acc p).length<=acc.length+1:=by
   unfold gQ
   split <;> simp
  simp only[foldl_cons,q9]
  omega
theorem zX(rs:List γ):(once rs).length<=rs.length:=by
 have:=mh rs []
 simpa[once]using this
end
def ka(x:Ent):List L2.Key×Addr:=(x.1,x.2.1)
theorem IU(k:List L2.Key)(v:Value)(x:Ent):ka (putAt k v x)=ka x:=by
 unfold putAt ka
 split <;> rfl
theorem BB(xs:List Ent)(k:List L2.Key):(atKey xs k).isSome=true↔k∈(xs.map ka).map (·.1):=by
 unfold atKey
 rw[p6,find?_isSome]
 constructor
 ·rintro⟨x,hx,e⟩
  refine z9.mpr ⟨ka x,z9.mpr ⟨x,hx,rfl⟩,of_decide_eq_true e⟩
 ·intro h
  obtain⟨p,hp,e⟩:=z9.mp h
  obtain⟨x,hx,rfl⟩:=z9.mp hp
  exact⟨x,hx,y2 e⟩
theorem wU(xs:List Ent)(p:Ent):(storedH xs p.1 p.2.1 p.2.2).map ka=gP (xs.map ka) (ka p):=by
 unfold storedH gP
 by_cases h:(atKey xs p.1).isSome=true
 ·rw[B3 h,B3 (show(ka p).1∈_ from(BB xs p.1).mp h),A0]
  exact map_congr_left λ x _=>IU _ _ x
 ·rw[B4 h,B4 (show ¬(ka p).1∈(xs.map ka).map (·.1)from λ z=>h ((BB xs p.1).mpr z)),y0]
  rfl
theorem Ab:∀(ps xs:List Ent),(putAll xs ps).map ka=(ps.map ka).foldl gP (xs.map ka)
 |[],_=>rfl
 |p::ps,xs=>by
  show(putAll (storedH xs p.1 p.2.1 p.2.2) ps).map ka=_
  rw[Ab ps,wU]
  rfl
theorem uS:∀(ps xs:List Ent),(putAll xs ps).length<=xs.length+ps.length
 |[],_=>by simp[putAll]
 |p::ps,xs=>by
  have h:=uS ps (storedH xs p.1 p.2.1 p.2.2)
  have h2:=iC xs p
  have e:putAll xs (p::ps)=putAll (storedH xs p.1 p.2.1 p.2.2) ps:=rfl
  rw[e,q9]
  omega
end L5
namespace L2
open PySem PySem.Spec PyProof.Rows L5 PySem.W
def gq(K:PySem.W.Frag)(H:Hp):List V->List (List Key×Addr)->Prop
 |[],[]=>True
 |y::ys,p::ps=>(∃(t:Addr) (v:V) (r:List Int),y=.ref t/\ef K H t [.ref p.2,v]/\p.1=r.map Sum.inl/\ef K H p.2 (r.map V.int))/\gq K H ys ps
 |_,_=>False
theorem gq.row {K:PySem.W.Frag}{H:Hp}:∀{ys:List V} {ps:List (List Key×Addr)},gq K H ys ps->∀p∈ps,∃r:List Int,p.1=r.map Sum.inl/\ef K H p.2 (r.map V.int)
 |[],[],_,_,m=>by cases m
 |[],_::_,h,_,_=>h.elim
 |_::_,[],h,_,_=>h.elim
 |y::ys,q::ps,⟨⟨t,v,r,_,_,h1,h2⟩,h⟩,p,m=>by
  rcases z5.mp m with rfl|m
  ·exact⟨r,h1,h2⟩
  ·exact gq.row h p m
section
variable {X:Cx}{pins:List (Addr×Obj)}{σ:St}{H:Hp}{s:Shared}
theorem j'{prog:Program}{w:World}:∀{ah:List Value} {r:List Int},Vals (r.map V.int) ah->ItemsAre (bG prog w) (r.map Sum.inl) ah
 |ah,[],h=>by cases h;exact .nil
 |ah,i::r,h=>by
  cases h with
  |cons h1 h2=>
   obtain⟨t,rfl⟩:=h1
   exact .cons (iG prog w i t) (j' h2)
theorem jT(I:Inv X pins σ H s):∀{ys:List V} {kp:List (List Key×Addr)} {ah:List Value},gq X.K H ys kp->Vals ys ah->∃ps:List Ent,ps.map ka=kp/\ah.length=ps.length/\∀(j:Nat) (u:Value) (p:Ent),ah[j]?=some u->ps[j]?=some p->iy X.prog X.w s.heap u p
 |[],[],_,_,.nil=>⟨[],rfl,rfl,λ j u p h=>by simp at h⟩
 |[],_::_,_,h,_=>h.elim
 |_::_,[],_,h,_=>h.elim
 |y::ys,q::kp,_,h0,.cons (b:=u0) e0 er=>by
  obtain⟨⟨t,v,r,rfl,h1,h2,h3⟩,h⟩:=h0
  obtain⟨ps,p1,p2,p3⟩:=jT I h er
  cases(show u0=Value.ref t from e0)
  obtain⟨i2,r2,⟨o,ho,hc,n,hd⟩,_⟩:=I.tuple h1
  obtain⟨u1,u2,rfl,q1,q2⟩:=vals2 r2
  cases(show u1=Value.ref q.2 from q1)
  obtain⟨i3,r3,⟨o3,SS,Tj,n3,Mp⟩,_⟩:=I.tuple h3
  refine⟨(q.1,q.2,u2)::ps,by simp[ka,p1],by simp[p2],λ j u p e1 e2=>?_⟩
  cases j with
  |zero=>
   simp at e1 e2
   subst e1 e2
   refine⟨⟨t,rfl,o,ho,hc,n,hd⟩,o3,i3.toArray,n3,SS,Tj,Mp,?_⟩
   rw[h2]
   exact j' r3
  |succ j=>exact p3 j u p (by simpa using e1) (by simpa using e2)
end
section
variable {X:Cx}{e:Expr}{te:TE}{p p2 pos cU fp kp:Pos}{f:Str}{k:Nat}{ps:List Str}{sp:Sp}
def nG(K:PySem.W.Frag)(sp:Sp)(x:V)(H:Hp)(Q:VK):Prop:=∃(l:Addr) (ys zs:List V) (kp:List (List Key×Addr)) (b:Bool) (R:List V->Hp->Prop) (key:Nat->Ky),x=.ref l/\cS K H l ys/\ys.length < 64/\gq K H ys kp/\zs=(dA kp).map (λ p=>V.ref p.2)/\R [] H/\
 (∀kvs H v,R kvs H->zs[kvs.length]?=some v->sp [v] H (λ k H'=>R (kvs++[k]) H') E0)/\
 ∀kvs H,R kvs H->kvs.length=zs.length->(∀i k,kvs[i]?=some k->kN K b H k (key i))/\∀p out,H p=none->Out (λ i j=>klt (key i) (key j)) zs V.a_ out->Q (.ref p) (upd H p (.lst out))
theorem lJ:∀as:List Addr,Vals (as.map V.ref) (as.map Value.ref)
 |[]=>.nil
 |a::as=>.cons rfl (lJ as)
theorem pX(d:bP X.prog X.w X.K X.mg X.base k f ps sp)(hr:bA (k+2) X.A)(hg:Gl X "sorted")(hm:X.mg "sorted"=none)(BP:Gl X "dict")(Mc:X.mg "dict"=none)(Mm:Gl X f)(he:PE X e te)(AG:(f==("__debug__":Str))=false:=by decide)
  (hs:starEach [.Call (.Name "dict" p2) [e] [] cU] X.env=[(false,eval (.Call (.Name "dict" p2) [e] [] cU) X.env)]:=by rfl) (oo:backTo pos (starEach [.Call (.Name "dict" p2) [e] [] cU] X.env)=(false,eval (.Call (.Name "dict" p2) [e] [] cU) X.env)::backTo pos (starEach [] X.env):=by rfl) (hs2:(backTo pos (starEach [.Call (.Name "dict" p2) [e] [] cU] X.env)).any (·.1)=false:=by rfl)
  (ht:starEach [e] X.env=[(false,eval e X.env)]:=by rfl) (LS:starEach [e] X.env=(false,eval e X.env)::starEach [] X.env:=by rfl) (LR:(backTo cU (starEach [] X.env)).any (·.1)=false:=by rfl):
  PE X (.Call (.Name "sorted" p) [.Call (.Name "dict" p2) [e] [] cU] [⟨some "key",.Name f fp,kp⟩] pos) (λ σ H Q=>te σ H λ x H1=>nG X.K sp x H1 Q):=by
 intro pins s σ H Q I h
 obtain⟨q,fd,G,SY,kq,bd⟩:=d.ex
 refine n0 (eK I hg hm PyProof.Rows.boot_sorted ?_ (by decide) (by decide))
 refine PyProof.Rows.callWith_kw ?_ oo hs2
 rw[hs]
 show wpAny _ _ (spliced ((false,eval (.Call (.Name "dict" p2) [e] [] cU) X.env)::[])) _ _ s
 refine Calls.spliced_cons (n0 (eK I BP Mc PyProof.Rows.boot_dict ?_ (by decide) (by decide)))
 refine c4 (cg ((aK he cu (by rw[ht];rfl)) cU pins s σ H (λ vs H1=>match vs with|[x]=>nG X.K sp x H1 Q|_=>False) I h) λ us s1 ⟨vs,H1,I1,r1,q1⟩=>?_) LS LR
 cases vs with
 |nil=>exact q1.elim
 |cons x vs=>
  cases vs with
  |cons _ _=>exact q1.elim
  |nil=>
  have q1:nG X.K sp x H1 Q:=q1
  obtain⟨u,rfl,ru⟩:=vals1 r1
  obtain⟨l,ys,zs,BL,b,R,key,rfl,hl,qE,hp,rfl,h0,hc,hk⟩:=q1
  cases(show u=Value.ref l from ru)
  obtain⟨ah,rv,pl,hz⟩:=I1.list hl
  have hlen:=rv.length
  obtain⟨es,e1,e2,e3⟩:=jT I1 hp rv
  have hu:=hr.un
  have ol:∃o,s1.heap.get? l=some o/\o.dict=none:=by
   obtain⟨o,n,a1,a2,a3,a4⟩:=pl
   exact⟨o,a1,a3⟩
  have two:(s1.heap.objs.size==sysModules)=false:=by
   obtain⟨o,n,a1,a2,a3,a4⟩:=pl
   obtain⟨m,⟨o',b1,b2,b3,b4,_⟩,_⟩:=I1.loc
   have ne:l≠X.env.locals:=λ z=>by
    rw[z,b3]at a1
    cases a1
    rw[a4]at b4
    cases b4
   have l1:l < s1.heap.objs.size:=z8 a1
   have l2:X.env.locals < s1.heap.objs.size:=z8 b3
   refine beq_eq_false_iff_ne.mpr λ z=>?_
   have z:s1.heap.objs.size=1:=z
   have:∀a b:Nat,a≠b->a < 1->b < 1->False:=λ a b _ _ _=>by omega
   exact this l X.env.locals ne (z▸l1) (z▸l2)
  refine D7 (by omega) hr.hd pl.isList ol e2 (by omega) e3 λ g tk gk gd gz=>?_
  have I2:Inv X pins σ H1 {s1 with heap:=g,toks:=tk}:=I1.kept (t':=tk) gk
  refine Calls.spliced_nil ?_
  show wpAny _ _ (evalAll ((do let v <- eval (.Name f fp) X.env;standAt pos;pure v)::[])) _ _ _
  refine wpAny_evalAll_cons (A6 (eJ I2 Mm SY (A6 (wpAny_standAt (A7 (wpAny_evalAll_nil ?_)))) AG))
  obtain⟨o,MB,ep,o1,o2,o3,o4,o5,o6⟩:=gd
  have ek:(putAll [] es).map ka=dA BL:=by
   rw[Ab,e1]
   rfl
  have ev:MB.toList.map (·.key)=((dA BL).map (·.2)).map Value.ref:=by
   rw[o4,<- ek,A0,A0,A0]
   rfl
  have hsz:MB.size < 64:=by
   have a:=uS es []
   have b:MB.toList.length=(putAll [] es).length:=by rw[o4,x8]
   rw[l5]at b
   simp at a
   omega
  have ez:(dA BL).map (λ p=>V.ref p.2)=((dA BL).map (·.2)).map V.ref:=by
   rw[A0]
   rfl
  have lz:((dA BL).map (λ p=>V.ref p.2)).length < 64:=by
   have b:(dA BL).length=MB.size:=by
    have:=B1 List.length ev
    simpa using this.symm
   rw[x8,b]
   exact hsz
  have go:Goes X q s1.heap.objs.size (((dA BL).map (·.2)).map Value.ref) {s1 with heap:=g,toks:=tk}:=by
   intro Q' hQ
   refine Ci (s:={s1 with heap:=g,toks:=tk}) two hr.hd (⟨o,o1,o2,o3⟩:Raw g _ MB ep) hsz λ Dd kS g0 g' uh Jt a1 a2 a3 a4 a5 a6 a7=>?_
   rw[ev]
   exact hQ Dd kS g0 g' uh Jt a1 a2 a3 a4 a5 a6 a7
  exact tT G bd hr I2 (by rw[ez];exact lJ _) go lz R key h0 hc hk
end
end L2
namespace L3
open PySem PySem.Spec L2 L5
def wg(r:List Int):D:=.tup (r.map D.int)
def pairD(r:List Int):D:=.tup [wg r,.bl true]
theorem nY:∀a b:List Int,(a.map Sum.inl:List Key)=b.map Sum.inl->a=b
 |[],[],_=>rfl
 |[],_::_,h=>by cases h
 |_::_,[],h=>by cases h
 |x::a,y::b,h=>by
  simp only[z4,List.cons.injEq,Sum.inl.injEq]at h
  rw[h.1,nY a b h.2]
section
variable {K:PySem.W.Frag}{H:Hp}
theorem pY:∀{rows:List (List Int)} {ys:List V},az K H (rows.map pairD) ys->∃kp,gq K H ys kp/\kp.map (·.1)=rows.map λ r=>(r.map Sum.inl:List Key)
 |[],ys,h=>by
  cases(ao.mp h)
  exact⟨[],trivial,rfl⟩
 |r::rows,ys,h=>by
  obtain⟨y,ys,rfl,h1,h2⟩:=af.mp h
  obtain⟨kp,a1,a2⟩:=pY h2
  obtain⟨t,xs,rfl,hq,hd⟩:=aE.mp h1
  obtain⟨x1,r1,rfl,b1,hd⟩:=af.mp hd
  obtain⟨x2,r2,rfl,b2,hd⟩:=af.mp hd
  cases(ao.mp hd)
  obtain⟨m,zs,rfl,EA,hd2⟩:=aE.mp b1
  rw[ck hd2]at EA
  exact⟨((r.map Sum.inl:List Key),m)::kp,⟨⟨t,x2,r,rfl,hq,rfl,EA⟩,a1⟩,by simp[a2]⟩
theorem iM:∀{fs:List (List Key×Addr)} {rs:List (List Int)},(∀p∈fs,∃r:List Int,p.1=r.map Sum.inl/\ef K H p.2 (r.map V.int))->fs.map (·.1)=rs.map (λ r=>(r.map Sum.inl:List Key))->az K H (rs.map wg) (fs.map λ p=>V.ref p.2)
 |[],[],_,_=>by simp[ao]
 |[],_::_,_,h=>by cases h
 |_::_,[],_,h=>by cases h
 |p::fs,r::rs,h,e=>by
  simp only[z4,List.cons.injEq]at e
  obtain⟨r',e1,e2⟩:=h p (by simp)
  have er:r'=r:=nY _ _ (e1.symm.trans e.1)
  subst er
  rw[z4,z4,af]
  refine⟨_,_,rfl,aE.mpr ⟨p.2,_,rfl,e2,fR r'⟩,iM (λ q m=>h q (by simp[m])) e.2⟩
end
def oJ(sp:fU)(d:D)(M:Mem)(Q:bq):Prop:=∃(l:Addr) (rows:List (List Int)) (b:Bool) (R:List D->Mem->Prop) (key:Nat->Ky),d=.ref l/\M l=some (.lst (rows.map pairD))/\rows.length < 64/\R [] M/\
 (∀hZ M e,R hZ M->((once rows).map wg)[hZ.length]?=some e->sp [e] M (λ k M'=>R (hZ++[k]) M'))/\
 ∀hZ M,R hZ M->hZ.length=(once rows).length->(∀i k,hZ[i]?=some k->Fq b M k (key i))/\∀p out,M p=none->Out (λ i j=>klt (key i) (key j)) ((once rows).map wg) D.a_ out->Q (.ref p) (aw M p (.lst out))
def nz(sp:fU)(te:bV):bV:=λ δ M Q=>te δ M λ d M1=>oJ sp d M1 Q
section
variable {X:Cx}{e:Expr}{te:bV}{p p2 pos cU fp kp:Pos}{f:Str}{k:Nat}{ps:List Str}{sp:fU}
theorem sF(d:cO X.prog X.w X.K X.mg X.base k f ps sp)(hr:bA (k+2) X.A)(hg:Gl X "sorted")(hm:X.mg "sorted"=none)(BP:Gl X "dict")(Mc:X.mg "dict"=none)(Mm:Gl X f)(he:QE X e te)(AG:(f==("__debug__":Str))=false:=by decide)
  (hs:starEach [.Call (.Name "dict" p2) [e] [] cU] X.env=[(false,eval (.Call (.Name "dict" p2) [e] [] cU) X.env)]:=by rfl) (oo:backTo pos (starEach [.Call (.Name "dict" p2) [e] [] cU] X.env)=(false,eval (.Call (.Name "dict" p2) [e] [] cU) X.env)::backTo pos (starEach [] X.env):=by rfl) (hs2:(backTo pos (starEach [.Call (.Name "dict" p2) [e] [] cU] X.env)).any (·.1)=false:=by rfl)
  (ht:starEach [e] X.env=[(false,eval e X.env)]:=by rfl) (LS:starEach [e] X.env=(false,eval e X.env)::starEach [] X.env:=by rfl) (LR:(backTo cU (starEach [] X.env)).any (·.1)=false:=by rfl):
  QE X (.Call (.Name "sorted" p) [.Call (.Name "dict" p2) [e] [] cU] [⟨some "key",.Name f fp,kp⟩] pos) (nz sp te):=by
 refine bJ (pX d hr hg hm BP Mc Mm he AG hs oo hs2 ht LS LR) ?_
 rintro σ H Q ⟨δ,M,Q2,hs,hm,q,k⟩
 refine⟨δ,M,_,hs,hm,q,λ x H1 d M1 hd bU t1 q1=>?_⟩
 obtain⟨l,rows,b,R,key,rfl,hM,qE,h0,hc,hk⟩:=q1
 cases(aA.mp hd)
 obtain⟨ys,hy,NN⟩:=bU l _ hM
 have hlen:=NN.length
 rw[x8]at hlen
 obtain⟨BL,p1,p2⟩:=pY NN
 have hd2:az X.K H1 ((once rows).map wg) ((dA BL).map λ p=>V.ref p.2):=iM (λ p m=>p1.row p (sU m)) (qH _ nY p2)
 have Rj:=hd2.length
 rw[x8 (f:=wg)]at Rj
 refine⟨l,ys,_,BL,b,λ kvs H'=>∃hZ M',az X.K H' hZ kvs/\RelM X.K H' M'/\ai H1 H'/\R hZ M',key,rfl,cS.of hy,by omega,p1,rfl,⟨[],M1,by rw[ao],bU,ai.refl _,h0⟩,?_,?_⟩
 ·rintro kvs H2 v ⟨hZ,M2,h1,h2,t2,hR⟩ hv
  have PD:=h1.length
  obtain⟨e,e1,e2⟩:=(az.mono t2 _ hd2).tx hv
  refine⟨[e],M2,_,az.one e2,h2,hc hZ M2 e hR (by rw[<- PD];exact e1),λ w H3 d3 M3 Mp EE t3 q3=>?_⟩
  exact⟨hZ++[d3],M3,(az.mono t3 hZ h1).append (az.one Mp),EE,t2.trans t3,q3⟩
 ·rintro kvs H2 ⟨hZ,M2,h1,h2,t2,hR⟩ hl
  have PD:=h1.length
  obtain⟨a1,a2⟩:=hk hZ M2 hR (by omega)
  refine⟨λ i w hw=>?_,λ p out hp ho=>?_⟩
  ·obtain⟨d3,e3,Mp⟩:=h1.tx hw
   exact(a1 i d3 e3).v Mp h2
  ·obtain⟨π,p1,p2,rfl⟩:=ho
   rw[Rj]at p1 p2
   refine k _ _ (.ref p) _ (aA.mpr rfl) (cw hp (mE (az.mono t2 _ hd2) π.toList) h2) (t1.trans (t2.trans (ai.laid hp))) (a2 p _ (h2.free hp) ⟨π,by rw[x8];exact p1,by rw[x8];exact p2,rfl⟩)
end
theorem yI{sp:fU}{te:bV}{δ:cD}{M:Mem}{Q:bq}(h:te δ M λ d M1=>oJ sp d M1 Q):nz sp te δ M Q:=h
end L3
namespace L4
open PySem PySem.Spec L2 L3 L5
section
variable {X:Cx}{e:Expr}{te:bV}{p p2 pos cU fp kp:Pos}{f:Str}{k:Nat}{ps:List Str}{sp:fU}
theorem rR(d:cO X.prog X.w X.K X.mg X.base k f ps sp)(hr:bA (k+2) X.A)(hg:Gl X "sorted")(hm:X.mg "sorted"=none)(BP:Gl X "dict")(Mc:X.mg "dict"=none)(Mm:Gl X f)(he:WE X e te)(AG:(f==("__debug__":Str))=false:=by decide)
  (hs:starEach [.Call (.Name "dict" p2) [e] [] cU] X.env=[(false,eval (.Call (.Name "dict" p2) [e] [] cU) X.env)]:=by rfl) (oo:backTo pos (starEach [.Call (.Name "dict" p2) [e] [] cU] X.env)=(false,eval (.Call (.Name "dict" p2) [e] [] cU) X.env)::backTo pos (starEach [] X.env):=by rfl) (hs2:(backTo pos (starEach [.Call (.Name "dict" p2) [e] [] cU] X.env)).any (·.1)=false:=by rfl)
  (ht:starEach [e] X.env=[(false,eval e X.env)]:=by rfl) (LS:starEach [e] X.env=(false,eval e X.env)::starEach [] X.env:=by rfl) (LR:(backTo cU (starEach [] X.env)).any (·.1)=false:=by rfl):
  WE X (.Call (.Name "sorted" p) [.Call (.Name "dict" p2) [e] [] cU] [⟨some "key",.Name f fp,kp⟩] pos) (nz sp te):=⟨sF d hr hg hm BP Mc Mm he.h AG hs oo hs2 ht LS LR⟩
end
end L4
namespace L5
open PySem
open AutoSeq1 (wpAny_loadPart')
abbrev NU(T:String)(h:Heap)(l:Addr):Heap:=h.push {cls:=.type T,data:=.fields #[.ref l,.int 0 0]}
abbrev Ql(T:String)(h:Heap)(l:Addr):Heap:=(NU T h l).push {cls:=.type "enumerate",data:=.fields #[.none,.bool false,.ref h.objs.size,rawInt 0,.none,.none]}
set_option tactic.hygienic true in
theorem tG{T:String}{S:Heap->Addr->Array Value->Prop}(k:NK T S)(l:Addr)(vs:Array Value):
  Meets (Builtin.«enumerate.__new__» ⟨[.type "enumerate",.ref l],[]⟩) (λ _ R s=>S s.heap l vs/\R (.ok (.ret (.ref (NU T s.heap l).objs.size))) {s with heap:=Ql T s.heap l}):=
 .of_wp λ prog w A R s h=>by
  obtain⟨hp,g,d,tk,os⟩:=s
  obtain⟨a1,h⟩:=h
  have se:=sub_enumerate
  have aT:S (Shared.heap ⟨hp,g,d,tk,os⟩) l vs:=a1
  wp_walk using k.start aT
  refine wpAny_stack_any λ st=>A7 ?_
  split
  ·rename_i c _ _ _ _ _
   cases(c==Value.type "enumerate")
   all_goals
    wp_walk using k.start aT
    exact⟨_,rfl,h⟩
  ·wp_walk using k.start aT
   exact⟨_,rfl,h⟩
theorem D6{prog:Program}{w:World}{A:Around}{E:Value->Shared->Prop}{s:Shared}{T:String}{S:Heap->Addr->Array Value->Prop}(kk:NK T S){l:Addr}{vs:Array Value}{Q:Value->Shared->Prop}(a1:S s.heap l vs)
  (k:∀h',IsEnum h' (s.heap.objs.size+1) s.heap.objs.size 0 .none->xH T h' s.heap.objs.size l 0->(∀f o,s.heap.get? f=some o->h'.get? f=some o)->Q (.ref (s.heap.objs.size+1)) {s with heap:=h'}):
  wpAny (model prog w) A (call (.type "enumerate") [.ref l]) Q E s:=by
 refine callType_new F.called_enumerate (by decide) (F.typeCall_enumerate_1 _) (F.newCall_enumerate_1 _) (λ ob=>F.args_object_init_2 ob _) F.entry_enumerate_new (tG kk l vs) ⟨a1,?_⟩
 have e1:(NU T s.heap l).objs.size=s.heap.objs.size+1:=y4 ..
 have g2:(Ql T s.heap l).get? (NU T s.heap l).objs.size=some _:=l6 _ rfl
 have g1:(Ql T s.heap l).get? s.heap.objs.size=some _:=j2 _ (l6 s.heap rfl)
 rw[e1]at g2
 show _/\_
 rw[e1]
 exact⟨⟨_,g2,rfl⟩,k _ g2 ⟨_,g1,rfl,rfl⟩ λ f o x=>j2 _ (j2 _ x)⟩
theorem zR{T:String}{S:Heap->Addr->Array Value->Prop}(k:NK T S){prog:Program}{w:World}{A:Around}(hA:A.handled=none)(j l:Addr)(ne:l≠j)(vs:Array Value):
  Draws prog w A j [j,l] vs.size (λ i v=>vs[i]?=some v) (λ i h=>xH T h j l i/\S h l vs) where
 live:=λ _ _ st=>let⟨⟨o,ho,_⟩,_⟩:=st;⟨o,ho⟩
 frame:=λ _ _ _ st q=>let⟨⟨o,ho,r⟩,su⟩:=st;⟨⟨o,q j (by simp) o ho,r⟩,k.keep su λ o e=>q l (by simp) o e⟩
 item:=λ i s Q E hi st kk=>k.item st.1 st.2 (c9 hi) λ h' a b=>kk _ h' s.toks (c9 hi) ⟨a,k.keep st.2 λ o e=>b.extBut _ _ ne e⟩ b
 done:=λ s Q E st kk=>k.stop hA st.1 st.2 (j1 (A2 _)) kk
end L5
namespace L2
open PySem PySem.Spec PyProof.Rows L5
def N7(K:PySem.W.Frag)(b:Bool)(l:Addr):It:=
 ⟨λ i H=>∃xs x,Sq b K H l xs/\xs[i]?=some x,
  λ i H v H'=>∃(p:Addr) (x:V),H p=none/\v=.ref p/\H'=upd H p (.tup [.int i,x])/\∀xs,Sq b K H l xs->xs[i]?=some x,
  λ i H=>∃xs,Sq b K H l xs/\xs.length<=i⟩
def RT(b:Bool)(e j l:Addr)(i:Nat)(h:Heap):Prop:=(∃old,IsEnum h e j i old)/\xH (QV b) h j l i
theorem vT{P:Program}{w:World}{K:PySem.W.Frag}{es:List Expr}{k0}{pos:Pos}{e j:Addr}(b:Bool)(B:e≠j)(l:Addr):Turn P w K (.Tuple es k0 pos) (N7 K b l) [e,j] e (RT b e j l) where
 mem:=by simp
 obj:=λ i h st c hc=>by
  obtain⟨⟨old,he⟩,⟨oa,ha,_,da⟩⟩:=st
  rcases z5.mp hc with rfl|hc
  ·exact⟨_,he,λ v z=>by cases z⟩
  rcases z5.mp hc with rfl|hc
  ·exact⟨_,ha,λ v z=>by rw[da]at z;cases z⟩
  ·cases hc
 keep:=λ i h h' st q=>by
  obtain⟨⟨old,he⟩,⟨oa,ha,r⟩⟩:=st
  exact⟨⟨old,q e (by simp) _ he⟩,⟨oa,q j (by simp) _ ha,r⟩⟩
 item:=by
  intro X hP hw hK hc i pins s σ H E I hf st hg
  subst hP hw hK
  obtain⟨xs,x,hl,hx⟩:=hg
  obtain⟨⟨old,he⟩,hj⟩:=st
  obtain⟨NG,r1,p1⟩:=jF I hl
  obtain⟨u1,e1,q1⟩:=r1.get hx
  have lj:l≠j:=yk I (hf j (by simp)) hl
  have le:l≠e:=yk I (hf e (by simp)) hl
  have hi:i < NG.toArray.size:=by
   have:=(g9.mp e1).1
   simpa using this
  refine wpAny_pyNext_enum_itemD (zR (zQ b) (A:=X.A.in1) (I.ok.hd hc) j l lj NG.toArray) he ⟨hj,p1⟩ hi B (by simp;exact⟨B,B2 le⟩) λ y g tk g1 g2 g3 g4 g5 g6=>?_
  have ey:y=u1:=by
   rw[getElem?_toArray,e1]at g1
   cases g1
   rfl
  subst ey
  have hn:H s.heap.objs.size=none:=I.aL.fresh (A2 _)
  have I1:Inv X pins σ H {s with heap:=g,toks:=tk+1}:=pB (t':=tk+1) I (ch:=[e,j]) (λ c o hc e=>g6 c o (λ z=>hc (by simp[z])) (λ z=>hc (by simp[z])) e) hf
  refine⟨_,rfl,wpAny_letOwnedTupleGo_enum (s:={s with heap:=g,toks:=tk+1}) g2 λ g' e' sb=>?_⟩
  have I2:Inv X pins σ H {s with heap:=g',toks:=tk+1}:=pB (s:={s with heap:=g,toks:=tk+1}) (t':=tk+1) (ch:=[e]) I1 (λ c o hc q=>sb.extBut _ _ (λ z=>hc (by simp[z])) q) (λ c hc=>hf c (by simp at hc ⊢;exact .inl hc))
  have fo:=I.iX (H':=H) (A2 s.heap.objs.size) hn
  have Q4:e < s.heap.objs.size:=z8 he
  have Sn:j < s.heap.objs.size:=let⟨_,q,_⟩:=hj;z8 q
  have t5:=sb.extBut _ _ (Nat.ne_of_gt Q4) g4
  have I3:Inv X pins σ (upd H s.heap.objs.size (.tup [.int i,x])) {s with heap:=g',toks:=tk+1}:=Inv.ue I2 hn ⟨show 2<=sizeLine by decide,[.int i tk,y],.cons ⟨tk,rfl⟩ (.cons q1 .nil),⟨_,t5,rfl,_,rfl⟩⟩ fo.2.1 (A1 I.sz (A2 _)) fo.2.2.2.2.1 fo.2.2.2.2.2
  refine⟨.ref s.heap.objs.size,_,I3,rfl,⟨s.heap.objs.size,x,hn,rfl,rfl,λ Gq h'=>by rw[GQ I h' hl];exact hx⟩,⟨⟨_,by simpa using e'⟩,?_⟩,λ c hc=>?_⟩
  ·obtain⟨o,ho,r⟩:=g3.1
   exact⟨o,sb.extBut _ _ (B2 B) ho,r⟩
  ·have fX:c < s.heap.objs.size:=by
    simp at hc
    rcases hc with rfl|rfl
    ·exact Q4
    ·exact Sn
   rw[av (z7 fX)]
   exact(hf c hc).1
 done:=by
  intro X hP hw hK hc i pins s σ H E I hf st hg
  subst hP hw hK
  obtain⟨xs,hl,hx⟩:=hg
  obtain⟨⟨old,he⟩,hj⟩:=st
  obtain⟨NG,r1,p1⟩:=jF I hl
  have l1:=r1.length
  have lj:l≠j:=yk I (hf j (by simp)) hl
  have hT:s.TypeIs (.ref e) "enumerate":=⟨_,he,rfl⟩
  unfold pyNext
  refine A6 (y8 (i9 (name:=Str.ofString "__next__") hT F.slot_enumerate_next (s9 F.slot_enumerate_next hT F.entry_enumerate_next ?_ (F.args_enumerate_next_1 _))))
  refine A6 (m:=field (.ref e) 2) (A5 he rfl (x:=.ref j) rfl ?_)
  refine A6 ((zQ b).stop (A:=X.A.in1) (I.ok.hd hc) hj p1 (j1 (by simp;omega)) λ g c g1 g2=>?_)
  obtain⟨o,ho,xa⟩:=g2
  refine A6 (wpAny_isInstance (T:="StopIteration") (b:=true) ⟨o,ho,xa⟩ isSubtype_stop (A7 ⟨rfl,?_⟩))
  exact pB (t':=s.toks) (ch:=[j]) I (λ b o hb q=>g1 b o (λ z=>hb (by simp[z])) q) λ b hb=>hf b (by simp at hb ⊢;exact .inr hb)
 self:=λ _ _ _ _ _ st h=>wpAny_pyIter_enum st.1.choose_spec h
section
variable {X:Cx}{es:List Expr}{k0:_}{jC:Pos}{a:Expr}{ta:TA}{p pos:Pos}
def LO(K:PySem.W.Frag)(ta:TA):TI:=λ σ H R=>ta σ H λ vs H1=>∃(b:Bool) (l:Addr),vs=[.ref l]/\(∃xs,Sq b K H1 l xs)/\R (N7 K b l) H1
theorem Dz(hg:Gl X "enumerate")(hm:X.mg "enumerate"=none)(ha:PA X [a] ta)(hs:starEach [a] X.env=[(false,eval a X.env)]:=by rfl)(hs2:starEach [] X.env=[]:=by rfl):
  PI X (.Tuple es k0 jC) (.Call (.Name "enumerate" p) [a] [] pos) (LO X.K ta):=by
 intro pins s σ H R I h
 refine Call_ (eK I hg hm boot_enumerate (c4 (cg (ha pos pins s σ H _ I h) λ us s1 ⟨vs,H1,I1,r1,q1⟩=>?_) (by rw[hs,hs2]) (by rw[hs2];rfl)))
 obtain⟨b,l,e,⟨xs,hl⟩,q⟩:=q1
 subst e
 obtain⟨u1,rfl,r⟩:=vals1 r1
 cases(show u1=Value.ref l from r)
 obtain⟨NG,r1,p1⟩:=jF I1 hl
 refine D6 (zQ b) p1 λ g g1 g2 g7=>wpAny_pyIter_enum (s:={s1 with heap:=g}) g1 ?_
 have I2:Inv X pins σ H1 {s1 with heap:=g}:=I1.kept (t':=s1.toks) g7
 have fr:∀c,s1.heap.objs.size<=c->gu X pins H1 c:=λ c hc=>I1.iX hc (I1.aL.fresh hc)
 have ne:s1.heap.objs.size+1≠s1.heap.objs.size:=by omega
 refine⟨_,[s1.heap.objs.size+1,s1.heap.objs.size],_,_,H1,rfl,I2,vT b ne l,⟨⟨_,g1⟩,g2⟩,λ c hc=>fr c ?_,q⟩
 simp at hc
 rcases hc with rfl|rfl <;> omega
end
end L2
namespace L3
open PySem PySem.Spec L2 L5
def dE(ds:List D):List D:=(List.range ds.length).map λ(i:Nat)=>D.tup [.int (i:Int),ds.getD i D.a_]
theorem xk(ds:List D):(dE ds).length=ds.length:=by simp[dE]
def kindB:D->Bool
 | .tup _=>true
 |_=>false
theorem nu{K:PySem.W.Frag}{H:Hp}{M:Mem}{d:D}{ds:List D}{x:V}(e:cG M d=some ds)(h:Dat K H d x)(hm:RelM K H M):∃p xs,x=.ref p/\Sq (kindB d) K H p xs/\az K H ds xs:=by
 cases d with
 |tup es=>
  cases(show some es=some ds from e)
  obtain⟨p,xs,rfl,h1,h2⟩:=aE.mp h
  exact⟨p,xs,rfl,h1,h2⟩
 |fl es=>
  cases(show some es=some ds from e)
  obtain⟨p,xs,rfl,h1,h2⟩:=gj.mp h
  exact⟨p,xs,rfl,h1.sq,h2⟩
 |ref a=>
  cases(aA.mp h)
  obtain⟨xs,h1,h2⟩:=cM (show aO M a=some ds from e) hm
  exact⟨a,xs,rfl,cS.of h1,h2⟩
 |_=>cases e
def qK(x:D)(M:Mem):Option (List D):=(cG M x).map dE
theorem wV{K:PySem.W.Frag}{H1:Hp}{a:Addr}{x:D}(hx:Dat K H1 x (.ref a)):oZ K H1 (N7 K (kindB x) a) (.fn (qK x)):=λ H M fs t hm e=>by
 have e:(cG M x).map dE=some fs:=e
 cases e1:cG M x with
 |none=>rw[e1]at e;cases e
 |some ds=>
  rw[e1]at e
  cases e
  obtain⟨p,xs,e3,q1,x1⟩:=nu e1 (Dat.mono t x hx) hm
  cases e3
  have l1:=x1.length
  rw[xk]
  refine⟨λ i hi=>⟨xs,xs[i]'(by omega),q1,by simp⟩,λ i hi=>⟨xs,q1,by omega⟩,λ i v H' hi y=>?_⟩
  obtain⟨p,v,hp,rfl,rfl,hx⟩:=y
  obtain⟨d,d1,d2⟩:=x1.tx (hx xs q1)
  refine⟨ai.laid hp,hm.laid hp,.tup [.int i,d],?_,fH hp (af.mpr ⟨.int i,[v],rfl,aq.mpr rfl,az.one d2⟩)⟩
  obtain⟨z1,w1⟩:=g9.mp d1
  simp[dE,z1,w1]
def uX(ta:eW):i':=λ δ M R=>ta δ M λ ds M1=>match ds with
 |[.tup xs]=>R (.fix (dE xs)) M1
 |[x]=>(∃zs,cG M1 x=some zs)/\R (.fn (qK x)) M1
 |_=>False
section
variable {X:Cx}{es:List Expr}{k0:_}{jC:Pos}{a:Expr}{ta:eW}{p pos:Pos}
theorem Dh(hg:Gl X "enumerate")(hm:X.mg "enumerate"=none)(ha:QA X [a] ta)(hs:starEach [a] X.env=[(false,eval a X.env)]:=by rfl)(hs2:starEach [] X.env=[]:=by rfl):
  QI X (.Tuple es k0 jC) (.Call (.Name "enumerate" p) [a] [] pos) (uX ta):=uK (Dz hg hm ha hs hs2) λ σ H R ⟨δ,M,R2,hs,hm,q,k⟩=>by
 refine⟨δ,M,_,hs,hm,q,λ xs H1 ds M1 hd bU t1 q1=>?_⟩
 have go:∀x,ds=[x]->(∃zs,cG M1 x=some zs)->(∀J,oZ X.K H1 J (.fn (qK x))->R J H1)->∃(b:Bool) (l:Addr),xs=[.ref l]/\(∃xs,Sq b X.K H1 l xs)/\R (N7 X.K b l) H1:=by
  rintro x rfl ⟨zs,hz⟩ hR
  obtain⟨vx,r,rfl,hx,hr⟩:=af.mp hd
  cases(ao.mp hr)
  obtain⟨p,vs,rfl,q1,_⟩:=nu hz hx bU
  exact⟨_,p,rfl,⟨vs,q1⟩,hR _ (wV hx)⟩
 match ds,q1 with
 |[x],q1=>
  by_cases ht:∃xs,x=.tup xs
  ·obtain⟨xs,rfl⟩:=ht
   exact go _ rfl ⟨_,rfl⟩ λ J hJ=>k J H1 (.fix (dE xs)) M1 (λ H M ds t hm e=>hJ H M ds t hm e) bU t1 q1
  ·have q2:(∃zs,cG M1 x=some zs)/\R2 (.fn (qK x)) M1:=by
    cases x <;> first|exact q1|exact absurd ⟨_,rfl⟩ ht
   exact go x rfl q2.1 λ J hJ=>k J H1 _ M1 hJ bU t1 q2.2
 |[],q1=>exact q1.elim
 |x::y::r,q1=>cases x <;> exact q1.elim
end
end L3
namespace L4
open PySem PySem.Spec L2 L3 L5
section
variable {X:Cx}{es:List Expr}{k0:_}{jC:Pos}{a:Expr}{ta:eW}{p pos:Pos}
theorem mV(hg:Gl X "enumerate")(hm:X.mg "enumerate"=none)(ha:WA X [a] ta)(hs:starEach [a] X.env=[(false,eval a X.env)]:=by rfl)(hs2:starEach [] X.env=[]:=by rfl):
  WI X (.Tuple es k0 jC) (.Call (.Name "enumerate" p) [a] [] pos) (uX ta):=⟨Dh hg hm ha.h hs hs2⟩
end
end L4
namespace L2
open PySem PySem.Spec PyProof.Rows
section
variable {X:Cx}
theorem DN:eo X (binaryOp .Add) (λ x y H Q=>∃a b ys,x=.ref a/\y=.ref b/\ef X.K H a []/\ef X.K H b ys/\Q (.ref b) H):=by
 intro pins s σ H x y v u Q I rx ry h
 obtain⟨a,b,ys,rfl,rfl,ha,hb,q⟩:=h
 cases rx
 cases ry
 obtain⟨i1,r1,p1,_⟩:=I.tuple ha
 obtain⟨i2,r2,p2,_⟩:=I.tuple hb
 cases r1
 obtain⟨⟨c1,d1,a1,l1⟩,o1,k1,n1,e1⟩:=id p1
 obtain⟨⟨c2,d2,a2,l2⟩,o2,k2,n2,e2⟩:=id p2
 cases(show c1=.type "tuple" from k1)
 cases(show a1=_ from e1)
 cases(show c2=.type "tuple" from k2)
 cases(show a2=_ from e2)
 exact concat_meets ⟨_,o1,rfl⟩ ⟨_,o2,rfl⟩ noFill_tuple_add seq_tuple_add PySem.F.slot_tuple_add PySem.F.entry_tuple_add (PySem.F.args_tuple_add_2 _ _) (tuple_addW0 a b #[] i2.toArray n1 n2 d1 d2 l1 l2 rfl) ⟨o1,o2,⟨.ref b,H,I,rfl,q⟩⟩
end
end L2
namespace L3
open PySem PySem.Spec L2
section
variable {X:Cx}
def vz:eX:=λ x y M Q=>E4 x y M Q\/∃ys,x=.tup []/\y=.tup ys/\Q (.tup ys) M
theorem bM:eY X (binaryOp .Add) vz:=by
 obtain⟨r,h1,h2⟩:=(LB:eY X (binaryOp .Add) E4)
 refine⟨_,h1.or DN,λ x y d e H M Q2 Q hd he hm q k=>?_⟩
 rcases q with q|⟨ys,rfl,rfl,q⟩
 ·exact .inl (h2 x y d e H M Q2 Q hd he hm q k)
 ·obtain⟨p,vs,rfl,hp,hx⟩:=aE.mp hd
  obtain⟨p2,ws,rfl,gA,hy⟩:=aE.mp he
  cases(ao.mp hx)
  exact .inr ⟨p,p2,ws,rfl,rfl,hp,gA,k _ H _ M (aE.mpr ⟨p2,ws,rfl,gA,hy⟩) hm (ai.refl H) q⟩
end
section
variable {M:Mem}{Q:bq}
theorem yW{i j:Int}(q:Q (.int (i+j)) M):vz (.int i) (.int j) M Q:=.inl q
theorem pT{i j:Str}(h:i.length+j.length<=sizeLine)(q:Q (.str (i++j)) M):vz (.str i) (.str j) M Q:=.inl ⟨h,q⟩
theorem yV{a b:Addr}{xs ys:List D}(ha:M a=some (.lst xs))(hb:M b=some (.lst ys))(h:xs.length+ys.length<=sizeLine)(q:∀p,M p=none->Q (.ref p) (aw M p (.lst (xs++ys)))):vz (.ref a) (.ref b) M Q:=.inl (C3 ha hb h q)
end
end L3
namespace L3
open PySem L2
section
variable {g:eV}{tt:dh}{te:bV}{δ δc:cD}{M1:Mem}{Qe:List D->Mem->Prop}
theorem Om{n:Nat}(h:n<=10000):n<=sizeLine:=A1 h (by decide)
theorem tN{α β:Type}{xs:List α}{enc:α->D}(tH:β->D)(I:List β->Mem->Prop)(hn:xs.length<=10000)(h0:I [] M1)
  (hs:∀(i:Nat) (x:α) (ys:List β) (M:Mem) (N:D->Mem->Prop),xs[i]?=some x->ys.length=i->I ys M->(∀b M',I (ys++[b]) M'->N (tH b) M')->g (enc x) δc M λ δ2 M2=>te δ2 M2 N)
  (hd:∀ys M,ys.length=xs.length->I ys M->Qe (ys.map tH) M):
  ∃(B:Nat) (W:Nat->List D->Mem->Prop),W 0 [] M1/\∀i acc M,W i acc M->i<=B/\acc.length<=sizeLine/\match items (.fix (xs.map enc)) M with
   |none=>False
   |some ds=>match ds[i]? with
    |none=>i=ds.length/\Qe acc M
    |some d=>g d δc M λ δ2 M2=>pQ δ2 M2 λ b M3=>if b=true then te δ2 M3 λ y M4=>W (i+1) (acc++[y]) M4 else W (i+1) acc M3:=by
 refine fF (λ i acc M=>∃ys:List β,acc=ys.map tH/\ys.length=i/\I ys M) ⟨[],rfl,rfl,h0⟩ (λ i acc M hi h=>?_) (λ i d acc M hd h=>?_) (λ acc M h=>?_)
 ·obtain⟨ys,rfl,h1,_⟩:=h
  rw[x8]at hi ⊢
  exact Om (by omega)
 ·obtain⟨ys,rfl,h1,h2⟩:=h
  rw[n4]at hd
  cases e:xs[i]? with
  |none=>rw[e]at hd;cases hd
  |some x=>
   rw[e]at hd
   cases hd
   refine hs i x ys M _ e h1 h2 λ b M' hb=>⟨ys++[b],by rw[y0];rfl,by simp[h1],hb⟩
 ·obtain⟨ys,rfl,h1,h2⟩:=h
  rw[x8]at h1
  exact hd ys M h1 h2
theorem Bv{α β:Type}{a:Addr}{xs:List α}(enc:α->D)(tH:β->D)(I:List β->Mem->Prop)(hn:xs.length<=10000)(h0:I [] M1)(hl:∀ys M,I ys M->M a=some (.lst (xs.map enc)))
  (hs:∀(i:Nat) (x:α) (ys:List β) (M:Mem) (N:D->Mem->Prop),xs[i]?=some x->ys.length=i->I ys M->(∀b M',I (ys++[b]) M'->N (tH b) M')->g (enc x) δc M λ δ2 M2=>te δ2 M2 N)
  (hd:∀ys M,ys.length=xs.length->I ys M->Qe (ys.map tH) M):
  ∃(B:Nat) (W:Nat->List D->Mem->Prop),W 0 [] M1/\∀i acc M,W i acc M->i<=B/\acc.length<=sizeLine/\match items (.at a) M with
   |none=>False
   |some ds=>match ds[i]? with
    |none=>i=ds.length/\Qe acc M
    |some d=>g d δc M λ δ2 M2=>pQ δ2 M2 λ b M3=>if b=true then te δ2 M3 λ y M4=>W (i+1) (acc++[y]) M4 else W (i+1) acc M3:=by
 refine Bu (ds:=xs.map enc) (λ i acc M=>∃ys:List β,acc=ys.map tH/\ys.length=i/\I ys M) ⟨[],rfl,rfl,h0⟩ (λ i acc M hi h=>?_) (λ i acc M hi h=>?_) (λ i d acc M hd h=>?_) (λ acc M h=>?_)
 ·obtain⟨ys,rfl,h1,h2⟩:=h
  exact hl ys M h2
 ·obtain⟨ys,rfl,h1,_⟩:=h
  rw[x8]at hi ⊢
  exact Om (by omega)
 ·obtain⟨ys,rfl,h1,h2⟩:=h
  rw[n4]at hd
  cases e:xs[i]? with
  |none=>rw[e]at hd;cases hd
  |some x=>
   rw[e]at hd
   cases hd
   refine hs i x ys M _ e h1 h2 λ b M' hb=>⟨ys++[b],by rw[y0];rfl,by simp[h1],hb⟩
 ·obtain⟨ys,rfl,h1,h2⟩:=h
  rw[x8]at h1
  exact hd ys M h1 h2
theorem take_one{α:Type}{l:List α}{i:Nat}{a:α}(h:l[i]?=some a):l.take (i+1)=l.take i++[a]:=by
 rw[take_add_one,h]
 rfl
theorem cC{α:Type}{xs:List α}{enc:α->D}(out:α->D)(hn:xs.length<=10000)
  (hs:∀(i:Nat) (x:α) (N:D->Mem->Prop),xs[i]?=some x->N (out x) M1->g (enc x) δc M1 λ δ2 M2=>te δ2 M2 N)
  (hd:Qe (xs.map out) M1):
  ∃(B:Nat) (W:Nat->List D->Mem->Prop),W 0 [] M1/\∀i acc M,W i acc M->i<=B/\acc.length<=sizeLine/\match items (.fix (xs.map enc)) M with
   |none=>False
   |some ds=>match ds[i]? with
    |none=>i=ds.length/\Qe acc M
    |some d=>g d δc M λ δ2 M2=>pQ δ2 M2 λ b M3=>if b=true then te δ2 M3 λ y M4=>W (i+1) (acc++[y]) M4 else W (i+1) acc M3:=by
 refine tN (β:=α) out (λ ys M=>M=M1/\ys=xs.take ys.length) hn ⟨rfl,rfl⟩ (λ i x ys M N hx hy h k=>?_) (λ ys M hy h=>?_)
 ·obtain⟨rfl,h⟩:=h
  refine hs i x N hx (k x M ⟨rfl,?_⟩)
  rw[l9,j6,take_one (a:=x) (by rw[hy];exact hx),<- h]
 ·obtain⟨rfl,h⟩:=h
  rw[hy,r9]at h
  rw[h]
  exact hd
theorem mH{α:Type}{a:Addr}{xs:List α}(enc out:α->D)(hn:xs.length<=10000)(hl:M1 a=some (.lst (xs.map enc)))
  (hs:∀(i:Nat) (x:α) (N:D->Mem->Prop),xs[i]?=some x->N (out x) M1->g (enc x) δc M1 λ δ2 M2=>te δ2 M2 N)
  (hd:Qe (xs.map out) M1):
  ∃(B:Nat) (W:Nat->List D->Mem->Prop),W 0 [] M1/\∀i acc M,W i acc M->i<=B/\acc.length<=sizeLine/\match items (.at a) M with
   |none=>False
   |some ds=>match ds[i]? with
    |none=>i=ds.length/\Qe acc M
    |some d=>g d δc M λ δ2 M2=>pQ δ2 M2 λ b M3=>if b=true then te δ2 M3 λ y M4=>W (i+1) (acc++[y]) M4 else W (i+1) acc M3:=by
 refine Bv (β:=α) enc out (λ ys M=>M=M1/\ys=xs.take ys.length) hn ⟨rfl,rfl⟩ (λ ys M h=>by rw[h.1];exact hl) (λ i x ys M N hx hy h k=>?_) (λ ys M hy h=>?_)
 ·obtain⟨rfl,h⟩:=h
  refine hs i x N hx (k x M ⟨rfl,?_⟩)
  rw[l9,j6,take_one (a:=x) (by rw[hy];exact hx),<- h]
 ·obtain⟨rfl,h⟩:=h
  rw[hy,r9]at h
  rw[h]
  exact hd
theorem E6{α:Type}{xs:List α}{enc:α->D}(p:α->Bool)(out:α->D)(hn:xs.length<=10000)
  (hs:∀(i:Nat) (x:α) (N1:D->Mem->Prop) (N2:Mem->Prop),xs[i]?=some x->(p x=true->N1 (out x) M1)->(p x=false->N2 M1)->g (enc x) δc M1 λ δ2 M2=>tt δ2 M2 λ b M3=>if b=true then te δ2 M3 N1 else N2 M3)
  (hd:Qe ((xs.filter p).map out) M1):
  ∃(B:Nat) (W:Nat->List D->Mem->Prop),W 0 [] M1/\∀i acc M,W i acc M->i<=B/\acc.length<=sizeLine/\match items (.fix (xs.map enc)) M with
   |none=>False
   |some ds=>match ds[i]? with
    |none=>i=ds.length/\Qe acc M
    |some d=>g d δc M λ δ2 M2=>tt δ2 M2 λ b M3=>if b=true then te δ2 M3 λ y M4=>W (i+1) (acc++[y]) M4 else W (i+1) acc M3:=by
 refine fF (λ i acc M=>M=M1/\acc=((xs.take i).filter p).map out) ⟨rfl,by simp⟩ (λ i acc M hi h=>?_) (λ i d acc M he h=>?_) (λ acc M h=>?_)
 ·obtain⟨_,rfl⟩:=h
  rw[x8]
  refine A1 (length_filter_le _ _) ?_
  rw[u5]
  exact Om (by omega)
 ·obtain⟨rfl,rfl⟩:=h
  rw[n4]at he
  cases e:xs[i]? with
  |none=>rw[e]at he;cases he
  |some x=>
   rw[e]at he
   cases he
   refine hs i x _ _ e (λ hp=>⟨rfl,?_⟩) (λ hp=>⟨rfl,?_⟩)
   ·rw[take_one e,filter_append,y0]
    simp[hp]
   ·rw[take_one e,filter_append,y0]
    simp[hp]
 ·obtain⟨rfl,rfl⟩:=h
  rw[x8,r9]
  exact hd
end
abbrev KP(i:Nat):D:=.int ((0:Int)+(i:Nat))
theorem G0(i:Nat):KP i=.int (i:Int):=by show D.int (0+(i:Int))=_;rw[Int.zero_add]
theorem gY{α:Type}(xs:List α)(enc:α->D):dE (xs.map enc)=xs.zipIdx.map λ p=>D.tup [.int (p.2:Int),enc p.1]:=by
 refine ext_getElem? λ i=>?_
 unfold dE
 rw[n4,n4,getElem?_zipIdx,x8]
 by_cases h:i < xs.length
 ·rw[l0 h,i5 h]
  simp[h]
 ·rw[j9 (by simpa using h),j9 (by simpa using h)]
  rfl
def JJ(R:Src->Mem->Prop)(d:D)(M1:Mem):Prop:=match d with
 | .str z=>R (.fix (ia z)) M1
 | .tup ds=>R (.fix ds) M1
 | .fl ds=>R (.fix ds) M1
 | .ref a=>(match M1 a with
  |some (.lst _)=>R (.at a) M1
  |_=>False)
 |_=>False
theorem CY{ta:bV}{δ:cD}{M:Mem}{R:Src->Mem->Prop}(h:ta δ M (JJ R)):Ej ta δ M R:=h
theorem CZ{ds:List D}{M:Mem}{R:Src->Mem->Prop}(h:R (.fix ds) M):JJ R (.tup ds) M:=h
theorem C0{a:Addr}{ds:List D}{M:Mem}{R:Src->Mem->Prop}(hM:M a=some (.lst ds))(h:R (.at a) M):JJ R (.ref a) M:=by
 show(match M a with|some (.lst _)=>R (.at a) M|_=>False)
 rw[hM]
 exact h
end L3
namespace KK
open PySem L3 L4 L5
open L2 hiding bh ny
def F'(c:Addr)(p b sd ct:Int):List D:=[.ref c,.int p,.int b,.int sd,.int ct]
structure Flow(M:Mem)(f c:Addr):Prop where
 ex:∃(ns:List Int) (p b sd ct:Int),M f=some (.lst (F' c p b sd ct))/\M c=some (.lst (ns.map D.int))/\c≠f/\0<=p/\0<=b/\0<=sd/\sd < 2147483647
def jG:fU:=λ ds M Q=>∃(f c:Addr) (n:Int),ds=[.ref f,.int n]/\Flow M f c/\0 < n/\n < 1073741824/\∀(d:Int) (o:MO),0<=d->d < n->Flow (aw M f o) f c->Q (.int d) (aw M f o)
structure Fl(f c:Addr)(M M':Mem):Prop where
 bF:Flow M' f c
 mv:∀b o,b≠f->M b=some o->M' b=some o
theorem Fl.trans {f c:Addr}{M M1 M2:Mem}(a:Fl f c M M1)(b:Fl f c M1 M2):Fl f c M M2:=⟨b.bF,λ c o h e=>b.mv c o h (a.mv c o h e)⟩
theorem Fl.pick {f c:Addr}{M:Mem}{o:MO}(h:Flow (aw M f o) f c):Fl f c M (aw M f o):=⟨h,λ b o' hb e=>by rw[aB hb];exact e⟩
theorem Flow.there {M:Mem}{f c:Addr}(h:Flow M f c):∃o,M f=some o:=by obtain⟨ns,p,b,sd,ct,h,_⟩:=h;exact⟨_,h⟩
theorem Flow.GG {M:Mem}{f c:Addr}(h:Flow M f c):∃o,M c=some o:=by obtain⟨ns,p,b,sd,ct,_,h,_⟩:=h;exact⟨_,h⟩
theorem Flow.put {M:Mem}{f c q:Addr}{o:MO}(h:Flow M f c)(n:M q=none):Flow (aw M q o) f c:=by
 obtain⟨ns,p,b,sd,ct,h1,h2,h3⟩:=h
 exact⟨ns,p,b,sd,ct,by rw[aB (λ z=>by rw[z,n]at h1;cases h1)];exact h1,by rw[aB (λ z=>by rw[z,n]at h2;cases h2)];exact h2,h3⟩
theorem Fl.put {M:Mem}{f c q:Addr}{o:MO}(h:Flow M f c)(n:M q=none):Fl f c M (aw M q o):=⟨h.put n,λ b o' hb e=>by rw[aB (λ z=>by rw[z,n]at e;cases e)];exact e⟩
theorem Flow.ne {M:Mem}{f c q:Addr}(h:Flow M f c)(n:M q=none):q≠f/\q≠c:=by
 constructor
 ·intro z
  subst z
  obtain⟨o,e⟩:=h.there
  rw[n]at e
  cases e
 ·intro z
  subst z
  obtain⟨o,e⟩:=h.GG
  rw[n]at e
  cases e
theorem Fl.own {M M':Mem}{f c q:Addr}{o:MO}(h:Fl f c M M')(h0:Flow M f c)(n:M q=none):Fl f c M (aw M' q o):=by
 obtain⟨n1,n2⟩:=h0.ne n
 obtain⟨ns,p,b,sd,ct,h1,h2,h3⟩:=h.bF
 refine⟨⟨ns,p,b,sd,ct,by rw[aB (B2 n1)];exact h1,by rw[aB (B2 n2)];exact h2,h3⟩,λ b o' hb e=>?_⟩
 rw[aB (λ z=>by rw[z,n]at e;cases e)]
 exact h.mv b o' hb e
theorem small{n:Nat}(h:n<=10000):n<=sizeLine:=A1 h (by decide)
theorem len_app(x y:Str):(x++y).length=x.length+y.length:=by
 show(x.cps++y.cps).size=x.cps.size+y.cps.size
 simp
theorem rA{zs:List Str}{d:Int}(h0:0<=d)(h1:d < zs.length):∃z,z∈zs/\e_ (zs.map D.str) d=some (.str z):=by
 have hl:d.toNat < zs.length:=by omega
 have e:((d.toNat:Nat):Int)=d:=by omega
 have q:e_ (zs.map D.str) ((d.toNat:Nat):Int)=some (.str zs[d.toNat]):=bC (by simp[hl])
 rw[e]at q
 exact⟨_,u6 hl,q⟩
def yq:fU:=λ ds M Q=>∃ns:List Int,ds=[.fl (ns.map D.int)]/\∀f c M',Flow M' f c->Q (.ref f) M'
theorem de{lo:Int}{n i:Nat}{d:D}(h:(eI lo n)[i]?=some d):i < n/\d=.int (lo+(i:Nat)):=by
 have hi:i < n:=by have:=(g9.mp h).1;rwa [bu]at this
 rw[jP hi]at h
 exact⟨hi,(w9 h).symm⟩
theorem take_snoc{α:Type}{l:List α}{i:Nat}{a:α}(h:l[i]?=some a):l.take (i+1)=l.take i++[a]:=by
 rw[take_add_one,h]
 rfl
def ND(as:List Int):L2.Ky:=(as.sum,as.map λ a=>0 - a)
def yo:fU:=λ ds M Q=>∃as:List Int,ds=[row as]/\as.length<=1000/\Q (.tup [.int as.sum,row (as.map λ a=>0 - a)]) M
def um:fU:=λ ds M Q=>∃(x:D) (rs:List (List Int)),ds=[x]/\(x=.tup (rs.map row)\/∃l,x=.ref l/\M l=some (.lst (rs.map row)))/\rs.length < 64/\(∀r∈rs,r.length<=1000)/\∀out:List (List Int),(∀r∈out,r∈rs)->out.length<=rs.length->Q (.tup (out.map row)) M
theorem rC{ns:List Int}{i:Nat}(h:i < ns.length):e_ (ns.map D.int) (i:Int)=some (.int (ns.getD i 0)):=by
 refine bC ?_
 simp[c7,h]
theorem lZ{p:Addr}{ds:List D}{M:Mem}{Q:bq}(h:M p=some (.lst ds))(q:Q (.tup ds) M):oH [.ref p] M Q:=by
 show(match aO M p with|some ds=>Q (.tup ds) M|none=>False)
 unfold aO
 rw[h]
 exact q
theorem Ic{rs:List (List Int)}{lt:Nat->Nat->Bool}{outD:List D}(h:Out lt (rs.map row) D.a_ outD):∃out:List (List Int),outD=out.map row/\(∀r∈out,r∈rs)/\out.length=rs.length:=by
 obtain⟨p,p1,p2,rfl⟩:=h
 rw[x8]at p1 p2
 have AA:∀i∈p.toList,i < rs.length:=λ i hi=>by
  have:=(Array.Perm.mem_iff p1 (a:=i)).mp (by simpa using hi)
  simpa using this
 refine⟨p.toList.map λ i=>rs.getD i [],?_,λ r hr=>?_,?_⟩
 ·rw[A0]
  refine map_congr_left λ i hi=>?_
  have:=AA i hi
  simp[c7,this]
 ·obtain⟨i,hi,rfl⟩:=z9.mp hr
  have:=AA i hi
  rw[c7,i5 this]
  exact u6 this
 ·rw[x8,l5,p1.size]
theorem back{M M1:Mem}{v:D}{Q:bq}(h:∀b o,M b=some o->M1 b=some o)(q:Q v M):fin2 Q v M1:=⟨M,λ a o e=>h a o e,q⟩
theorem qf{M M':Mem}(h:∀b o,M b=some o->M' b=some o){q:Addr}(n:M' q=none)(x:MO):∀b o,M b=some o->aw M' q x b=some o:=λ b o e=>by
 rw[aB (λ z=>by rw[<- z,h b o e]at n;cases n)]
 exact h b o e
abbrev br:=Str×List (List Int)
def iV:br:=(Str.ofString "",[])
def bK(h:br):D:=.tup [.str h.1,.tup (h.2.map row)]
def aX(g:List br):D:=.tup (g.map bK)
structure hW(n i:Nat)(r:List Int):Prop where
 len:r.length=n
 pos:∀x∈r,0<=x
 sum:r.sum<=4
 low:∀j,i<=j->r.getD j 0=0
structure gr(n:Nat)(g:List br):Prop where
 len:g.length=n
 kT:n<=12
 opts:∀i,i < n->(g.getD i iV).2.length<=63/\∀r∈(g.getD i iV).2,hW n i r
def iY(ns:List Int)(n:Nat):List Int:=(List.range n).map λ(h:Nat)=>((ns.count (h:Int):Nat):Int)
theorem Bp(ns:List Int)(n:Nat):(iY ns n).length=n:=by simp[iY]
theorem Bm{ns:List Int}{n:Nat}:∀x∈iY ns n,0<=x:=λ x hx=>by
 obtain⟨h,_,rfl⟩:=z9.mp hx
 omega
theorem qX(ns:List Int):∀n:Nat,(iY ns n).sum=(ns.countP λ x=>decide (0<=x/\x < (n:Int)):Nat)
 |0=>by
  have:ns.countP (λ x=>decide (0<=x/\x < ((0:Nat):Int)))=0:=countP_eq_zero.mpr λ x _=>by simp
  rw[this]
  rfl
 |n+1=>by
  have ih:=qX ns n
  unfold iY at ih ⊢
  rw[range_succ,y0,sum_append,ih]
  simp only[z4,map_nil,sum_cons,sum_nil]
  have:ns.countP (λ x=>decide (0<=x/\x < ((n+1:Nat):Int)))=ns.countP (λ x=>decide (0<=x/\x < (n:Int)))+ns.count (n:Int):=by
   clear ih
   induction ns with
   |nil=>rfl
   |cons y ys ih=>
    rw[countP_cons,countP_cons,count_cons,ih]
    generalize List.countP _ ys=A
    generalize List.count _ ys=B
    by_cases h1:0<=y/\y < (n:Int)
    ·have h2:0<=y/\y < ((n+1:Nat):Int):=by omega
     have h3:¬(y=(n:Int)):=by omega
     rw[B3 (y2 h2),B3 (y2 h1),B4 (by simpa using h3)]
     omega
    ·by_cases h3:y=(n:Int)
     ·rw[B3 (y2 (by omega)),B4 (by simpa using h1),B3 (by simpa using h3)]
      omega
     ·rw[B4 (by simp only[n5];omega),B4 (by simpa using h1),B4 (by simpa using h3)]
      omega
  rw[this]
  omega
theorem Bq{ns:List Int}{n:Nat}:(iY ns n).sum<=ns.length:=by
 rw[qX]
 have:=countP_le_length (p:=λ x=>decide (0<=x/\x < (n:Int))) (l:=ns)
 omega
theorem Bo{ns:List Int}{n i:Nat}(h:∀x∈ns,x < (i:Int))(j:Nat)(hj:i<=j):(iY ns n).getD j 0=0:=by
 unfold iY
 rw[c7,n4]
 by_cases hn:j < n
 ·rw[l0 hn]
  have:ns.count (j:Int)=0:=count_eq_zero.mpr λ z=>by have:=h _ z;omega
  simp[this]
 ·rw[j9 (by simpa using hn)]
  rfl
def pM:fU:=λ ds M Q=>∃(a:Addr) (ns:List Int) (n:Nat),ds=[.ref a,.int n]/\M a=some (.lst (ns.map D.int))/\n<=1000/\Q (row (iY ns n)) M
theorem kh:∀zs:List Str,iK (zs.map D.str)=some (zs.map V.str)
 |[]=>rfl
 |z::zs=>by
  rw[z4]
  show(match ko (D.str z),iK (zs.map D.str)with|some v,some vs=>some (v::vs)|_,_=>none)=_
  rw[kh zs]
  rfl
theorem qu(z:Str):∀zs:List Str,FT (.str z) (zs.map V.str)=zs.contains z
 |[]=>rfl
 |y::ys=>by
  have ih:=qu z ys
  unfold FT at ih ⊢
  rw[z4,any_cons,ih,contains_cons]
  congr 1
  show(y==z)=(z==y)
  rw[u7,beq_iff_eq,beq_iff_eq]
  exact eq_comm
theorem qv(z:Str)(zs:List Str):inD (.str z) (zs.map D.str)=some (zs.contains z):=by
 unfold inD
 rw[kh]
 show some (FT (.str z) (zs.map V.str))=_
 rw[qu]
theorem sT(c:Nat):MulOk ⟨#[c]⟩ 1:=⟨by decide,λ _ h=>(by have z:true=false:=h;cases z),λ _ h=>(by have z:true=false:=h;cases z)⟩
def rp:List Nat:=(Str.ofString "zyxwvutsrqponmlkjihgfedcba").cps.toList
def iZ(j:Nat):Str:=Txt.mul ⟨#[rp.getD j 0]⟩ 1
theorem tS:((List.range 26).map iZ).Nodup:=by decide+kernel
theorem qa:∀{l zs:List Str},l.Nodup->(∀x∈l,x∈zs)->l.length<=zs.length
 |[],zs,_,_=>A4 _
 |a::l,zs,hn,hs=>by
  rw[nodup_cons]at hn
  have ha:a∈zs:=hs a (l7 ..)
  have h1:=qa (l:=l) (zs:=zs.erase a) hn.2 λ x hx=>(mem_erase_of_ne (λ z=>hn.1 (by rw[<- z];exact hx))).mpr (hs x (k4 _ hx))
  rw[length_erase_of_mem ha]at h1
  have:=length_pos_of_mem ha
  rw[q9]
  omega
theorem Bw{zs:List Str}{sp:Nat}(TL:sp<=26)(h:∀j,j < sp->iZ j∈zs):sp<=zs.length:=by
 have e:((List.range sp).map iZ).Nodup:=by
  refine List.Sublist.nodup (List.Sublist.map iZ ?_) tS
  have:List.range sp=(List.range 26).take sp:=by rw[take_range,Nat.min_eq_left TL]
  rw[this]
  exact take_sublist _ _
 have:=qa e (zs:=zs) λ x hx=>by
  obtain⟨j,hj,rfl⟩:=z9.mp hx
  exact h j (by simpa using hj)
 simpa using this
theorem aY{T:String}{d:D}{M:Mem}{Q:bq}{n:String}{b:Bool}(e:jA M d=some n)(hb:nW n T=b)(q:Q (.bl b) M):Gi T [d,.ty T] M Q:=⟨rfl,by rw[e];subst hb;exact q⟩
theorem fJ{d:D}{M:Mem}{Q:bq}(h:jA M d≠some "NoneType")(q:Q (.bl false) M):Jz false d .a_ M Q:=by
 cases d with
 |a_=>exact absurd rfl h
 |_=>exact q
theorem jo{ds:List D}{i:Nat}(h:i < ds.length):e_ ds (0+(i:Int))=some ds[i]:=by
 rw[Int.zero_add]
 refine bC ?_
 simp[h]
theorem oV:∀n:Nat,((List.replicate n true).all id)=true
 |0=>rfl
 |n+1=>by rw[l4,all_cons,oV n];rfl
def Ext(M M':Mem):Prop:=∀b o,M b=some o->M' b=some o
theorem Ext.own {M M':Mem}(h:Ext M M'){q:Addr}{x:MO}(n:M q=none):Ext M (aw M' q x):=λ b o e=>by
 rw[aB (λ z=>by rw[z,n]at e;cases e)]
 exact h b o e
end KK
namespace HT
open PySem PySem.Spec PyProof.Rows
section
variable {prog:Program}{w:World}{A:Around}{E:Value->Shared->Prop}{s:Shared}
theorem fZ{t sl:Addr}{items:Array Value}{vl vu:Value}{lo hi:Option Int}{Q:Value->Shared->Prop}(ht:IsTup s.heap t items)(hs:s.heap.IsSliceOf sl vl vu .none)(pl:IsPart vl lo)(pu:IsPart vu hi)
  (hw:bS items.size 0 lo=0/\bS items.size items.size hi=items.size) (h:Q (.ref t) s):wpAny (model prog w) A (getItem (.ref t) (.ref sl)) Q E s:=by
 obtain⟨os,iW,Kd,EJ⟩:=id hs
 have PU:s.TypeIs (.ref sl) "slice":=⟨os,iW,Kd⟩
 unfold getItem
 try with_reducible refine y7 ?_
 first|refine A6 (A7 ?_)|skip
 refine A6 (wpAny_sequenceKey ht.typeIs (by decide) ?_)
 refine A6 (i9 (name:=Str.ofString "__getitem__") ht.typeIs a0
  (s9 a0 ht.typeIs entry_tuple_getitem ?_ (args_tuple_getitem _ _)))
 show wpAny _ _ (Builtin.Tuple.tupleItemsOf (.ref t) >>= _) _ _ s
 refine A6 (tupleItemsOf_ ht ?_)
 refine A6 (wpAny_typeOf PU ?_)
 rw[B3 (by decide)]
 refine A6 (dU hs pl pu ?_)
 have Pc:(((bS items.size 0 lo:Nat):Int)==0&&(1:Int)==1&&(bS items.size items.size hi - bS items.size 0 lo)==items.size)=true:=by
  rw[hw.1,hw.2]
  simp
 show wpAny _ _ (if(((bS items.size 0 lo:Nat):Int)==0&&(1:Int)==1&&(bS items.size items.size hi - bS items.size 0 lo)==items.size)=true then _ else _) _ _ s
 rw[B3 Pc]
 unfold Builtin.Tuple.tupleIsExact
 refine A6 (A6 (wpAny_typeOf ht.typeIs (A7 ?_)))
 rw[B3 (by decide)]
 exact A6 (wpAny_rule (A7 ⟨_,rfl,A7 h⟩))
end
end HT
namespace L2
open PySem PySem.Spec PyProof.Rows
section
variable {X:Cx}
theorem Cj:vJ X (λ x lo hi H Q=>∃a xs,x=.ref a/\ef X.K H a xs/\(HT.bS xs.length 0 lo=0/\HT.bS xs.length xs.length hi=xs.length)/\Q (.ref a) H):=by
 intro pins s σ H x v vl vu lo hi sl Q I rx hs pl pu h
 obtain⟨a,xs,rfl,hx,hw,q⟩:=h
 cases rx
 obtain⟨ah,r,ht,hz⟩:=I.tuple hx
 have hlen:ah.toArray.size=xs.length:=by rw[p7];exact r.length.symm
 exact⟨"tuple",_,a0.lookup,ht.typeIs,HT.fZ ht hs pl pu (by rw[hlen];exact hw) ⟨.ref a,H,I,rfl,q⟩⟩
end
end L2
namespace L3
open PySem PySem.Spec L2
section
variable {X:Cx}
def Bh:D->Option Int->Option Int->Mem->bq->Prop:=λ x lo hi M Q=>match x with
 | .str z=>z.length<=sizeLine/\Q (.str (lx z lo hi)) M
 | .tup ds=>Q (.tup (cutD ds lo hi)) M
 | .ref a=>match aO M a with
  |some ds=>∀p,M p=none->Q (.ref p) (aw M p (.lst (cutD ds lo hi)))
  |none=>False
 |_=>False
theorem yw:MW X Bh:=by
 obtain⟨r,h1,h2⟩:=(ny:MW X Rz)
 refine⟨_,h1.or Cj,λ x d lo hi H M Q2 Q hd hm q k=>?_⟩
 cases d with
 |tup ds=>
  by_cases hw:HT.bS ds.length 0 lo=0/\HT.bS ds.length ds.length hi=ds.length
  ·have q:Q2 (.tup (cutD ds lo hi)) M:=q
   have e:cutD ds lo hi=ds:=by unfold cutD;rw[hw.1,hw.2];simp
   rw[e]at q
   obtain⟨p,xs,rfl,h,hx⟩:=aE.mp hd
   exact .inr ⟨p,xs,rfl,h,by rw[hx.length];exact hw,k _ H _ M (aE.mpr ⟨p,xs,rfl,h,hx⟩) hm (ai.refl H) q⟩
  ·exact .inl (h2 x (.tup ds) lo hi H M Q2 Q hd hm ⟨hw,q⟩ k)
 |str z=>exact .inl (h2 x (.str z) lo hi H M Q2 Q hd hm q k)
 |ref a=>exact .inl (h2 x (.ref a) lo hi H M Q2 Q hd hm q k)
 |_=>exact q.elim
end
section
variable {M:Mem}{Q:bq}
theorem vA{ds:List D}{i:Int}(h0:0<=i):cutD ds none (some i)=ds.take i.toNat:=by
 unfold cutD
 have e:HT.bS ds.length ds.length (some i)=min i.toNat ds.length:=by
  show(if i < 0 then(i+(ds.length:Int)).toNat else min i.toNat ds.length)=_
  rw[B4 (by omega)]
 rw[e]
 show(ds.drop 0).take (min i.toNat ds.length - 0)=_
 rw[drop_zero,Nat.sub_zero,take_eq_take_iff]
 omega
theorem yJ{ds:List D}{i:Int}(h0:0<=i)(q:Q (.tup (ds.take i.toNat)) M):Bh (.tup ds) none (some i) M Q:=by
 show Q (.tup (cutD ds none (some i))) M
 rw[vA h0]
 exact q
theorem Cv{z:Str}{lo hi:Option Int}(h:z.length<=sizeLine)(q:Q (.str (lx z lo hi)) M):Bh (.str z) lo hi M Q:=⟨h,q⟩
theorem Cw{a:Addr}{ds:List D}{lo hi:Option Int}(h:M a=some (.lst ds))(q:∀p,M p=none->Q (.ref p) (aw M p (.lst (cutD ds lo hi)))):Bh (.ref a) lo hi M Q:=by
 show(match aO M a with|some ds=>∀p,M p=none->Q (.ref p) (aw M p (.lst (cutD ds lo hi)))|none=>False)
 unfold aO
 rw[h]
 exact q
theorem wm{a:Addr}{ds:List D}{i:Int}(h:M a=some (.lst ds))(h0:0<=i)(q:∀p,M p=none->Q (.ref p) (aw M p (.lst (ds.take i.toNat)))):Bh (.ref a) none (some i) M Q:=by
 refine Cw h ?_
 rw[vA h0]
 exact q
end
end L3
namespace L3
open PySem PySem.Spec L2 L5 PyProof.Rows
def Pl:Nat->D->Prop
 |0,d=>d=.a_\/(∃i,d=.int i)\/∃x,d=.str x/\PyData.strOk x=true
 |k+1,d=>d=.a_\/(∃i,d=.int i)\/(∃x,d=.str x/\PyData.strOk x=true)\/∃ds,d=.tup ds/\∀e∈ds,Pl k e
theorem ie(k:Nat)(i:Int):Pl k (.int i):=by
 cases k with
 |zero=>exact .inr (.inl ⟨i,rfl⟩)
 |succ k=>exact .inr (.inl ⟨i,rfl⟩)
theorem HW(k:Nat){x:Str}(h:PyData.strOk x=true):Pl k (.str x):=by
 cases k with
 |zero=>exact .inr (.inr ⟨x,rfl,h⟩)
 |succ k=>exact .inr (.inr (.inl ⟨x,rfl,h⟩))
theorem nI{k:Nat}{ds:List D}(h:∀e∈ds,Pl k e):Pl (k+1) (.tup ds):=.inr (.inr (.inr ⟨ds,rfl,h⟩))
theorem sI{α:Type}{k:Nat}{xs:List α}{enc:α->D}(h:∀x∈xs,Pl k (enc x)):∀e∈xs.map enc,Pl k e:=λ e he=>by
 obtain⟨x,hx,rfl⟩:=z9.mp he
 exact h x hx
structure RG(k:Nat)(d:D):Prop where
 nr:nr d=true
 lay:(toP d).canLay0=true
 dep:(toP d).depth<=k
structure Qz(k:Nat)(ds:List D):Prop where
 nr:nP ds=true
 lay:PyData.canLayAll0 (toPs ds)=true
 dep:PyData.depthAll (toPs ds)<=k
theorem gI{k:Nat}:∀{ds:List D},(∀e∈ds,RG k e)->Qz k ds
 |[],_=>⟨by unfold nP;rfl,by unfold toPs;simp[PyData.canLayAll0],by unfold toPs;simp[PyData.depthAll]⟩
 |d::ds,h=>by
  have h1:=h d (l7 ..)
  have h2:=gI (ds:=ds) λ e he=>h e (k4 _ he)
  refine⟨?_,?_,?_⟩
  ·unfold nP;rw[h1.nr,h2.nr];rfl
  ·unfold toPs;simp only[PyData.canLayAll0];rw[h1.lay,h2.lay];rfl
  ·unfold toPs;simp only[PyData.depthAll];exact Nat.max_le.mpr ⟨h1.dep,h2.dep⟩
theorem Pl.f:∀{k:Nat} {d:D},Pl k d->RG k d
 |0,d,h=>by
  rcases h with rfl|⟨i,rfl⟩|⟨x,rfl,hx⟩
  ·exact⟨by unfold L3.nr;rfl,by unfold toP;simp[PyData.canLay0],by unfold toP;simp[PyData.depth]⟩
  ·exact⟨by unfold L3.nr;rfl,by unfold toP;simp[PyData.canLay0],by unfold toP;simp[PyData.depth]⟩
  ·exact⟨by unfold L3.nr;rfl,by unfold toP;simp[PyData.canLay0,hx],by unfold toP;simp[PyData.depth]⟩
 |k+1,d,h=>by
  rcases h with rfl|⟨i,rfl⟩|⟨x,rfl,hx⟩|⟨ds,rfl,h⟩
  ·exact⟨by unfold L3.nr;rfl,by unfold toP;simp[PyData.canLay0],by unfold toP;simp[PyData.depth]⟩
  ·exact⟨by unfold L3.nr;rfl,by unfold toP;simp[PyData.canLay0],by unfold toP;simp[PyData.depth]⟩
  ·exact⟨by unfold L3.nr;rfl,by unfold toP;simp[PyData.canLay0,hx],by unfold toP;simp[PyData.depth]⟩
  ·have q:=gI λ e he=>Pl.f (h e he)
   refine⟨?_,?_,?_⟩
   ·unfold L3.nr;exact q.nr
   ·unfold toP;simp only[PyData.canLay0];exact q.lay
   ·unfold toP;simp only[PyData.depth];have:=q.dep;omega
theorem kr{k:Nat}(ih:∀x y:D,Pl k x->Pl k y->(PyData.eqv (toP x) (toP y)=true↔x=y)):∀{ds es:List D},(∀e∈ds,Pl k e)->(∀e∈es,Pl k e)->(PyData.eqvAll (toPs ds) (toPs es)=true↔ds=es)
 |[],[],_,_=>by unfold toPs;simp[PyData.eqvAll]
 |[],e::es,_,_=>by unfold toPs;simp[PyData.eqvAll]
 |d::ds,[],_,_=>by unfold toPs;simp[PyData.eqvAll]
 |d::ds,e::es,h1,h2=>by
  have a:=ih d e (h1 d (l7 ..)) (h2 e (l7 ..))
  have b:=kr ih (ds:=ds) (es:=es) (λ x hx=>h1 x (k4 _ hx)) (λ x hx=>h2 x (k4 _ hx))
  unfold toPs
  simp only[PyData.eqvAll,u4,a,b,List.cons.injEq]
theorem gX:∀{k:Nat} (x y:D),Pl k x->Pl k y->(PyData.eqv (toP x) (toP y)=true↔x=y)
 |0,x,y,hx,hy=>by
  rcases hx with rfl|⟨i,rfl⟩|⟨z,rfl,_⟩ <;> rcases hy with rfl|⟨j,rfl⟩|⟨w,rfl,_⟩ <;> simp[toP,PyData.eqv]
 |k+1,x,y,hx,hy=>by
  rcases hx with rfl|⟨i,rfl⟩|⟨z,rfl,_⟩|⟨ds,rfl,hd⟩ <;> rcases hy with rfl|⟨j,rfl⟩|⟨w,rfl,_⟩|⟨es,rfl,he⟩ <;> first
   |(simp[toP,PyData.eqv];done)
   |(have:=kr (λ x y=>gX (k:=k) x y) hd he
     unfold toP
     simp only[PyData.eqv,D.tup.injEq]
     exact this)
theorem AS{k:Nat}{x y:D}(hx:Pl k x)(hy:Pl k y){b:Bool}(hb:b=true↔x=y):PyData.eqv (toP x) (toP y)=b:=by
 rw[u7]
 exact(gX x y hx hy).trans hb.symm
theorem lU{k:Nat}{d:D}(h:Pl k d)(hk:k<=60):SeqAt.shaped (toP d)=true:=by
 have f:=h.f
 unfold SeqAt.shaped
 rw[f.lay,y2 (by have:=f.dep;omega)]
 rfl
theorem jI{k:Nat}{ds:List D}(h:∀e∈ds,Pl k e)(hk:k<=60):SeqAt.shaped (.list (toPs ds))=true:=by
 have f:=gI λ e he=>(h e he).f
 have h1:(PyData.list (toPs ds)).canLay0=true:=by simp only[PyData.canLay0];exact f.lay
 have h2:(PyData.list (toPs ds)).depth<=64:=by simp only[PyData.depth];have:=f.dep;omega
 unfold SeqAt.shaped
 rw[h1,y2 h2]
 rfl
theorem ze{k:Nat}{d:D}{M:Mem}(h:Pl k d):pV M d=some (toP d):=by
 have f:=h.f.nr
 cases d with
 |ref a=>unfold nr at f;cases f
 |_=>unfold pV;dsimp only;rw[B3 f]
section
variable {M:Mem}{Q:bq}
theorem CC{k:Nat}{x y:D}{b:Bool}(hx:Pl k x)(hy:Pl k y)(hk:k<=60)(hb:b=true↔x=y)(q:Q (.bl (!b)) M):qS true x y M Q:=by
 refine .inr ⟨_,_,ze hx,ze hy,lU hx hk,lU hy hk,?_⟩
 rw[AS hx hy hb]
 exact q
theorem uG{k:Nat}{p:Addr}{ds:List D}(hM:M p=some (.lst ds))(h:∀e∈ds,Pl k e):pV M (.ref p)=some (.list (toPs ds)):=by
 have f:=gI λ e he=>(h e he).f
 unfold pV
 simp only[hM]
 rw[B3 f.nr]
theorem xj{k:Nat}{ds es:List D}(h1:∀e∈ds,Pl k e)(h2:∀e∈es,Pl k e){b:Bool}(hb:b=true↔ds=es):PyData.eqv (.list (toPs ds)) (.list (toPs es))=b:=by
 rw[u7]
 have:=kr (λ x y=>gX (k:=k) x y) h1 h2
 simp only[PyData.eqv]
 exact this.trans hb.symm
theorem CD{k:Nat}{p p2:Addr}{ds es:List D}{b:Bool}(hM:M p=some (.lst ds))(PX:M p2=some (.lst es))(h1:∀e∈ds,Pl k e)(h2:∀e∈es,Pl k e)(hk:k<=60)(hb:b=true↔ds=es)(q:Q (.bl (!b)) M):qS true (.ref p) (.ref p2) M Q:=by
 refine .inr ⟨_,_,uG hM h1,uG PX h2,jI h1 hk,jI h2 hk,?_⟩
 rw[xj h1 h2 hb]
 exact q
end
section
variable {X:Cx}
theorem ma{A:Around}{s:Shared}{v:Value}{y:PyData}{bs:List Addr}(ry:Reads s.heap v y bs)(cy:y.canLay0=true)(hu:A.units+y.depth < cLine):∀{ds:List D} {us:List Value} {as:List Addr},ReadsAll s.heap us (toPs ds) as->PyData.canLayAll0 (toPs ds)=true->
  ∃e:Value->Bool,(∀u∈us,SeqAt.EqAt A s u v (e u))/\us.map e=ds.map λ d=>PyData.eqv (toP d) y:=by
 intro ds us as ra cl
 refine⟨λ u=>PyData.eqv (SeqAt.readOf s.heap u) y,λ u J7=>?_,?_⟩
 ·obtain⟨d,RC,rd,cd,_⟩:=SeqAt.readsAll_mem _ _ _ cl ra u J7
  have e:=SeqAt.readOf_eq cd rd
  dsimp only
  rw[e]
  exact p8 d y A s u v _ _ rd ry cd cy (by omega)
 ·have e:=SeqAt.readsAll_map _ _ _ cl ra
  have f:∀(us:List Value) (ds:List D),us.map (SeqAt.readOf s.heap)=toPs ds->us.map (λ u=>PyData.eqv (SeqAt.readOf s.heap u) y)=ds.map λ d=>PyData.eqv (toP d) y:=by
   intro us
   induction us with
   |nil=>
    intro ds q
    cases ds with
    |nil=>rfl
    |cons d r=>unfold toPs at q;cases q
   |cons u us ih=>
    intro ds q
    cases ds with
    |nil=>unfold toPs at q;cases q
    |cons d r=>
     unfold toPs at q
     rw[z4]at q
     injection q with q1 q2
     rw[z4,z4,ih r q2,q1]
  exact f us ds e
structure QN(K:PySem.W.Frag)(H:Hp)(b:Bool)(p:Addr)(xs:List V)(ds:List D)(x:V)(d:D):Prop where
 sq:Sq b K H p xs
 MC:az K H ds xs
 dat:Dat K H d x
 ns:nP ds=true
 n:nr d=true
 Ef:PyData.canLayAll0 (toPs ds)=true
 lay:(toP d).canLay0=true
 dep:(toP d).depth < 62
theorem any_map{α:Type}(us:List α)(e:α->Bool)(bs:List Bool)(h:us.map e=bs):us.any e=bs.any id:=by
 rw[<- h,List.any_map]
 rfl
theorem Im(neg:Bool)(hu:X.A.units+64 < cLine):eo X (compareOp (if neg then .NotIn else .In)) (λ x y H Q=>∃(b:Bool) (p:Addr) (xs:List V) (ds:List D) (d:D),y=.ref p/\QN X.K H b p xs ds x d/\Q (.bl (if neg then !ds.any (λ e=>PyData.eqv (toP e) (toP d))else ds.any λ e=>PyData.eqv (toP e) (toP d))) H):=by
 intro pins s σ H x y v u Q I rx ry h
 obtain⟨b,p,xs,ds,d,rfl,ok,q⟩:=h
 cases ry
 obtain⟨bs,rb⟩:=Nw I d ok.n ok.dat rx
 have hd:=ok.dep
 cases b with
 |false=>
  obtain⟨ah,r,pl,hz⟩:=I.list ok.sq
  obtain⟨as,ra⟩:=sy I ds ok.ns ok.MC r
  obtain⟨e,e1,e2⟩:=ma (A:=X.A.in1) rb ok.lay (by show X.A.units+1+_ < _;omega) ra ok.Ef
  have e3:ah.toArray.any e=ds.any λ e=>PyData.eqv (toP e) (toP d):=by
   rw[show ah.toArray.any e=ah.any e by simp,any_map _ _ _ e2,List.any_map]
   rfl
  cases neg with
  |false=>exact SeqAt.in_listAt e pl.isList (λ w hw=>e1 w (by simpa using hw)) ⟨.bl _,H,I,rfl,by rw[e3];exact q⟩
  |true=>exact SeqAt.notIn_listAt e pl.isList (λ w hw=>e1 w (by simpa using hw)) ⟨.bl _,H,I,rfl,by rw[e3];exact q⟩
 |true=>
  obtain⟨ah,r,pl,hz⟩:=I.tuple ok.sq
  obtain⟨as,ra⟩:=sy I ds ok.ns ok.MC r
  obtain⟨e,e1,e2⟩:=ma (A:=X.A.in1) rb ok.lay (by show X.A.units+1+_ < _;omega) ra ok.Ef
  have e3:ah.toArray.any e=ds.any λ e=>PyData.eqv (toP e) (toP d):=by
   rw[show ah.toArray.any e=ah.any e by simp,any_map _ _ _ e2,List.any_map]
   rfl
  cases neg with
  |false=>exact SeqAt.in_tupleAt e pl (λ w hw=>e1 w (by simpa using hw)) ⟨.bl _,H,I,rfl,by rw[e3];exact q⟩
  |true=>exact SeqAt.notIn_tupleAt e pl (λ w hw=>e1 w (by simpa using hw)) ⟨.bl _,H,I,rfl,by rw[e3];exact q⟩
end
end L3
namespace L3
open PySem PySem.Spec L2 L5 PyProof.Rows
section
variable {X:Cx}
def Gf:List D->Mem->bq->Prop:=λ ds M Q=>∃ns:List Int,ds=ns.map D.int/\Q (.int ns.sum) M
theorem uf:iQ Jx Gf:=λ ds M p Q hp hz q=>by
 obtain⟨ns,rfl,q⟩:=q
 exact⟨.ref p,_,ns,rfl,ip,rfl,M,(ja.refl M).put hp,q⟩
def MF:eX:=λ x y M Q=>∃l k ds,x=.ref l/\y=.int k/\M l=some (.lst ds)/\-(2^63)<=k/\k < 2^63/\ds.length*k.toNat<=sizeLine/\∀p,M p=none->Q (.ref p) (aw M p (.lst (List.replicate k.toNat ds).flatten))
def Bi:eX:=λ x y M Q=>vw x y M Q\/MF x y M Q
theorem ij:eY X (binaryOp .Mult) Bi:=Iy.or ⟨_,Ig,λ x y d e H M Q2 Q hd he hm q k=>by
 obtain⟨l,n,ds,rfl,rfl,hM,h1,h2,hz,q⟩:=q
 cases(aA.mp hd)
 cases(aq.mp he)
 obtain⟨xs,hx,Rp⟩:=hm l _ hM
 exact⟨l,n,xs,rfl,rfl,hx,h1,h2,by rw[Rp.length];exact hz,λ p hp=>k _ _ (.ref p) _ (aA.mpr rfl) (cw hp (ky Rp n.toNat) hm) (ai.laid hp) (q p (hm.free hp))⟩⟩
structure RI(M:Mem)(x y:D)(ds:List D):Prop where
 sq:cG M y=some ds
 ns:nP ds=true
 n:nr x=true
 Ef:PyData.canLayAll0 (toPs ds)=true
 lay:(toP x).canLay0=true
 dep:(toP x).depth < 62
def JA(neg:Bool):eX:=λ x y M Q=>∃ds,RI M x y ds/\Q (.bl (if neg then !ds.any (λ e=>PyData.eqv (toP e) (toP x))else ds.any λ e=>PyData.eqv (toP e) (toP x))) M
theorem FO(neg:Bool)(hu:X.A.units+64 < cLine):eY X (compareOp (if neg then .NotIn else .In)) (JA neg):=⟨_,Im neg hu,λ x y d e H M Q2 Q hd he hm q k=>by
 obtain⟨ds,ok,q⟩:=q
 obtain⟨p,xs,rfl,q1,x1⟩:=nu ok.sq he hm
 exact⟨_,p,xs,ds,d,rfl,⟨q1,x1,hd,ok.ns,ok.n,ok.Ef,ok.lay,ok.dep⟩,k _ H _ M (aN.mpr rfl) hm (ai.refl H) q⟩⟩
def Bj:eX:=λ x y M Q=>NW x y M Q\/JA false x y M Q
theorem zM(hu:X.A.units+64 < cLine):eY X (compareOp .In) Bj:=OQ.or (FO false hu)
def vt:eX:=λ x y M Q=>∃i j,x=.str i/\y=.str j/\Q (.bl (!(!(Builtin.Str.occurrences j i 0 j.length 1).isEmpty))) M
theorem zK:eY X (compareOp .NotIn) vt:=⟨_,nN,λ x y d e H M Q2 Q hd he hm q k=>by
 obtain⟨i,j,rfl,rfl,q⟩:=q
 cases(aG.mp hd)
 cases(aG.mp he)
 exact⟨i,j,rfl,rfl,k _ H _ M (aN.mpr rfl) hm (ai.refl H) q⟩⟩
def vv:eX:=λ x y M Q=>vt x y M Q\/JA true x y M Q
theorem zL(hu:X.A.units+64 < cLine):eY X (compareOp .NotIn) vv:=zK.or (FO true hu)
end
section
variable {M:Mem}{Q:bq}
theorem uw{ns:List Int}(q:Q (.int ns.sum) M):Gf (ns.map D.int) M Q:=⟨ns,rfl,q⟩
theorem gH{i j:Int}(h:pb i j)(q:Q (.int (i*j)) M):Bi (.int i) (.int j) M Q:=.inl (yN h q)
theorem yL{i:Str}{j:Int}(h:MulOk i j)(q:Q (.str (Txt.mul i j)) M):Bi (.str i) (.int j) M Q:=.inl (yM h q)
theorem CM{x:D}{ds:List D}{b:Bool}(e:inD x ds=some b)(q:Q (.bl b) M):Bj x (.tup ds) M Q:=.inl (Hi e q)
theorem CN{x:D}{a:Addr}{ds:List D}{b:Bool}(h:M a=some (.lst ds))(e:inD x ds=some b)(q:Q (.bl b) M):Bj x (.ref a) M Q:=.inl (Hj h e q)
theorem mm{k:Nat}{x y:D}{ds:List D}(hs:cG M y=some ds)(hx:Pl k x)(hd:∀e∈ds,Pl k e)(hk:k<=60):RI M x y ds:=by
 have f:=gI λ e he=>(hd e he).f
 exact⟨hs,f.nr,hx.f.nr,f.lay,hx.f.lay,by have:=hx.f.dep;omega⟩
theorem BC{k:Nat}{x:D}{ds:List D}(hx:Pl k x)(hd:∀e∈ds,Pl k e){b:Bool}(hb:b=true↔x∈ds):(ds.any λ e=>PyData.eqv (toP e) (toP x))=b:=by
 rw[u7,hb,List.any_eq_true]
 constructor
 ·rintro⟨e,he,h⟩
  rw[<- (gX e x (hd e he) hx).mp h]
  exact he
 ·intro h
  exact⟨x,h,(gX x x hx hx).mpr rfl⟩
theorem CO{k:Nat}{x y:D}{ds:List D}{b:Bool}(hs:cG M y=some ds)(hx:Pl k x)(hd:∀e∈ds,Pl k e)(hk:k<=60)(hb:b=true↔x∈ds)(q:Q (.bl b) M):Bj x y M Q:=by
 refine .inr ⟨ds,mm hs hx hd hk,?_⟩
 rw[BC hx hd hb]
 exact q
theorem sv{k:Nat}{x y:D}{ds:List D}{b:Bool}(hs:cG M y=some ds)(hx:Pl k x)(hd:∀e∈ds,Pl k e)(hk:k<=60)(hb:b=true↔x∈ds)(q:Q (.bl (!b)) M):vv x y M Q:=by
 refine .inr ⟨ds,mm hs hx hd hk,?_⟩
 rw[BC hx hd hb]
 exact q
theorem uP{α:Type}{xs:List α}{enc:α->D}(inj:∀a b,enc a=enc b->a=b)(a:α):enc a∈xs.map enc↔a∈xs:=by
 rw[z9]
 constructor
 ·rintro⟨b,hb,e⟩
  rw[<- inj _ _ e]
  exact hb
 ·intro h
  exact⟨a,h,rfl⟩
end
end L3
namespace L5
open PySem PyProof.Rows
abbrev Jv(d:Value):List (Str×Value):=[(Str.ofString "default",d)]
theorem xF(a d:Value):argsOk "max" ⟨[a],Jv d⟩:=by unfold argsOk;kernel_rfl
section
variable {prog:Program}{w:World}{A:Around}{R:Result->Shared->Prop}{I:Addr}{fp wr:List Addr}{n:Nat}{P:Nat->Value->Prop}{St:Nat->Heap->Prop}{d:Value}
theorem nQ:(toString "max"++toString ".loop":String)="max.loop":=by decide
abbrev oR(xs:Array Value)(c:Nat):Obj:={cls:=.type "list",dict:=none,data:=.seq xs c,slots:=#[]}
theorem zT(W:Walks prog w A.in1 I fp wr n P St){S:Addr}(Kf:S∉wr){s:Shared}{vb:Value}{c:Nat}(hst:St n s.heap)(hS:s.heap.get? S=some (oR #[vb,vb] c))
  (hR:∀h' tk,(∀b o,b∉wr->b≠S->s.heap.get? b=some o->h'.get? b=some o)->R (.ok (.ret vb)) {s with heap:=h',toks:=tk}):
  codeAny (model prog w) A (.builtin "max.loop" ⟨[.ref I,.none,.ref S],Jv d⟩) R s:=by
 refine x5 F.entry_max_loop ?_;rw[k8 u3 _]
 show wpAny _ A.in1 (seqItems? (.ref S) >>= _) _ _ s;refine A6 (y3 hS rfl ?_)
 show wpAny _ A.in1 (tryCatch (pyNext (.ref I)) _ >>= _) _ _ s;refine A6 (y6 (W.done s _ _ hst λ h' tk hk=>?_))
 have F7:=hk S _ Kf hS;show wpAny _ A.in1 (updateSeq S (λ _=>#[]) >>= _) _ _ _;refine A6 (wpAny_updateSeq F7 rfl (A6 (wpAny_letGo (A7 ?_))))
 exact hR _ tk λ b o xO EK e=>(j3 _ _ (B2 EK)).trans (hk b o xO e)
theorem wN(W:Walks prog w A.in1 I fp wr n P St)(bt:Nat->Nat->Bool)(Jh:CmpOf prog w A.in1 .Gt P bt)(S:Addr)(Kg:S∉fp):
  ∀(k j:Nat) (s:Shared) (vb:Value) (c:Nat),n - (j+1)=k->j+1<=n->St (j+1) s.heap->P (argBest bt j) vb->s.heap.get? S=some (oR #[vb,vb] c)->
  (∀v h' tk,P (argBest bt (n - 1)) v->(∀b o,b∉wr->b≠S->s.heap.get? b=some o->h'.get? b=some o)->R (.ok (.ret v)) {s with heap:=h',toks:=tk})->
  codeAny (model prog w) A (.builtin "max.loop" ⟨[.ref I,.none,.ref S],Jv d⟩) R s:=by
 have Kf:S∉wr:=λ h=>Kg (W.sub _ h)
 intro k
 induction k with
 |zero=>
  intro j s vb c hk hj hst NO hS hR
  have e:j+1=n:=by omega
  exact zT W Kf (e▸hst) hS λ h' tk q=>hR vb h' tk (by rw[<- e];exact NO) q
 |succ k ih=>
  intro j s vb c hk hj hst NO hS hR
  have fX:j+1 < n:=by omega
  refine x5 F.entry_max_loop ?_;rw[k8 u3 _]
  show wpAny _ A.in1 (seqItems? (.ref S) >>= _) _ _ s;refine A6 (y3 hS rfl ?_)
  show wpAny _ A.in1 (tryCatch (pyNext (.ref I)) _ >>= _) _ _ s;refine A6 (y6 (W.item (j+1) s _ _ fX hst λ v h' tk hP Ew vg=>?_))
  have F7:=vg S _ Kf hS;show wpAny _ A.in1 (tryCatch (holding [v,v] (richCompare .Gt v vb >>= _)) _ >>= _) _ _ _
  refine A6 (y6 (y7 (A6 (Jh (j+1) (argBest bt j) v vb _ _ _ hP NO (A6 (y7 (o8 (A6 (wpAny_letGo (A7 ?_))))))))));cases hb:bt (j+1) (argBest bt j)with
  |true=>
   simp only[if_true];refine A6 (wpAny_updateSeq F7 rfl (A6 (wpAny_letGo ?_)));rw[nQ]
   refine A7 ⟨z6 u3 _,ih (j+1) _ v _ (by omega) fX (W.frame _ _ _ Ew λ b PR o e=>(j3 _ _ (λ h:S=b=>Kg (by rw[h];exact PR))).trans e) (by simp only[argBest,hb,if_true];exact hP) (j4 _ F7 rfl) λ v' h2 t2 F8 Mh=>?_⟩
   exact hR v' h2 t2 F8 λ b o xO EK e=>Mh b o xO EK ((j3 _ _ (B2 EK)).trans (vg b o xO e))
  |false=>
   simp only[m5,B0];refine A6 (wpAny_letGo ?_);rw[nQ]
   exact A7 ⟨z6 u3 _,ih (j+1) _ vb c (by omega) fX Ew (by simp only[argBest,hb,m5,B0];exact NO) F7 λ v' h2 t2 F8 Mh=>hR v' h2 t2 F8 λ b o xO EK e=>Mh b o xO EK (vg b o xO e)⟩
theorem sV(W:Walks prog w A.in1 I fp wr n P St)(bt:Nat->Nat->Bool)(Jh:CmpOf prog w A.in1 .Gt P bt)(S:Addr)(Kg:S∉fp){s:Shared}{c:Nat}(hst:St 0 s.heap)(hS:s.heap.get? S=some (oR #[] c))
  (h0:n=0->∀h' tk,(∀b o,b∉wr->b≠S->s.heap.get? b=some o->h'.get? b=some o)->R (.ok (.ret d)) {s with heap:=h',toks:=tk})
  (hR:0 < n->∀v h' tk,P (argBest bt (n - 1)) v->(∀b o,b∉wr->b≠S->s.heap.get? b=some o->h'.get? b=some o)->R (.ok (.ret v)) {s with heap:=h',toks:=tk}):
  codeAny (model prog w) A (.builtin "max.loop" ⟨[.ref I,.none,.ref S],Jv d⟩) R s:=by
 have Kf:S∉wr:=λ h=>Kg (W.sub _ h)
 refine x5 F.entry_max_loop ?_;rw[k8 u3 _]
 show wpAny _ A.in1 (seqItems? (.ref S) >>= _) _ _ s;refine A6 (y3 hS rfl ?_)
 show wpAny _ A.in1 (tryCatch (pyNext (.ref I)) _ >>= _) _ _ s;by_cases hn:0 < n
 ·refine A6 (y6 (W.item 0 s _ _ hn hst λ v h' tk hP Ew vg=>?_))
  have F7:=vg S _ Kf hS;show wpAny _ A.in1 (updateSeq S (λ _=>#[v,v]) >>= _) _ _ _;refine A6 (wpAny_updateSeq F7 rfl ?_);rw[nQ]
  refine A7 ⟨z6 u3 _,wN W bt Jh S Kg _ 0 _ v _ rfl hn (W.frame _ _ _ Ew λ b PR o e=>(j3 _ _ (λ h:S=b=>Kg (by rw[h];exact PR))).trans e) hP (j4 _ F7 rfl) λ v' h2 t2 F8 Mh=>?_⟩
  exact hR hn v' h2 t2 F8 λ b o xO EK e=>Mh b o xO EK ((j3 _ _ (B2 EK)).trans (vg b o xO e))
 ·have e:n=0:=by omega
  refine A6 (y6 (W.done s _ _ (e▸hst) λ h' tk hk=>?_))
  exact A6 (wpAny_rule (A7 (h0 e h' tk λ b o xO _ q=>hk b o xO q)))
end
end L5
namespace L5
open PySem PyProof.Rows
theorem xD(d:Value):Builtin.Builtins.bindParams "max" ["key","default"] 0 ⟨[],Jv d⟩=pure [none,some d]:=by kernel_rfl
section
variable {prog:Program}{w:World}{A:Around}{E:Value->Shared->Prop}{s:Shared}
theorem oN{id:String}{b:Builtin}{args:List Value}{kw:List (Str×Value)}{Q:Value->Shared->Prop}(hk:builtinKind id=none)(hp:plainId id=true)(hb:entryFor table id=some b)(ha:argsOk id ⟨args,kw⟩)
  (hc:wpAny (model prog w) A.in1 (b ⟨args,kw⟩) (λ fin s'=>match fin with
   | .done f=>(match(Except.ok f:Result)with| .ok (.ret v)=>Q v s'| .ok _=>False| .error e=>E e s')
   | .again c'=>c'.quiet=true/\codeAny (model prog w) A c' (λ r s'=>match r with| .ok (.ret v)=>Q v s'| .ok _=>False| .error e=>E e s') s') E s):wpAny (model prog w) A (call (.builtin id) args kw) Q E s:=by
 refine wpAny_call (codeAny_call_builtin hp hb ?_);simp only[checkBuiltinCall,hk];cases Pp:Manifest.signature? id with
 |none=>exact A7 hc
 |some sig=>have Rt:Bind.checkArgs id sig ⟨args,kw⟩=pure ():=by{simpa only[argsOk,Pp]using ha};simp only[Rt];exact A7 hc
theorem xu(hA:A.in1.handled=none){l:Addr}{ah:List Value}{ns:List Int}{d:Value}{Q:Value->Shared->Prop}(hl:s.heap.IsList l ah.toArray)(hi:IntsAre ah ns)
  (h0:ns=[]->∀h' tk,(∀b o,s.heap.get? b=some o->h'.get? b=some o)->Q d {s with heap:=h',toks:=tk})
  (hR:∀m t h' tk,m∈ns->(∀x∈ns,x<=m)->(∀b o,s.heap.get? b=some o->h'.get? b=some o)->Q (.int m t) {s with heap:=h',toks:=tk}):
  wpAny (model prog w) A (call (.builtin "max") [.ref l] (Jv d)) Q E s:=by
 have fX:l < s.heap.objs.size:=by obtain⟨o,e,_⟩:=hl;exact z8 e
 have eR:l≠s.heap.objs.size:=z7 fX
 have hlen:ah.length=ns.length:=hi.length
 refine oN F.kind_max F.plain_max F.entry_max (xF _ _) ?_
 show wpAny _ A.in1 (Builtin.Builtins.bindParams "max" ["key","default"] 0 ⟨[],Jv d⟩ >>= _) _ _ s
 refine A6 (wpAny_of_eq (xD d) (A6 (A7 ?_)))
 refine A6 (o9 hl (A6 (n9 ?_)))
 rw[nQ]
 have LQ:∀i v,ah.toArray[i]?=some v->∃t,v=Value.int (ns.getD i 0) t:=λ i v e=>by
  have e:ah[i]?=some v:=by simpa using e
  have h1:i < ns.length:=by rw[<- hlen];exact(g9.mp e).1
  obtain⟨t,e2⟩:=L2.jk hi h1
  rw[e]at e2
  cases e2
  exact⟨t,by simp[c7,h1]⟩
 have sz:(s.heap.push {cls:=.type "list_iterator",data:=.fields #[.ref l,.int 0 0]}).objs.size=s.heap.objs.size+1:=y4 ..
 have W:=Walks.list (prog:=prog) (w:=w) hA s.heap.objs.size l eR ah.toArray
 refine A7 ⟨z6 u3 _,sV (d:=d) W (λ i j=>decide (ns.getD i 0 > ns.getD j 0)) (CmpOf.ints_gt _ LQ) _ ?_ ?_ (l6 _ rfl) ?_ ?_⟩
 ·show(s.heap.push {cls:=.type "list_iterator",data:=.fields #[.ref l,.int 0 0]}).objs.size∉_
  rw[sz]
  simp only[z5,not_mem_nil,or_false,not_or]
  exact⟨Nat.succ_ne_self _,Nat.ne_of_gt (Nat.lt_succ_of_lt fX)⟩
 ·refine W.frame _ _ _ ⟨⟨_,l6 _ rfl,rfl,rfl⟩,hl.at λ o e=>j2 _ e⟩ λ b _ o e=>j2 _ e
 ·intro hn h' tk hk
  have e:ns=[]:=j0.mp (by rw[<- hlen];simpa using hn)
  refine h0 e h' tk λ b o q=>hk b o ?_ ?_ (j2 _ (j2 _ q))
  ·simpa using z7 (z8 q)
  ·have:=z8 q
   show b≠(s.heap.push _).objs.size
   rw[sz]
   exact z7 (Nat.lt_succ_of_lt (z8 q))
 ·intro hn v h' tk hP hk
  have hn:0 < ah.length:=by simpa using hn
  obtain⟨b1,b2⟩:=argBest_gt (λ i=>ns.getD i 0) (ah.length - 1)
  obtain⟨t,rfl⟩:=LQ _ _ hP
  have hm:argBest (λ i j=>decide (ns.getD i 0 > ns.getD j 0)) (ah.toArray.size - 1) < ns.length:=by simp only[p7];omega
  refine hR _ t h' tk ?_ ?_ λ b o q=>hk b o ?_ ?_ (j2 _ (j2 _ q))
  ·rw[c7,i5 hm]
   exact u6 _
  ·intro x hx
   obtain⟨j,hj,rfl⟩:=mem_iff_getElem.mp hx
   have:=b2 j (by omega)
   simp only[p7]
   simpa[c7,hj]using this
  ·simpa using z7 (z8 q)
  ·have:=z8 q
   show b≠(s.heap.push _).objs.size
   rw[sz]
   exact z7 (Nat.lt_succ_of_lt (z8 q))
end
end L5
namespace L2
open PySem PySem.Spec PyProof.Rows L5
def il(d:Int):List Int->Int
 |[]=>d
 |n::ns=>ns.foldl max n
theorem foldl_max:∀(ns:List Int) (n:Int),n<=ns.foldl max n/\(∀x∈ns,x<=ns.foldl max n)/\(ns.foldl max n=n\/ns.foldl max n∈ns)
 |[],n=>⟨Int.le_refl _,(λ x h=>by cases h),.inl rfl⟩
 |m::ns,n=>by
  obtain⟨h1,h2,h3⟩:=foldl_max ns (max n m)
  rw[foldl_cons]
  refine⟨by omega,λ x hx=>?_,?_⟩
  ·rcases z5.mp hx with rfl|hx
   ·omega
   ·exact h2 x hx
  ·rcases h3 with h3|h3
   ·by_cases e:n<=m
    ·exact .inr (by rw[h3];simp[Int.max_eq_right e])
    ·exact .inl (by rw[h3];omega)
   ·exact .inr (k4 _ h3)
theorem D8{d:Int}{ns:List Int}{m:Int}(h1:m∈ns)(h2:∀x∈ns,x<=m):il d ns=m:=by
 cases ns with
 |nil=>cases h1
 |cons n ns=>
  obtain⟨g1,g2,g3⟩:=foldl_max ns n
  show ns.foldl max n=m
  refine Int.le_antisymm ?_ ?_
  ·rcases g3 with g3|g3
   ·rw[g3];exact h2 n (l7 ..)
   ·exact h2 _ (k4 _ g3)
  ·rcases z5.mp h1 with rfl|h1
   ·exact g1
   ·exact g2 m h1
section
variable {X:Cx}{e c:Expr}{te tc:TE}{p pos kp:Pos}
theorem DB(hc:X.calm=true)(hg:Gl X "max")(hm:X.mg "max"=none)(he:PE X e te)(hd:PE X c tc)
  (hs:starEach [e] X.env=[(false,eval e X.env)]:=by rfl) (oo:backTo pos (starEach [e] X.env)=(false,eval e X.env)::backTo pos (starEach [] X.env):=by rfl) (hs2:(backTo pos (starEach [e] X.env)).any (·.1)=false:=by rfl):PE X (.Call (.Name "max" p) [e] [⟨some "default",c,kp⟩] pos) (λ σ H Q=>te σ H λ x H1=>tc σ H1 λ y H2=>∃(l:Addr) (ns:List Int) (d:Int),x=.ref l/\y=.int d/\cS X.K H2 l (ns.map V.int)/\Q (.int (il d ns)) H2):=by
 intro pins s σ H Q I h
 refine n0 (eK I hg hm PyProof.Rows.boot_max ?_ (by decide) (by decide))
 refine PyProof.Rows.callWith_kw (cg ((aK he cu (by rw[hs];rfl)) pos pins s σ H (λ vs H1=>match vs with|[x]=>tc σ H1 (λ y H2=>∃(l:Addr) (ns:List Int) (d:Int),x=.ref l/\y=.int d/\cS X.K H2 l (ns.map V.int)/\Q (.int (il d ns)) H2)|_=>False) I h) λ us s1 ⟨vs,H1,I1,r1,q1⟩=>?_) oo hs2
 cases vs with
 |nil=>exact q1.elim
 |cons x vs=>
  cases vs with
  |cons _ _=>exact q1.elim
  |nil=>
  refine cg ((Dv hd HX) pos pins s1 σ H1 (λ vs H2=>match vs with|[y]=>∃(l:Addr) (ns:List Int) (d:Int),x=.ref l/\y=.int d/\cS X.K H2 l (ns.map V.int)/\Q (.int (il d ns)) H2|_=>False) I1 q1) λ ws s2 ⟨zs,H2,I2,rz,e2⟩=>?_
  cases zs with
  |nil=>exact e2.elim
  |cons y zs=>
   cases zs with
   |cons _ _=>exact e2.elim
   |nil=>
   obtain⟨l,ns,d,rfl,rfl,hl,q⟩:=e2
   obtain⟨u,rfl,ru⟩:=vals1 r1
   obtain⟨v,rfl,t,rfl⟩:=vals1 rz
   cases(show u=Value.ref l from ru)
   obtain⟨ah,rv,pl,hz⟩:=I2.list hl
   refine xu (I2.ok.hd hc) pl.isList (intsAre_of rv) (λ e h' tk hk=>?_) (λ m t h' tk m1 m2 hk=>?_)
   ·subst e
    exact⟨.int d,H2,I2.kept (t':=tk) hk,⟨_,rfl⟩,q⟩
   ·rw[D8 m1 m2]at q
    exact⟨.int m,H2,I2.kept (t':=tk) hk,⟨_,rfl⟩,q⟩
end
end L2
namespace L3
open PySem PySem.Spec L2 L5 PyProof.Rows
def yC(k:Int)(wi:i')(g:eV)(tt:dh)(te:bV)(n:Nat)(fr:List Nat):bV:=λ δ M Q=>eG wi g tt te n fr δ M λ ds M'=>∃ns:List Int,ds=ns.map D.int/\Q (.int (il k ns)) M'
section
variable {X:Cx}{scope:Scope}{tgs:List Str}{fr:List Nat}{tg elt iter e:Expr}{ifs:List Expr}{p pos kp aZ Jb:Pos}{wi:i'}{g:eV}{tt:dh}{te:bV}{k:Int}{j:_}
theorem HL(hc:X.calm=true)(hg:Gl X "max")(hm:X.mg "max"=none)(C:gw X scope tgs fr tg iter ifs elt wi g tt te)
  (hs:∀x,foldedSetIterable iter X.env x=pure x:=by intro _;rfl)
  (Ez:starEach [.ListComp elt [⟨tg,iter,ifs,0⟩] scope aZ] X.env=[(false,eval (.ListComp elt [⟨tg,iter,ifs,0⟩] scope aZ) X.env)]:=by rfl) (oo:backTo pos (starEach [.ListComp elt [⟨tg,iter,ifs,0⟩] scope aZ] X.env)=(false,eval (.ListComp elt [⟨tg,iter,ifs,0⟩] scope aZ) X.env)::backTo pos (starEach [] X.env):=by rfl)
  (hs2:(backTo pos (starEach [.ListComp elt [⟨tg,iter,ifs,0⟩] scope aZ] X.env)).any (·.1)=false:=by rfl):
  QE X (.Call (.Name "max" p) [.ListComp elt [⟨tg,iter,ifs,0⟩] scope aZ] [⟨some "default",.Constant (.int k) j Jb,kp⟩] pos) (yC k wi g tt te tgs.length fr):=by
 obtain⟨B,xa,hE,hi,⟨gv,EG,gk,gl⟩,ht,he⟩:=C
 refine bJ (DB hc hg hm (gJ (tt:=ud X.K tt) (te:=up X.K te) B xa hE hi EG gk ht he hs) zy Ez oo hs2) ?_
 rintro σ H Q ⟨δ,M,Q2,hs,hm,q,kk⟩
 show jD (JT X.K wi) gv (ud X.K tt) (up X.K te) tgs.length fr σ H _
 refine dX gl hs hm q λ acc xs H' M' p oy cW t' hz hp q'=>?_
 obtain⟨ns,rfl,q'⟩:=q'
 rw[ck oy]
 exact⟨p,ns,k,rfl,rfl,cS.of aI,kk _ _ (.int _) M' (aq.mpr rfl) (cW.laid hp) (t'.trans (ai.laid hp)) q'⟩
end
section
variable {δ:cD}{M:Mem}{Q:bq}{wi:i'}{g:eV}{tt:dh}{te:bV}{n:Nat}{fr:List Nat}{k:Int}
theorem CH(h:eG wi g tt te n fr δ M λ ds M'=>∃ns:List Int,ds=ns.map D.int/\Q (.int (il k ns)) M'):yC k wi g tt te n fr δ M Q:=h
end
end L3
namespace L4
open PySem PySem.Spec L2 L3 L5
section
variable {X:Cx}{scope:Scope}{tgs:List Str}{fr:List Nat}{tg elt iter e:Expr}{ifs:List Expr}{p pos kp aZ Jb:Pos}{wi:i'}{g:eV}{tt:dh}{te:bV}{k:Int}{j:_}
theorem Gx(hc:X.calm=true)(hg:Gl X "max")(hm:X.mg "max"=none)(C:dG X scope tgs fr tg iter ifs elt wi g tt te)
  (hs:∀x,foldedSetIterable iter X.env x=pure x:=by intro _;rfl)
  (Ez:starEach [.ListComp elt [⟨tg,iter,ifs,0⟩] scope aZ] X.env=[(false,eval (.ListComp elt [⟨tg,iter,ifs,0⟩] scope aZ) X.env)]:=by rfl) (oo:backTo pos (starEach [.ListComp elt [⟨tg,iter,ifs,0⟩] scope aZ] X.env)=(false,eval (.ListComp elt [⟨tg,iter,ifs,0⟩] scope aZ) X.env)::backTo pos (starEach [] X.env):=by rfl)
  (hs2:(backTo pos (starEach [.ListComp elt [⟨tg,iter,ifs,0⟩] scope aZ] X.env)).any (·.1)=false:=by rfl):
  WE X (.Call (.Name "max" p) [.ListComp elt [⟨tg,iter,ifs,0⟩] scope aZ] [⟨some "default",.Constant (.int k) j Jb,kp⟩] pos) (yC k wi g tt te tgs.length fr):=⟨HL hc hg hm C.h hs Ez oo hs2⟩
end
end L4
namespace L3
open PySem PySem.Spec L2 L5 PyProof.Rows
def Gd(R:Src->Mem->Prop)(ds:List D)(M1:Mem):Prop:=match ds with
 |[.tup xs]=>R (.fix (dE xs)) M1
 |[x]=>(∃zs,cG M1 x=some zs)/\R (.fn (qK x)) M1
 |_=>False
theorem yS{ta:eW}{δ:cD}{M:Mem}{R:Src->Mem->Prop}(h:ta δ M (Gd R)):uX ta δ M R:=h
theorem yT{xs:List D}{M:Mem}{R:Src->Mem->Prop}(h:R (.fix (dE xs)) M):Gd R [.tup xs] M:=h
section
variable {g:eV}{tt:dh}{te:bV}{δ δc:cD}{M1:Mem}{Qe:List D->Mem->Prop}
abbrev Qk{α:Type}(enc:α->D)(p:α×Nat):D:=.tup [.int (p.2:Int),enc p.1]
theorem E7{α:Type}{xs:List α}{enc:α->D}(out:α×Nat->D)(hn:xs.length<=10000)
  (hs:∀(i:Nat) (x:α) (N:D->Mem->Prop),xs[i]?=some x->N (out (x,i)) M1->g (Qk enc (x,i)) δc M1 λ δ2 M2=>te δ2 M2 N)
  (hd:Qe (xs.zipIdx.map out) M1):
  ∃(B:Nat) (W:Nat->List D->Mem->Prop),W 0 [] M1/\∀i acc M,W i acc M->i<=B/\acc.length<=sizeLine/\match items (.fix (dE (xs.map enc))) M with
   |none=>False
   |some ds=>match ds[i]? with
    |none=>i=ds.length/\Qe acc M
    |some d=>g d δc M λ δ2 M2=>pQ δ2 M2 λ b M3=>if b=true then te δ2 M3 λ y M4=>W (i+1) (acc++[y]) M4 else W (i+1) acc M3:=by
 rw[gY]
 refine cC (xs:=xs.zipIdx) (enc:=Qk enc) out (by rw[length_zipIdx];exact hn) (λ i x N hx hN=>?_) hd
 rw[getElem?_zipIdx]at hx
 cases e:xs[i]? with
 |none=>rw[e]at hx;cases hx
 |some y=>
  rw[e]at hx
  have:(y,0+i)=x:=w9 hx
  rw[Nat.zero_add]at this
  subst this
  exact hs i y N e hN
end
end L3
namespace L2
open PySem PySem.Spec PyProof.Rows
section
variable {X:Cx}
def OE(K:PySem.W.Frag)(x y:V)(H:Hp)(Q:Bool->Prop):Prop:=(∃a o,y=.ref a/\lG H a x o/\Q o.isSome)\/∃a b kvs k,y=.ref a/\x=.ref b/\lF K H a kvs/\k.dep<=5/\fW K H k (.ref b)/\Q (gB kvs k).isSome
theorem DK(neg:Bool)(hu:X.A.units+64 < cLine):eo X (compareOp (if neg then .NotIn else .In)) (λ x y H Q=>OE X.K x y H λ b=>Q (.bl (if neg then !b else b)) H):=by
 intro pins s σ H x y v u Q I rx ry h
 rcases h with⟨a,o,rfl,g,q⟩|⟨a,b,kvs,k,rfl,rfl,d,hk,vf,q⟩
 ·cases(show u=Value.ref a from ry)
  cases neg with
  |false=>exact Qo (by omega) I g rx λ s3 I3=>⟨.bl o.isSome,H,I3,rfl,q⟩
  |true=>exact EY (by omega) I g rx λ s3 I3=>⟨.bl (!o.isSome),H,I3,rfl,q⟩
 ·cases(show u=Value.ref a from ry)
  cases(show v=Value.ref b from rx)
  cases neg with
  |false=>exact Of hu I d hk vf λ s3 I3=>⟨.bl (gB kvs k).isSome,H,I3,rfl,q⟩
  |true=>exact Ca hu I d hk vf λ s3 I3=>⟨.bl (!(gB kvs k).isSome),H,I3,rfl,q⟩
def K9(K:PySem.W.Frag)(x y:V)(H:Hp)(Q:VK):Prop:=(∃a v,x=.ref a/\lG H a y (some v)/\Q v H)\/∃a b kvs k v,x=.ref a/\y=.ref b/\lF K H a kvs/\k.dep<=5/\fW K H k (.ref b)/\gB kvs k=some v/\Q v H
theorem IZ(hu:X.A.units+64 < cLine):tZ X (λ x y H Q=>K9 X.K x y H Q):=by
 intro value slice pins s σ H x y v u Q I rx ry h hs
 rcases h with⟨a,w,rfl,g,q⟩|⟨a,b,kvs,k,w,rfl,rfl,d,hk,vf,g,q⟩
 ·cases(show v=Value.ref a from rx)
  refine tail_any (ops:=[.ref a,u]) (qO I g) PySem.F.slot_dict_getitem.lookup ?_ hs
  exact xp (by omega) I g ry λ w' s3 I3 sk=>⟨w,H,I3,sk,q⟩
 ·cases(show v=Value.ref a from rx)
  cases(show u=Value.ref b from ry)
  obtain⟨_,_,xs,_,dd⟩:=d.of I
  refine tail_any (ops:=[.ref a,.ref b]) dd.typeIs PySem.F.slot_dict_getitem.lookup ?_ hs
  exact vX hu I d hk vf g λ w' s3 I3 sk=>⟨w,H,I3,sk,q⟩
def K8(K:PySem.W.Frag):xG:=λ o i v H Q=>(∃a H',o=.ref a/\BJ H a i v H'/\Q H')\/∃a b kvs k,o=.ref a/\i=.ref b/\lF K H a kvs/\k.dep<=5/\fW K H k (.ref b)/\kvs.length < sizeLine/\Q (upd H a (xl a (lb kvs k b v)))
theorem Cm(hu:X.A.units+64 < cLine):oX X (K8 X.K):=by
 intro pins s σ H o i v ov iv u Q I ro ri rv h
 rcases h with⟨a,H',rfl,g,q⟩|⟨a,b,kvs,k,rfl,rfl,d,hk,vf,hl,q⟩
 ·cases(show ov=Value.ref a from ro)
  exact xm (by omega) I g ri rv λ s3 I3=>⟨H',I3,q⟩
 ·cases(show ov=Value.ref a from ro)
  cases(show iv=Value.ref b from ri)
  exact vW hu I d hk vf hl rv λ s3 I3=>⟨_,I3,q⟩
theorem tU:b_ X (.builtin "len") (λ xs H Q=>∃a,xs=[.ref a]/\((∃kvs,H a=some (.dK kvs)/\Q (.int kvs.length) H)\/∃kvs,H a=some (xl a kvs)/\Q (.int kvs.length) H)):=by
 intro pins s σ H xs us Q I r h
 obtain⟨a,rfl,h⟩:=h
 obtain⟨u,rfl,ru⟩:=vals1 r
 cases(show u=Value.ref a from ru)
 rcases h with⟨kvs,e,q⟩|⟨kvs,e,q⟩
 ·exact ME I (.inl e) λ t s' I'=>⟨.int kvs.length,H,I',⟨t,rfl⟩,q⟩
 ·exact Kr I e λ t s' I'=>⟨.int kvs.length,H,I',⟨t,rfl⟩,q⟩
end
end L2
namespace L3
open PySem PySem.Spec L2 L5 PyProof.Rows
noncomputable instance Uj:DecidableEq D:=λ a b=>Classical.propDecidable (a=b)
noncomputable def fw (kvs:List (D×D))(k:D):Option D:=(kvs.find? λ p=>decide (p.1=k)).map (·.2)
noncomputable def putD (kvs:List (D×D))(k v:D):List (D×D):=if(fw kvs k).isSome=true then kvs.map (λ p=>if p.1=k then(p.1,v)else p)else kvs++[(k,v)]
def rF(t:Bool)(x:D):Prop:=match t with
 |false=>∃k:Key,x=iu k
 |true=>∃ks:List IK,x=mr (.t ks)/\(IK.t ks).dep<=5
def xJ(K:PySem.W.Frag)(H:Hp):Option D->Option V->Prop
 |none,none=>True
 |some d,some v=>Dat K H d v
 |_,_=>False
section
variable {K:PySem.W.Frag}{H:Hp}
theorem Fs.look {kvs:List (D×D)}{xs:List (Key×V)}(h:Fs K H kvs xs)(k:Key):xJ K H (fw kvs (iu k)) (gg xs k):=by
 induction h with
 |nil=>exact True.intro
 |@cons p q ps qs BN t ih=>
  obtain⟨h1,h2⟩:=BN
  unfold fw gg at ih ⊢
  by_cases e:q.1=k
  ·have e':p.1=iu k:=by rw[h1,e]
   simp only[v7,y2 e,y2 e',Option.map_some]
   exact h2
  ·have e':¬p.1=iu k:=λ z=>e (qq (h1.symm.trans z))
   simp only[v7,v8 e,v8 e']
   exact ih
theorem BI.look {kvs:List (D×D)}{xs:List d_}(h:BI K H kvs xs)(k:IK):xJ K H (fw kvs (mr k)) (gB xs k):=by
 induction h with
 |nil=>exact True.intro
 |@cons p q ps qs BN t ih=>
  obtain⟨h1,_,_,h2⟩:=BN
  unfold fw gB at ih ⊢
  by_cases e:q.1=k
  ·have e':p.1=mr k:=by rw[h1,e]
   simp only[v7,y2 e,y2 e',Option.map_some]
   exact h2
  ·have e':¬p.1=mr k:=λ z=>e (oh (h1.symm.trans z))
   simp only[v7,v8 e,v8 e']
   exact ih
theorem xJ.isSome {o:Option D}{u:Option V}(h:xJ K H o u):o.isSome=u.isSome:=by
 cases o with
 |none=>cases u with
  |none=>rfl
  |some _=>exact(show False from h).elim
 |some _=>cases u with
  |none=>exact(show False from h).elim
  |some _=>rfl
theorem xJ.some_of {d:D}{u:Option V}(h:xJ K H (some d) u):∃v,u=some v/\Dat K H d v:=by
 cases u with
 |none=>exact(show False from h).elim
 |some v=>exact⟨v,rfl,h⟩
theorem BI.keys {a:Addr}{kvs:List (D×D)}{xs:List d_}(h:BI K H kvs xs)(e:H a=some (xl a xs)):lF K H a xs:=by
 refine⟨e,?_⟩
 clear e
 induction h with
 |nil=>intro p hp;cases hp
 |@cons p q ps qs BN t ih=>
  intro x hx
  rcases z5.mp hx with rfl|hx
  ·obtain⟨h1,h2,h3,_⟩:=BN
   rw[h1]at h3
   exact⟨h2,kz _ h3⟩
  ·exact ih x hx
theorem zg(xs:List (Key×V))(k:Key)(v:V):putK xs k v=if(gg xs k).isSome=true then xs.map (λ kv=>if kv.1=k then(kv.1,v)else kv)else xs++[(k,v)]:=by
 unfold putK
 rw[jy]
theorem Fs.put {kvs:List (D×D)}{xs:List (Key×V)}(h:Fs K H kvs xs)(k:Key){d:D}{v:V}(hd:Dat K H d v):Fs K H (putD kvs (iu k) d) (putK xs k v):=by
 rw[zg]
 unfold putD
 rw[(h.look k).isSome]
 by_cases e:(gg xs k).isSome=true
 ·rw[B3 e,B3 e]
  clear e
  induction h with
  |nil=>exact .nil
  |@cons p q ps qs BN t ih=>
   rw[z4,z4]
   refine .cons ?_ ih
   obtain⟨h1,h2⟩:=BN
   by_cases e:q.1=k
   ·rw[B3 e,B3 (by rw[h1,e])];exact⟨h1,hd⟩
   ·rw[B4 e,B4 (λ z=>e (qq (h1.symm.trans z)))];exact⟨h1,h2⟩
 ·rw[B4 e,B4 e]
  exact Paired.snoc h ⟨rfl,hd⟩
theorem BI.put {kvs:List (D×D)}{xs:List d_}(h:BI K H kvs xs)(k:IK){b:Addr}{d:D}{v:V}(hk:k.dep<=5)(hb:Dat K H (mr k) (.ref b))(hd:Dat K H d v):BI K H (putD kvs (mr k) d) (lb xs k b v):=by
 unfold putD lb
 rw[(h.look k).isSome]
 by_cases e:(gB xs k).isSome=true
 ·rw[B3 e,B3 e]
  clear e
  induction h with
  |nil=>exact .nil
  |@cons p q ps qs BN t ih=>
   rw[z4,z4]
   refine .cons ?_ ih
   obtain⟨h1,h2,h3,h4⟩:=BN
   by_cases e:q.1=k
   ·rw[B3 e,B3 (by rw[h1,e])];exact⟨h1,h2,h3,hd⟩
   ·rw[B4 e,B4 (λ z=>e (oh (h1.symm.trans z)))];exact⟨h1,h2,h3,h4⟩
 ·rw[B4 e,B4 e]
  exact Paired.snoc h ⟨rfl,hk,hb,hd⟩
end
section
variable {X:Cx}
def ML(neg:Bool):eX:=λ x y M Q=>∃a t kvs,y=.ref a/\M a=some (.eL t kvs)/\rF t x/\Q (.bl (if neg then !(fw kvs x).isSome else(fw kvs x).isSome)) M
theorem ng{K:PySem.W.Frag}{H:Hp}{ks:List IK}{v:V}(h:Dat K H (mr (.t ks)) v):∃b,v=.ref b:=by
 unfold mr at h
 obtain⟨p,xs,rfl,_⟩:=aE.mp h
 exact⟨p,rfl⟩
theorem IB(neg:Bool)(hu:X.A.units+64 < cLine):eY X (compareOp (if neg then .NotIn else .In)) (ML neg):=⟨_,DK neg hu,λ x y d e H M Q2 Q hd he hm q k=>by
 obtain⟨a,t,kvs,rfl,hM,ok,q⟩:=q
 cases(aA.mp he)
 have hr:=hm a _ hM
 cases t with
 |false=>
  obtain⟨xs,hx,rel⟩:=hr
  obtain⟨kk,rfl⟩:=ok
  rw[oC hd]
  refine .inl ⟨a,_,rfl,lG.k hx,k _ H _ M (aN.mpr rfl) hm (ai.refl H) ?_⟩
  rw[<- (rel.look kk).isSome]
  exact q
 |true=>
  obtain⟨xs,hx,rel⟩:=hr
  obtain⟨ks,rfl,kg⟩:=ok
  obtain⟨b,rfl⟩:=ng hd
  refine .inr ⟨a,b,xs,_,rfl,rfl,rel.keys hx,kg,kz _ hd,k _ H _ M (aN.mpr rfl) hm (ai.refl H) ?_⟩
  rw[<- (rel.look _).isSome]
  exact q⟩
def MJ:eX:=λ x y M Q=>Bj x y M Q\/ML false x y M Q
theorem FP(hu:X.A.units+64 < cLine):eY X (compareOp .In) MJ:=(zM hu).or (IB false hu)
def MM:eX:=λ x y M Q=>∃a t kvs d,x=.ref a/\M a=some (.eL t kvs)/\rF t y/\fw kvs y=some d/\Q d M
def E3:eX:=λ x y M Q=>Jy x y M Q\/MM x y M Q
theorem Ft(hu:X.A.units+64 < cLine):M9 X E3:=by
 obtain⟨r,h1,h2⟩:=(L3.bh:M9 X Jy)
 refine⟨_,h1.or (IZ hu),λ x y d e H M Q2 Q hd he hm q k=>?_⟩
 rcases q with q|⟨a,t,kvs,w,rfl,hM,ok,hl,q⟩
 ·exact .inl (h2 x y d e H M Q2 Q hd he hm q k)
 ·cases(aA.mp hd)
  have hr:=hm a _ hM
  cases t with
  |false=>
   obtain⟨xs,hx,rel⟩:=hr
   obtain⟨kk,rfl⟩:=ok
   have hv:=rel.look kk
   rw[hl]at hv
   obtain⟨v,e1,e2⟩:=hv.some_of
   rw[oC he]
   exact .inr (.inl ⟨a,v,rfl,by rw[<- e1];exact lG.k hx,k _ H _ M e2 hm (ai.refl H) q⟩)
  |true=>
   obtain⟨xs,hx,rel⟩:=hr
   obtain⟨ks,rfl,kg⟩:=ok
   have hv:=rel.look (.t ks)
   rw[hl]at hv
   obtain⟨v,e1,e2⟩:=hv.some_of
   obtain⟨b,rfl⟩:=ng he
   exact .inr (.inr ⟨a,b,xs,_,v,rfl,rfl,rel.keys hx,kg,kz _ he,e1,k _ H _ M e2 hm (ai.refl H) q⟩)
def MK:hV:=λ o i v M N=>∃a t kvs,o=.ref a/\M a=some (.eL t kvs)/\rF t i/\kvs.length < sizeLine/\N (aw M a (.eL t (putD kvs i v)))
def vq:hV:=λ o i v M N=>EZ o i v M N\/MK o i v M N
theorem oX.or {t u:xG}(h:oX X t)(g:oX X u):oX X (λ o i v H Q=>t o i v H Q\/u o i v H Q):=by
 intro pins s σ H o i v ov iv uu Q I ro ri rv q
 rcases q with q|q
 ·exact h pins s σ H o i v ov iv uu Q I ro ri rv q
 ·exact g pins s σ H o i v ov iv uu Q I ro ri rv q
theorem yx(hu:X.A.units+64 < cLine):BE X vq:=by
 obtain⟨r,h1,h2⟩:=(jL:BE X EZ)
 refine⟨_,oX.or h1 (Cm hu),λ o i v d j e H M Q2 Q hd hj he hm q k=>?_⟩
 rcases q with q|⟨a,t,kvs,rfl,hM,ok,hl,q⟩
 ·exact .inl (h2 o i v d j e H M Q2 Q hd hj he hm q k)
 ·cases(aA.mp hd)
  have hr:=hm a _ hM
  cases t with
  |false=>
   obtain⟨xs,hx,rel⟩:=hr
   obtain⟨kk,rfl⟩:=ok
   rw[oC hj]
   have t:=ai.mut (o:=.dK (putK xs kk v)) hx (λ _ z=>by cases z) (λ _ _ z=>by cases z)
   refine .inr (.inl ⟨a,_,rfl,BJ.k hx (by rw[<- y9 rel];exact hl),k _ _ (hm.put (u:=.eL false (putD kvs (iu kk) e)) t ⟨_,aI,(rel.put kk he).mono t⟩) t q⟩)
  |true=>
   obtain⟨xs,hx,rel⟩:=hr
   obtain⟨ks,rfl,kg⟩:=ok
   obtain⟨b,rfl⟩:=ng hj
   have t:=ai.mut (o:=xl a (lb xs (.t ks) b v)) hx (λ _ z=>by cases z) (λ _ _ z=>by cases z)
   refine .inr (.inr ⟨a,b,xs,_,rfl,rfl,rel.keys hx,kg,kz _ hj,by rw[<- y9 rel];exact hl,k _ _ (hm.put (u:=.eL true (putD kvs (mr (.t ks)) e)) t ⟨_,aI,(rel.put (.t ks) kg hj he).mono t⟩) t q⟩)
def Gg:List D->Mem->bq->Prop:=λ xs M Q=>xq xs M Q\/∃a t kvs,xs=[.ref a]/\M a=some (.eL t kvs)/\Q (.int (kvs.length:Nat)) M
theorem JF:cK X (.builtin "len") Gg:=by
 obtain⟨r,h1,h2⟩:=(L3.iP:cK X (.builtin "len") xq)
 refine⟨_,h1.or tU,λ xs ds H M Q2 Q hd hm q k=>?_⟩
 rcases q with q|⟨a,t,kvs,rfl,hM,q⟩
 ·exact .inl (h2 xs ds H M Q2 Q hd hm q k)
 ·obtain⟨x,r,rfl,hx,hr⟩:=af.mp hd
  cases(ao.mp hr)
  cases(aA.mp hx)
  have hr:=hm a _ hM
  cases t with
  |false=>
   obtain⟨xs,hx,rel⟩:=hr
   exact .inr ⟨a,rfl,.inl ⟨xs,hx,by rw[<- y9 rel];exact k _ H _ M (aq.mpr rfl) hm (ai.refl H) q⟩⟩
  |true=>
   obtain⟨xs,hx,rel⟩:=hr
   exact .inr ⟨a,rfl,.inr ⟨xs,hx,by rw[<- y9 rel];exact k _ H _ M (aq.mpr rfl) hm (ai.refl H) q⟩⟩
def Fz(t:Bool):bV:=λ _ M Q=>∀p,M p=none->Q (.ref p) (aw M p (.eL t []))
theorem HM(t:Bool){pos:Pos}:QE X (.Dict [] [] pos) (Fz t):=by
 cases t with
 |false=>
  refine bJ zz λ σ H Q ⟨δ,M,Q2,hs,hm,q,k⟩ p hp=>?_
  exact k _ _ (.ref p) _ (aA.mpr rfl) (hm.put (u:=.eL false []) (ai.laid hp) ⟨[],aI,.nil⟩) (ai.laid hp) (q p (hm.free hp))
 |true=>
  refine bJ zA λ σ H Q ⟨δ,M,Q2,hs,hm,q,k⟩ p hp=>?_
  exact k _ _ (.ref p) _ (aA.mpr rfl) (hm.put (u:=.eL true []) (ai.laid hp) ⟨[],aI,.nil⟩) (ai.laid hp) (q p (hm.free hp))
end
end L3
namespace L4
open PySem PySem.Spec L2 L3 L5
theorem Gy{X:Cx}(t:Bool){pos:Pos}:WE X (.Dict [] [] pos) (Fz t):=⟨HM t⟩
end L4
namespace L3
open PySem PySem.Spec L2 L5 PyProof.Rows
section
variable {Q:bq}{M:Mem}{a:Addr}{kvs:List (D×D)}{x y v d:D}{t:Bool}{N:Mem->Prop}{xs:List D}
theorem Hk(h:M a=some (.eL t kvs))(hk:rF t x)(q:Q (.bl (fw kvs x).isSome) M):MJ x (.ref a) M Q:=.inr ⟨a,t,kvs,rfl,h,hk,q⟩
theorem uB(h:Jy x y M Q):E3 x y M Q:=.inl h
theorem uz(h:M a=some (.eL t kvs))(hk:rF t x)(hl:kvs.length < sizeLine)(q:N (aw M a (.eL t (putD kvs x v)))):vq (.ref a) x v M N:=.inr ⟨a,t,kvs,rfl,h,hk,hl,q⟩
theorem yP(h:xq xs M Q):Gg xs M Q:=.inl h
end
end L3
namespace KK
open PySem L3 L4 L5
open L2 hiding bh ny
abbrev Row:=List Int
end KK
namespace KK
open PySem L3 L4 L5
open L2 hiding bh ny
theorem gc{M:Mem}{p q:Addr}{x:MO}(h:M p=some x)(g:M q=none):p≠q:=λ z=>by subst z;rw[h]at g;cases g
end KK
namespace KK
open PySem L3 L4 L5
open L2 hiding bh ny
def cN(a:Addr)(i:Nat)(M:Mem)(qs:List Addr):Prop:=∀q∈qs,q≠a/\∃hs:List Int,M q=some (.lst (hs.map D.int))/\hs.length<=4/\∀x∈hs,0<=x/\x < (i:Int)
section
variable {a c p q:Addr}{i:Nat}{M M':Mem}{qs:List Addr}{o:MO}
theorem cN.nil:cN a i M []:=λ q h=>by cases h
theorem cN.keep (h:cN a i M qs)(k:∀b o,b≠a->M b=some o->M' b=some o):cN a i M' qs:=λ q hq=>by
 obtain⟨h1,hs,h2,h3⟩:=h q hq
 exact⟨h1,hs,k q _ h1 h2,h3⟩
theorem cN.new (h:cN a i M qs)(hp:M p=none):cN a i (aw M p o) qs:=h.keep λ b u _ e=>by rw[aB (gc e hp)];exact e
theorem cN.ne (h:cN a i M qs)(hp:M p=some (.lst (qs.map D.ref))):∀q∈qs,q≠p:=λ q hq z=>by
 subst z
 obtain⟨_,hs,h2,_⟩:=h q hq
 rw[hp]at h2
 have e:qs.map D.ref=hs.map D.int:=by injection h2 with e;injection e
 have:D.ref q∈qs.map D.ref:=z9.mpr ⟨q,hq,rfl⟩
 rw[e]at this
 obtain⟨x,_,e2⟩:=z9.mp this
 cases e2
theorem cN.put (h:cN a i M qs)(hp:M p=some (.lst (qs.map D.ref))):cN a i (aw M p o) qs:=λ q hq=>by
 obtain⟨h1,hs,h2,h3⟩:=h q hq
 exact⟨h1,hs,by rw[aB (h.ne hp q hq)];exact h2,h3⟩
theorem cN.add (h:cN a i M qs)(J9:q≠a){hs:List Int}(hq:M q=some (.lst (hs.map D.int)))(hl:hs.length<=4)(hx:∀x∈hs,0<=x/\x < (i:Int)):cN a i M (qs++[q]):=λ b hb=>by
 rcases x9.mp hb with z|z
 ·exact h b z
 ·rw[m9.mp z]
  exact⟨J9,hs,hq,hl,hx⟩
theorem cN.take (h:cN a i M qs)(n:Nat):cN a i M (qs.take n):=λ b hb=>h b (mem_of_mem_take hb)
end
theorem zE{hs:List Int}{n i:Nat}(hl:hs.length<=4)(hx:∀x∈hs,0<=x/\x < (i:Int)):hW n i (iY hs n):=by
 refine⟨Bp _ _,Bm,?_,Bo λ x h=>(hx x h).2⟩
 have:=Bq (ns:=hs) (n:=n)
 omega
theorem hW.mono {n i j:Nat}{r:Row}(h:hW n i r)(ou:i<=j):hW n j r:=⟨h.len,h.pos,h.sum,λ k hk=>h.low k (by omega)⟩
end KK
namespace KK
open PySem L3 L4 L5
open L2 hiding bh ny
theorem KR{α:Type}{ds:List α}{X:Prop}(h:ds.length<=16)(q:X):ds.length<=sizeLine/\X:=⟨A1 h (by decide),q⟩
theorem jN{M:Mem}{Q:bq}(q:Q (.bl true) M):Jz false .a_ .a_ M Q:=q
theorem ER{P:Program}{w:World}{K:PySem.W.Frag}{mg:Str->Option Value}{base:Heap}{k:Nat}{f:Addr}{fd:FuncData}{ps:List Str}{sp:fU}(h:∀ds M Q,¬sp ds M Q):bw P w K mg base eP k f fd ps (cE K sp):=
 ⟨λ _ _ _ _ ⟨ds,M,Q,_,_,q,_⟩=>absurd q (h ds M Q),λ _ _ _ _ _ _ _ _ _ _ _ _ _ ⟨ds,M,Q,_,_,q,_⟩=>absurd q (h ds M Q)⟩
def QJ:D->Prop
 | .a_=>True| .bl _=>True| .int _=>True| .str _=>True|_=>False
def rE(M:Mem):Nat->D->D->Prop
 |0,_,_=>False
 |k+1,x,y=>(x=y/\QJ x)\/(∃ds es,x=.tup ds/\y=.tup es/\ds.length=es.length/\ds.length<=10000/\∀(i:Nat) (d e:D),ds[i]?=some d->es[i]?=some e->rE M k d e)\/
  ∃p q ds es,x=.ref p/\y=.ref q/\M p=some (.lst ds)/\M q=some (.lst es)/\ds.length=es.length/\ds.length<=10000/\∀(i:Nat) (d e:D),ds[i]?=some d->es[i]?=some e->rE M k d e
theorem yu(M:Mem)(k:Nat){r:List Int}(h:r.length<=10000):rE M (k+2) (row r) (row r):=
 .inr (.inl ⟨_,_,rfl,rfl,rfl,by rw[x8];exact h,λ i d e hd he=>by
  rw[hd]at he
  cases he
  obtain⟨x,_,rfl⟩:=z9.mp (k7 hd)
  exact .inl ⟨rfl,True.intro⟩⟩)
theorem gF{M:Mem}{k:Nat}{ds:List D}(hl:ds.length<=10000)(h:∀d∈ds,rE M k d d):rE M (k+1) (.tup ds) (.tup ds):=
 .inr (.inl ⟨ds,ds,rfl,rfl,rfl,hl,λ i d e hd he=>by
  rw[hd]at he
  cases he
  exact h d (k7 hd)⟩)
def yr(k:Nat):fU:=λ ds M Q=>∃x y,ds=[x,y]/\rE M k x y/\Q (.bl true) M
theorem Cg:∀ds M Q,¬yr 0 ds M Q:=λ ds M Q ⟨_,_,_,h,_⟩=>h
end KK
namespace L2
open PySem PySem.Spec PyProof.Rows
theorem mf(f:Array Value->Array Value)(o:Obj):(Obj.mapFields f o).dict=o.dict:=by
 unfold Obj.mapFields
 split <;> rfl
def Qw(h:Heap)(e:Addr)(c:Value)(dx:Option Addr)(T:Addr):Prop:=
 ∃oe vs oT ts,h.get? e=some oe/\oe.cls=c/\oe.dict=dx/\oe.data=.fields vs/\vs[1]?=some (.ref T)/\T≠e/\h.get? T=some oT/\oT.data=.fields ts/\ts[3]?=some .none
structure QH(B:Heap)(l:List Env)(e:Addr)(c:Value)(dx:Option Addr)(h h':Heap):Prop where
 dr:B.StaysIn h'
 fr:h'.FunFrames B l
 tr:Qw h' e c dx h.objs.size
 sl:∀b o,h.get? b=some o->(∀vs,o.data≠.fields vs)->∃z,h'.get? b=some {o with slots:=z}
section
variable {M:Model}{A:Around}{E:Value->Shared->Prop}{s:Shared}{B:Heap}{env:Env}{outer:List Env}{L e:Addr}{oe:Obj}{vs:Array Value}
theorem zN{hd:Value}{hn:Bool}{Q:Unit->Shared->Prop}(EI:A.frames=some (env::outer))(hl:s.heap.FunFrames B (env::outer))(hf:env.frame=some L)
  (he:s.heap.get? e=some oe) (kB:B.StaysIn s.heap) (nB:B.get? e=none) (dv:oe.data=.fields vs) (sz:1 < vs.size)
  (q:∀h',QH B (env::outer) e oe.cls oe.dict s.heap h'->Q () {s with heap:=h'}):
  wpAny M A (do let a <- frameOf env;let p <- entryPlaceOf L hn;let b <- EntryCells.newEntry hd a .none (rawInt L) .none p;setField (.ref e) 1 b) (λ _ s'=>wpAny M A (setFlight (.ref e) none) Q E s') E s:=by
 have eF:e∉(env::outer).filterMap (·.frame):=λ z=>by
  obtain⟨_,o,ho,w⟩:=hl.mem z
  rw[he]at ho
  cases ho
  exact w vs dv
 refine A6 (wpAny_frameOf_fun EI hl hf λ g hg=>A6 (wpAny_entryPlaceOf λ pl hpl=>?_))
 unfold EntryCells.newEntry newFields
 refine A6 (n9 ?_ (hpl.sizeOk5 _ _ _ _ _))
 have e1:g.get? e=some oe:=(hg.2.1 e eF).trans he
 have k1:B.StaysIn g:=λ b o z=>(hg.2.1 b λ y=>by rw[(hl.mem y).1]at z;cases z).trans (kB b o z)
 generalize hT:({cls:=.type "traceback",dict:=none,data:=.fields ([hd,.ref L,.none,rawInt L,.none]++(if pl.isEmpty then List.replicate 6 Value.none else pl)).toArray}:Obj)=nt
 have dT:nt.data=.fields ([hd,.ref L,.none,rawInt L,.none]++(if pl.isEmpty then List.replicate 6 Value.none else pl)).toArray:=by rw[<- hT]
 have e2:=j2 (h:=g) nt e1
 refine wpAny_setField e2 dv sz ?_
 have ne:g.objs.size≠e:=Nat.ne_of_gt (z8 e1)
 have d3:=Obj.data_mapFields dv (·.setIfInBounds 1 (Value.ref g.objs.size))
 have e3:=j4 (Obj.mapFields (·.setIfInBounds 1 (Value.ref g.objs.size))) e2 (Obj.isFreed_of_fields d3)
 have fN:nt.isFreed=false:=Obj.isFreed_of_fields dT
 have t3:=(j3 (g.push nt) (Obj.mapFields (·.setIfInBounds 1 (Value.ref g.objs.size))) ne.symm).trans (l6 g fN)
 unfold setFlight
 refine A6 (A5 e3 d3 (x:=.ref g.objs.size) (by simp[sz]) ?_)
 rw[B3 (show(Value.ref g.objs.size != Value.none)=true from by simp)]
 refine wpAny_setField t3 dT (by simp only[p7,l9,q9,length_nil] <;> omega) (q _ ?_)
 have kp:∀b o,b≠e->g.get? b=some o->(((g.push nt).update e (Obj.mapFields (·.setIfInBounds 1 (Value.ref g.objs.size)))).update g.objs.size (Obj.mapFields (·.setIfInBounds 3 ((none:Option Addr).elim Value.none λ f=>rawInt f)))).get? b=some o:=λ b o y z=>by
  rw[j3 _ _ (Nat.ne_of_gt (z8 z)),j3 _ _ y.symm]
  exact j2 _ z
 have nr:∀b o,s.heap.get? b=some o->(∀vs,o.data≠.fields vs)->b≠e:=λ b o z w y=>by
  rw[y,he]at z
  cases z
  exact w vs dv
 refine⟨λ b o z=>kp b o (λ y=>by rw[y,nB]at z;cases z) (k1 b o z),hl.of_keeps λ b o z w=>?_,?_,λ b o z w=>?_⟩
 ·obtain⟨sl,y⟩:=hg.2.2 b o z
  exact⟨_,kp b _ (nr b o z w) y,rfl⟩
 ·rw[<- hg.1]
  refine⟨_,_,_,_,?_,Obj.cls_mapFields _ _,mf _ _,d3,by simp[sz],ne,j4 _ t3 (Obj.isFreed_of_fields (Obj.data_mapFields dT _)),Obj.data_mapFields dT _,by first|(simp;done)|(rcases hpl with rfl|⟨_,_,_,_,_,_,_,rfl⟩ <;> simp)⟩
  rw[j3 _ _ ne]
  exact e3
 ·obtain⟨sl,y⟩:=hg.2.2 b o z
  exact⟨sl,kp b _ (nr b o z w) y⟩
end
def xK(P:Program)(w:World):xT:=λ outer H s E e s'=>∃(a:Addr) (c:Value) (dx:Option Addr) (T:Addr) (H':Hp),e=.ref a/\s'.os=s.os/\AllBare s'.gens/\Un (gf outer) [] H H' s.heap s'.heap/\eA P w H' s'.heap/\
 s.heap.objs.size<=a/\s.heap.objs.size<=T/\H' a=none/\H' T=none/\Qw s'.heap a c dx T/\E c dx H'
end L2
namespace L2
open PySem PySem.Spec PyProof.Rows
section
variable {prog:Program}{w:World}{A:Around}{E:Value->Shared->Prop}{h:Heap}{g:Array GenState}{d:Drawn}{t:Nat}{os:OsState}
variable {nm q:Str}{C N:Addr}{bs bm Fe:List Value}{hdct:Bool}{sn:List Str}{sub:List Value}{ab:Bool}{col:Option Bool}{dd:Option Addr}{k0 k1 k2 k3 k5:Option Value}{B Bn newId NA kb Q7:String}{RD:List Value}
theorem rX(Fn:ExcBaseFacts Bn newId Q7 RD)(NR:Fe.contains (.type Bn)=true)(F:ExcBaseFacts B NA kb Fe)(T:OwnTail h Fe bm){mN:Str->Option Value}{rest:List Value}{fI:Addr}{oI:Obj}{Q:Fin->Shared->Prop}
  (cl:h.get? C=some (excClassObj nm q C N bs bm hdct sn sub ab col dd k0 k1 k2 k3 k5 newId)) (ns:h.Ns N mN) (O':mN "__init__"=some (.ref fI)) (fo:h.get? fI=some oI) (fc:oI.cls=.type "function")
  (k:∀h' e,h.objs.size<=e->Heap.MadeExcOf h h' e (.ref C) rest->wpAny (model prog w) A (call (.ref fI) (.ref e::rest)) (λ r s'=>r=.none/\Q (.done (.ret (.ref e))) s') E ⟨h',g,d,t,os⟩) (kT:rest.length<=sizeLine):
  wpAny (model prog w) A (Builtin.«type.__call__» ⟨.ref C::rest,[]⟩) Q E ⟨h,g,d,t,os⟩:=by
 repeat(first|with_reducible refine wpAny_loadPart_at cl ?_|with_reducible refine wpAny_madeBy_exc cl ?_|wp_step)
 refine codeAny_call_builtin_code (Code.quiet_builtin _ Fn.quiet) (wpAny_check_new_subU Fn NR T cl (codeAny_exc_new_subU Fn NR F T cl ?_ kT))
 show wpAny _ _ _ _ _ _
 generalize Qa:(h.push {cls:=.type "tuple",data:=.seq rest.toArray}).push {cls:=.ref C,data:=.fields #[.ref h.objs.size,.none,.none,.none,.bool false,.none]}=h1
 have kp:∀b o,h.get? b=some o->h1.get? b=some o:=λ b o z=>by rw[<- Qa];exact j2 _ (j2 _ z)
 have ge:h1.get? (h.objs.size+1)=some {cls:=.ref C,data:=.fields #[.ref h.objs.size,.none,.none,.none,.bool false,.none]}:=by rw[<- Qa];heap_get
 have gt:h1.get? h.objs.size=some {cls:=.type "tuple",data:=.seq rest.toArray}:=by rw[<- Qa];exact j2 _ (Heap.get?_push_at rfl rfl)
 have RB:=kp _ _ cl
 have Sh:h1.Ns N mN:=ns.keeps kp
 have TX:=kp _ _ fo
 have T1:=T.keeps kp
 have cc:(Value.ref C::bm).contains (.ref C)=true:=by simp
 unfold isInstance
 repeat(first|with_reducible refine wpAny_loadPart_at ge ?_|(with_reducible refine wpAny_isSubtype_exc RB ?_;rw[cc])|wp_step)
 show wpAny _ _ (typeLookup (.ref C) _) _ _ _
 refine wpAny_typeLookup_tail RB Sh T1 F.mroIs F.init.lookup ?_
 rw[O']
 refine y7 (A6 ?_)
 unfold bindSpecial
 refine A6 (wpAny_typeOf (T:="function") ⟨_,TX,fc⟩ ?_)
 rw[B3 (by decide)]
 refine A7 (A6 (A9 (k h1 (h.objs.size+1) (Nat.le_succ _) ⟨kp,Heap.get?_none_of_le (Nat.le_succ _),h.objs.size,ge,Heap.get?_none_of_le (A2 _),gt⟩) (λ r s' hr=>?_) λ _ _ x=>x))
 obtain⟨rfl,z⟩:=hr
 wp_walk
 exact z
theorem xy(Fn:ExcBaseFacts Bn newId Q7 RD)(NR:Fe.contains (.type Bn)=true)(F:ExcBaseFacts B NA kb Fe)(T:OwnTail h Fe bm){mN:Str->Option Value}{rest:List Value}{fI:Addr}{oI:Obj}{Q:Value->Shared->Prop}
  (cl:h.get? C=some (excClassObj nm q C N bs bm hdct sn sub ab col dd k0 k1 k2 k3 k5 newId)) (ns:h.Ns N mN) (O':mN "__init__"=some (.ref fI)) (fo:h.get? fI=some oI) (fc:oI.cls=.type "function")
  (k:∀h' e,h.objs.size<=e->Heap.MadeExcOf h h' e (.ref C) rest->wpAny (model prog w) (A.under (.builtin "type.__call__" ⟨.ref C::rest,[]⟩)) (call (.ref fI) (.ref e::rest)) (λ r s'=>r=.none/\Q (.ref e) s') E ⟨h',g,d,t,os⟩) (kT:rest.length<=sizeLine):
  wpAny (model prog w) A (call (.ref C) rest) Q E ⟨h,g,d,t,os⟩:=by
 have f1:=tc_lookup
 have f2:=tc_bind (.ref C)
 have ty:(⟨h,g,d,t,os⟩:Shared).TypeIs (.ref C) "type":=⟨_,cl,rfl⟩
 refine wpAny_call (codeAny_of_tree ?_)
 show wpAny _ _ (callAny (.ref C) _) _ _ _
 repeat(any_goals (first|assumption|with_reducible refine wpAny_loadPart_at cl ?_|wp_step))
 refine⟨rfl,codeAny_call_builtin_at (Code.quiet_builtin _ (by decide+kernel)) entry_typeCall (wpAny_check_type_call_sub cl (rX Fn NR F T cl ns O' fo fc (λ h' e le m=>?_) kT))⟩
 exact k h' e le m
end
section
variable {M:Model}{A:Around}{E:Value->Shared->Prop}{env:Env}{nm q:Str}{C N:Addr}{bs bm:List Value}{hdct:Bool}{sn:List Str}{sub:List Value}{ab:Bool}{col:Option Bool}{dd:Option Addr}{k0 k1 k2 k3 k5:Option Value}{newId:String}
theorem sA{s:Shared}{x:Sem Value}{Q:Flow->Shared->Prop}(hb:bm.contains (.type "BaseException")=true)(hh:A.handled=none)
  (k:wpAny M A x (λ v s1=>∃e oe vs,v=.ref e/\s1.heap.get? C=some (excClassObj nm q C N bs bm hdct sn sub ab col dd k0 k1 k2 k3 k5 newId)/\s1.heap.get? e=some oe/\oe.cls=.ref C/\oe.data=.fields vs/\vs[1]?=some .none/\E (.ref e) s1) E s):
  wpAny M A (raiseStmt env (some x) none) Q E s:=by
 have hc:(Value.ref C::bm).contains (.type "BaseException")=true:=by rw[contains_cons,hb,Bool.or_true]
 unfold raiseStmt
 refine A6 (A9 k (λ v s1 z=>?_) λ _ _ x=>x)
 obtain⟨e,⟨oc,od,da,sl⟩,vs,rfl,cl,he,rfl,rfl,h1,z⟩:=z
 obtain⟨hp,g,d,tk,os⟩:=s1
 repeat(first|with_reducible refine wpAny_loadPart_at he ?_|with_reducible refine wpAny_loadPart_at cl ?_|(with_reducible refine wpAny_isSubtype_exc cl ?_;rw[hc])|wp_step)
 rw[h1]
 refine A7 ?_
 rw[B4 (by decide)]
 exact A7 (wpAny_raiseNew_none hh z)
end
end L2
namespace L2
open PySem PySem.Spec PyProof.Rows
section
variable {prog:Program}{w:World}{A:Around}{E:Value->Shared->Prop}{h:Heap}{g:Array GenState}{d:Drawn}{t:Nat}{os:OsState}
variable {nm q:Str}{C N:Addr}{bs bm Fe:List Value}{hdct:Bool}{sn:List Str}{sub:List Value}{ab:Bool}{col:Option Bool}{dd:Option Addr}{k0 k1 k2 k3 k5:Option Value}{B newId NA kb:String}
theorem MR(F:ExcBaseFacts B NA kb Fe)(T:OwnTail h Fe bm){e t0:Addr}{us:List Value}{Q:Value->Shared->Prop}
  (cl:h.get? C=some (excClassObj nm q C N bs bm hdct sn sub ab col dd k0 k1 k2 k3 k5 newId)) (he:h.get? e=some {cls:=.ref C,data:=.fields #[.ref t0,.none,.none,.none,.bool false,.none]}) (kT:us.length<=sizeLine)
  (k:∀h',(∀b o,b≠e->h.get? b=some o->h'.get? b=some o)->h'.get? e=some {cls:=.ref C,data:=.fields #[.ref h.objs.size,.none,.none,.none,.bool false,.none]}->Q .none ⟨h',g,d,t,os⟩):
  wpAny (model prog w) A (call (.builtin kb) (.ref e::us)) Q E ⟨h,g,d,t,os⟩:=by
 refine wpAny_call (codeAny_call_builtin F.init.plain F.initEntry (wpAny_check_init_subU F T cl he rfl ?_))
 wp_walk
 refine k _ (λ b o ne z=>?_) ?_
 ·rw[j3 _ _ ne.symm]
  exact j2 _ z
 ·rw[j4 _ (j2 _ he) rfl]
  rfl
end
end L2
namespace L2
open PySem PySem.Spec PyProof.Rows Builtin Builtin.ObjectAttr
section
variable {prog:Program}{w:World}{A:Around}{E:Value->Shared->Prop}{K:PySem.W.Frag}{h:Heap}{g:Array GenState}{d:Drawn}{t:Nat}{os:OsState}{C x:Addr}{cd:ClassData}{mA:Str->Option Value}{name:Str}{v:Value}
theorem xV{Q:Unit->Shared->Prop}{ns:List Str}(X:K.In h)(hc:PySem.W.clsIn K C=some cd)(hp:∀self:Value,refuseLoop self "__setattr__" cd.mro=pure ())(ho:cd.mro.contains (.type "object")=true)(hdct:cd.hasDict=true)
  (hs:PySem.W.findIn K (.ref C) "__setattr__"=some (some (.builtin "object.__setattr__"))) (hn:PySem.W.findIn K (.ref C) name=some none) (I:h.Inst x C mA)
  (k:∀h' uh,h'.Inst x C (λ y=>if y=name then some v else mA y)->
   (∀b o,b≠x->(∀o0 dx,h.get? x=some o0->o0.dict=some dx->b≠dx)->h.get? b=some o->h'.get? b=some o)->
   (∀o0,h.get? x=some o0->∃o1,h'.get? x=some o1/\o1.cls=o0.cls/\o1.data=o0.data/\o1.slots=o0.slots/\(∀dx,o0.dict=some dx->o1.dict=some dx)/\(o0.dict=none->o1.dict=some h.objs.size))->Q () ⟨h',g,d,uh,os⟩) (hw:Within mA ns) (hz:ns.length<=1000):
  wpAny (model prog w) A (setAttr (.ref x) name v) Q E ⟨h,g,d,t,os⟩:=by
 have I0:=I
 obtain⟨o,hx,FZ,nc,dd⟩:=I
 have LF:PySem.W.notCls o=true:=by
  obtain⟨oc,od,da,sl⟩:=o
  cases da <;> first|rfl|exact absurd rfl (nc _)
 have IA:∃od,PySem.W.InstAt h x o C od:=by
  rcases dd with⟨dn,_⟩|⟨dx,e,_,od,es,ep,q,_⟩
  ·exact⟨none,hx,FZ,LF,by rw[dn];trivial⟩
  ·exact⟨some od,hx,FZ,LF,by rw[e];exact q⟩
 obtain⟨od,IA⟩:=IA
 have ne:cd.mro.isEmpty=false:=by cases z:cd.mro with|nil=>rw[z]at ho;cases ho|cons _ _=>rfl
 have SF:=PySem.F.store_object
 refine PySem.W.set_plain (s:=⟨h,g,d,t,os⟩) X IA hs ?_
 have sub:PySem.W.Looks (model prog w) h (isInstance (.ref x) (.type "object")) true:=IA.type.andThen (PySem.W.looks_mroIn X (by unfold PySem.W.mroIn;rw[hc,Option.bind_some,B4 (by rw[ne];decide),ho]))
 refine codeAny_call_builtin SF.slot.plain SF.entry (@PySem.W.check_slot (model prog w) _ _ ⟨h,g,d,t+1,os⟩ "object.__setattr__" "object" "__setattr__" (.ref x) [.str name t,v] [] _ SF.kind SF.split sub (SF.args (.ref x) (.str name t) v) ?_)
 have hm:PySem.W.Looks (model prog w) h (mroOf (.ref C)) cd.mro:=(PySem.W.looks_clsIn X hc).andThen .now
 rw[PySem.W.osa_eq,refuse_eq]
 refine A6 (A6 (IA.type.here (A6 (hm.here ?_))))
 rw[hp]
 refine A7 (A6 (IA.type.here (A6 ((PySem.W.looks_findIn X hn).here (A6 (A7 ?_))))))
 obtain⟨oc,UT,Ny,wB⟩:=o
 dsimp only at FZ nc dd
 subst FZ
 refine A6 (A7 (A6 (A6 (wpAny_loadPart hx (A6 ((PySem.W.looks_clsIn X hc).here ?_))))))
 rw[hdct]
 rcases dd with⟨rfl,S0⟩|⟨dx,rfl,eR,Kb⟩
 ·rw[B4 (by decide)]
  dsimp only
  rw[B4 (by simp[typeHasDict])]
  have nx:x≠h.objs.size:=z7 (z8 hx)
  have Q9:(h.push {cls:=.type "dict",data:=.dict #[]}).get? x=some {cls:=.ref C,data:=Ny,slots:=wB}:=j2 _ hx
  generalize mw:((h.push {cls:=.type "dict",data:=.dict #[]}).update x λ o=>{cls:=o.cls,dict:=some h.objs.size,data:=o.data,slots:=o.slots})=h2
  have gd:h2.get? h.objs.size=some {cls:=.type "dict",data:=.dict #[]}:=by rw[<- mw];exact(Heap.get?_update_ne _ _ _ _ nx.symm).trans (Heap.get?_push_at rfl rfl)
  have nd:h2.Ns h.objs.size (λ _=>none):=⟨_,#[],_,gd,rfl,λ e he=>absurd he (by simp),λ _=>rfl⟩
  have gx:h2.get? x=some {cls:=.ref C,dict:=some h.objs.size,data:=Ny,slots:=wB}:=by
   rw[<- mw]
   refine j4 _ Q9 ?_
   have fr:=(Heap.get?_some_iff.mp hx).2
   cases Ny <;> first|rfl|exact fr
  have ot:∀b ob,b≠x->h.get? b=some ob->h2.get? b=some ob:=λ b ob nb z=>by
   rw[<- mw]
   exact(Heap.get?_update_ne _ _ _ _ nb).trans (j2 _ z)
  have fin:wpAny (model prog w) A.in1 (storeInDict h.objs.size (.str name t) name v) (λ fin s'=>match fin with| .done f=>(match(Except.ok f:Result)with| .ok (.ret _)=>Q () s'| .ok _=>False| .error e=>E e s')| .again c'=>c'.quiet=true/\codeAny (model prog w) A c' (λ r s'=>match r with| .ok (.ret _)=>Q () s'| .ok _=>False| .error e=>E e s') s') (λ e s'=>E e s') ⟨h2,g,d,t+1,os⟩:=by
   unfold storeInDict newKeyGuard
   refine A6 (A7 (A6 (wpAny_nsSet1 (Heap.Ns1.of_empty nd) λ h' ED J8=>?_)))
   obtain⟨oD,Ua,Ub,q1,q2,q3⟩:=ED.count (Within.cons name v Within.nil)
   refine A6 (wpAny_lookBehind q1 (by rw[q2];exact pastItsLine_dict (A1 q3 (by rw[q9,length_nil,A3];omega))) ?_)
   wp_walk
   have Eu:h'.get? x=some {cls:=.ref C,dict:=some h.objs.size,data:=Ny,slots:=wB}:=(J8.2 x nx).trans gx
   refine k h' _ ⟨_,Eu,rfl,nc,.inr ⟨h.objs.size,rfl,nx.symm,?_⟩⟩ (λ b ob nb _ z=>?_) (λ o0 z=>?_)
   ·obtain⟨o',es,ep,e1,e2,e3,eu,e4⟩:=ED
    exact⟨o',es,ep,e1,e2,e3,eu,λ y=>by rw[e4 y];by_cases hy:y=name <;> simp[hy,S0]⟩
   ·exact(J8.2 b (z7 (z8 z))).trans (ot b ob nb z)
   ·cases(w9 (hx.symm.trans z))
    exact⟨_,Eu,rfl,rfl,rfl,(λ dx e=>by cases e),λ _=>rfl⟩
  split
  ·exact absurd rfl (nc _)
  ·refine A6 (wpAny_alloc' (A6 (wpAny_update' Q9 ?_)))
   rw[mw]
   exact A7 (a:=some h.objs.size) fin
 ·refine A7 (a:=some dx) (A6 (A7 (A6 (wpAny_nsSet1 Kb λ h' ED J8=>?_))))
  obtain⟨oD,Ua,Ub,q1,q2,q3⟩:=ED.count (Within.cons name v hw)
  refine A6 (wpAny_lookBehind q1 (by rw[q2];exact pastItsLine_dict (A1 q3 (by rw[q9,A3];omega))) ?_)
  wp_walk
  refine k h' _ ⟨_,(J8.2 x eR.symm).trans hx,rfl,nc,.inr ⟨dx,rfl,eR,ED⟩⟩ (λ b ob _ nb z=>?_) (λ o0 z=>⟨o0,(J8.2 x eR.symm).trans z,rfl,rfl,rfl,(λ _ e=>e),λ e=>by cases(w9 (hx.symm.trans z));cases e⟩)
  exact(J8.2 b (nb _ dx hx rfl)).trans z
end
end L2
namespace L2
open PySem PySem.Spec PyProof.Rows
abbrev Qs:List Value:=[.type "ValueError",.type "Exception",.type "BaseException",.type "object"]
def XO(e C:Addr)(od:Option Addr)(t:Addr):HO:=.ext λ h=>h.get? e=some {cls:=.ref C,dict:=od,data:=.fields #[.ref t,.none,.none,.none,.bool false,.none]}
structure t_(K:PySem.W.Frag)(C fI:Addr):Prop where
 ex:∃nm q N bs bm sn sub ab col dd k0 k1 k2 k3 k5,K.lookup C=some (excClassObj nm q C N bs bm true sn sub ab col dd k0 k1 k2 k3 k5 "ValueError.__new__")/\PySem.W.tailIn K Qs bm=true/\PySem.W.nsOkIn K N=true/\PySem.W.nsIn K N "__init__"=some (some (.ref fI))
 fn:PySem.W.isFn K (.ref fI)=true
 kp:PySem.W.keepIn K (.ref C)=true
 sa:PySem.W.findIn K (.ref C) "__setattr__"=some (some (.builtin "object.__setattr__"))
structure Gp(K:PySem.W.Frag)(C:Addr):Prop where
 ga:PySem.W.specialIn K (.ref C) "__getattribute__"=some (some (.builtin "type.__getattribute__"))
 rd:PySem.W.readsIn K C (.type "type")=true
 fi:PySem.W.findCls K (.ref C) (.type "type") "__init__"=some (.val (.builtin "ValueError.__init__"))
set_option tactic.hygienic true in
theorem sR{K:PySem.W.Frag}{h:Heap}{N:Addr}{mg:Str->Option Value}{n:Str}{v:Value}(X:K.In h)(G:h.Ns N mg)(e:PySem.W.nsIn K N n=some (some v)):mg n=some v:=by
 obtain⟨o,es,ep,ho,hd,_,hf⟩:=G
 unfold PySem.W.nsIn at e
 split at e
 ·rename_i c d Ga n' sl q
  have z:=X _ _ q
  rw[ho]at z
  cases z
  cases hd
  split at e
  ·rename_i en he
   rw[<- hf]
   unfold nsFind findBy
   rw[<- Array.find?_toList,he]
   cases e
   rfl
  ·split at e <;> cases e
 ·cases e
theorem pS{h:Heap}{bm:List Value}(T:OwnTail h Qs bm)(self:Value):refuseLoop self "__setattr__" bm=pure ():=by
 induction T with
 |base=>exact PySem.F.store_ValueError.passes self
 |own _ _ _ _ ih=>rw[refuseLoop_ref];exact ih
theorem dP{x:V}{xs:List V}{us:List Value}(r:Vals (x::xs) us):∃u ws,us=u::ws/\RelV x u/\Vals xs ws:=by
 cases r with
 |cons a b=>exact⟨_,_,rfl,a,b⟩
section
variable {X:Cx}{pins:List (Addr×Obj)}{σ:St}{H:Hp}{s:Shared}{x m:Str}{p apos pos:Pos}{a:Expr}{as:List Expr}{t:TA}{HC:Addr}
def RY(K:PySem.W.Frag)(t:TA):TE:=λ σ H Q=>t σ H λ vs H1=>∃e C fI t0 us,vs=.ref e::us/\H1 e=some (XO e C none t0)/\t_ K C fI/\us.length<=1000/\∀t1,Q .a_ (upd H1 e (XO e C none t1))
theorem zB{pl:Sem Bool}(hg:Gl X x)(hm:X.mg x=some (.ref HC))(hb:Gp X.K HC)(ha:PA X (a::as) t)(hdb:(x==("__debug__":Str))=false:=by decide)
  (hst:starEach (a::as) X.env=(false,eval a X.env)::starEach as X.env:=by rfl) (hpl:(backTo pos (starEach as X.env)).any (·.1)=false:=by rfl)
  (ht:eval (.Call (.Attribute (.Name x p) "__init__" apos) (a::as) [] pos) X.env=(do
   let ov <- eval (.Name x p) X.env
   standAt apos.atName
   let(f,Qd) <- holding [ov] (getMethod ov "__init__" pl)
   callWith pos f Qd (backTo pos (starEach (a::as) X.env)) (backToKw pos (keywordEach [] X.env))):=by rfl):
  PE X (.Call (.Attribute (.Name x p) "__init__" apos) (a::as) [] pos) (RY X.K t):=by
 intro pins s σ H Q I h
 refine PySem.W.methodCall_KW (pl:=pl) (eJ I hg hm ?_ hdb) ht
 refine PySem.W.method_cls I.eQ hb.ga (PySem.W.cls_value (expr:=false) I.eQ hb.rd hb.fi rfl ?_)
 have hA:=ha pos pins _ σ H _ (I.tok (s.toks+1)) h
 rw[hst]at hA ⊢
 refine Calls.callWith_builtin (by show(false||(backTo pos (starEach as X.env)).any (·.1))=false;rw[hpl] <;> rfl) (Calls.evalArgs_plain (cg hA λ us s2 ⟨vs,H2,I2,r2,q2⟩=>?_))
 obtain⟨e,C,fI,t0,ws,rfl,he,ec,kT,q⟩:=q2
 obtain⟨nm,q0,N,bs,bm,sn,sub,ab,col,dd,k0,k1,k2,k3,k5,cl,tl,no,ni⟩:=ec.ex
 obtain⟨u,Oa,rfl,ru,rs⟩:=dP r2
 obtain rfl:u=Value.ref e:=ru
 obtain⟨ho,_,st⟩:=I2.aL e _ he
 have hl:Oa.length=ws.length:=rs.length.symm
 obtain⟨h2,g2,d2,Ng,ON⟩:=s2
 refine MR PySem.F.excBase_ValueError (PySem.W.tail_of_in I2.eQ tl) (I2.eQ _ _ cl) ho (by rw[hl];exact A1 kT (by decide)) λ h' kp hn=>?_
 refine⟨.a_,_,I2.write (h':=h') (t':=Ng) (x:=e) (e:=e) (o:=XO e C none h2.objs.size) (by rw[he];trivial) (.inl rfl) (λ b u nb z=>kp b u nb z) ⟨_,hn⟩ ⟨hn,⟨_,hn⟩,λ h1 h2 z w=>w _ z⟩,rfl,q _⟩
def XD(dx:Addr)(fs:List (Str×V)):HO:=.ext λ h=>∃mA,h.Ns1 dx mA/\∀f,fb (fs.lookup f) (mA f)
theorem XD.ok {P:Program}{w:World}{H:Hp}{h:Heap}{dx:Addr}{fs:List (Str×V)}{mA:Str->Option Value}(n:h.Ns1 dx mA)(r:∀f,fb (fs.lookup f) (mA f)):bb P w H h dx (XD dx fs):=by
 refine⟨⟨mA,n,r⟩,?_,?_⟩
 ·obtain⟨o,es,ep,e,_⟩:=n
  exact⟨o,e⟩
 ·rintro h1 h2 ⟨m1,⟨o,es,ep,e,z⟩,r1⟩ k
  exact⟨m1,⟨o,es,ep,k _ e,z⟩,r1⟩
theorem Un.Fj {fs ex:List Addr}{H H1:Hp}{h h1:Heap}{b0:Addr}{o:HO}(u:Un fs ex H H1 h h1)(hf:h.objs.size<=b0)(hn:H b0=none):Un fs ex H (upd H1 b0 o) h h1 where
 keep:=u.keep
 slot:=u.slot
 free:=λ b ob q n x=>by rw[av (λ z=>absurd (z8 q) (by rw[z];exact Nat.not_lt.mpr hf))];exact u.free b ob q n x
 there:=u.there
 dR:=λ b xs q=>by rw[av (λ z=>by rw[z,hn]at q;cases q)];exact u.dR b xs q
 dN:=λ b ob v q=>by rw[av (λ z=>by rw[z,hn]at q;cases q)];exact u.dN b ob v q
 eB:=λ b ps q=>by rw[av (λ z=>by rw[z,hn]at q;cases q)];exact u.eB b ps q
theorem eA.Fj {P:Program}{w:World}{H:Hp}{h:Heap}{b0:Addr}{o:HO}(ok:eA P w H h)(hn:H b0=none)(new:bb P w (upd H b0 o) h b0 o):eA P w (upd H b0 o) h:=λ b u q=>by
 by_cases e:b=b0
 ·subst e;rw[aI]at q;cases q;exact new
 ·rw[av e]at q
  refine(ok b u q).dr (λ _ _ _ z=>z) (λ c z=>?_) λ c xs z=>?_
  ·rw[av (λ y=>by rw[y,hn]at z;cases z)];exact z
  ·rw[av (λ y=>by rw[y,hn]at z;cases z)];exact z
def R5(K:PySem.W.Frag)(ta tv:TE)(f:Str):TS:=λ D σ H=>tv σ H λ y H1=>ta σ H1 λ v H2=>∃e C fI t0,v=.ref e/\t_ K C fI/\PySem.W.findIn K (.ref C) f=some none/\
 ((H2 e=some (XO e C none t0)/\∀dx,H2 dx=none->dx≠e->D.nx σ (upd (upd H2 e (XO e C (some dx) t0)) dx (XD dx [(f,y)])))\/
  ∃dx fs,H2 e=some (XO e C (some dx) t0)/\H2 dx=some (XD dx fs)/\dx≠e/\fs.length<=900/\D.nx σ (upd H2 dx (XD dx ((f,y)::fs))))
theorem lX{f:Str}{y:V}{u:Value}{fs:List (Str×V)}{mA:Str->Option Value}(r:RelV y u)(h:∀n,fb (fs.lookup n) (mA n))(n:Str):fb (((f,y)::fs).lookup n) (if n=f then some u else mA n):=by
 by_cases e:n=f
 ·subst e
  rw[B3 rfl]
  simp only[List.lookup,beq_self_eq_true]
  exact r
 ·rw[B4 e]
  simp only[List.lookup,beq_eq_false_iff_ne.mpr e]
  exact h n
theorem Lk{f:Str}{o value:Expr}{ta tv:TE}{pos':Pos}(ho:PE X o ta)(hv:PE X value tv)(hs:swapsWith value (some (.Attribute o f pos')) pos.line X.env=pure false:=by rfl):PS X (.Assign [.Attribute o f pos'] value pos) (R5 X.K ta tv f):=by
 intro pins s σ H D I h
 refine plainObj_wpAny_Assign_Attribute (cg (hv pins s σ H _ I h) λ u s1 ⟨y,H1,I1,ry,q⟩=>cg (ho pins s1 σ H1 _ I1 q) λ ov s2 ⟨v,H2,I2,rx,e,C,fI,t0,ev,ec,hn,q2⟩=>?_) hs
 subst ev
 obtain rfl:ov=Value.ref e:=rx
 obtain⟨nm,q0,N,bs,bm,sn,sub,ab,col,dd,k0,k1,k2,k3,k5,cl,tl,no,ni⟩:=ec.ex
 obtain⟨hp,g2,d2,Ng,ON⟩:=s2
 have T:=PySem.W.tail_of_in I2.eQ tl
 have hc:∃cd:ClassData,PySem.W.clsIn X.K C=some cd/\cd.mro=.ref C::bm/\cd.hasDict=true:=by
  refine⟨_,by unfold PySem.W.clsIn;rw[cl],rfl,rfl⟩
 obtain⟨cd,hc,Ma,hdct⟩:=hc
 have LY:∀self:Value,refuseLoop self "__setattr__" cd.mro=pure ():=λ self=>by rw[Ma,refuseLoop_ref];exact pS T self
 have L7:cd.mro.contains (.type "object")=true:=by rw[Ma,contains_cons,T.hasType (b:=true) (by decide),Bool.or_true]
 rcases q2 with⟨he,q⟩|⟨dx,fs,he,hd,ne,kT,q⟩
 ·obtain⟨hx,_,_⟩:=I2.aL e _ he
  refine xV (mA:=λ _=>none) (ns:=[]) I2.eQ hc LY L7 hdct ec.sa hn ⟨_,hx,rfl,(λ c z=>by cases z),.inl ⟨rfl,λ _=>rfl⟩⟩ (λ h' uh hi kp sm=>?_) (λ n z=>absurd rfl z) (A4 _)
  obtain⟨⟨oc,od,da,sl⟩,rH,c1,MD,KL,_,dn⟩:=sm _ hx
  have e9:od=some hp.objs.size:=dn rfl
  clear dn
  have nx:hp.objs.size≠e:=Nat.ne_of_gt (z8 hx)
  have fr:H2 hp.objs.size=none:=I2.aL.fresh (A2 _)
  dsimp only at c1 MD KL
  subst c1 MD KL e9
  have L':h'.Ns1 hp.objs.size (λ y'=>if y'=f then some u else none):=by
   obtain⟨o2,z1,_,_,z2⟩:=hi
   rw[rH]at z1
   cases z1
   rcases z2 with⟨z,_⟩|⟨d',z,_,z3⟩
   ·cases z
   ·cases z;exact z3
  have NC:∀b w,b≠e->hp.get? b=some w->h'.get? b=some w:=λ b w nb z=>kp b w nb (λ o0 dx z1 z2=>by rw[hx]at z1;cases z1;cases z2) z
  have W:=I2.aL.write (h':=h') (x:=e) (e:=e) (o':=XO e C (some hp.objs.size) t0) (by rw[he];trivial) (.inl rfl) NC ⟨_,rH⟩ ⟨rH,⟨_,rH⟩,λ h1 h2 z w=>w _ z⟩
  have U:Un X.fs [] H2 (upd H2 e (XO e C (some hp.objs.size) t0)) hp h':=Un.write (by rw[he];trivial) (.inl rfl) NC ⟨_,rH⟩
  have n2:upd H2 e (XO e C (some hp.objs.size) t0) hp.objs.size=none:=by rw[av nx];exact fr
  exact⟨σ,_,I2.un (s:=⟨hp,g2,d2,Ng,ON⟩) (t':=uh) (U.Fj (A2 _) fr) (W.Fj n2 (XD.ok L' (lX (fs:=[]) ry λ _=>trivial))),q _ fr nx⟩
 ·obtain⟨hx,_,_⟩:=I2.aL e _ he
  obtain⟨⟨mA,Kb,hr⟩,_,_⟩:=I2.aL dx _ hd
  have hw:Within mA (fs.map (·.1)):=λ n z=>by
   have y:=hr n
   cases e1:fs.lookup n with
   |none=>rw[e1]at y;cases e2:mA n with
    |none=>exact absurd e2 z
    |some w=>rw[e2]at y;exact y.elim
   |some w=>exact z9.mpr ⟨_,l3 e1,rfl⟩
  refine xV (mA:=mA) (ns:=fs.map (·.1)) I2.eQ hc LY L7 hdct ec.sa hn ⟨_,hx,rfl,(λ c z=>by cases z),.inr ⟨dx,rfl,ne,Kb⟩⟩ (λ h' uh hi kp sm=>?_) hw (by rw[x8];omega)
  obtain⟨⟨oc,od,da,sl⟩,rH,c1,MD,KL,dk,_⟩:=sm _ hx
  have e9:od=some dx:=dk dx rfl
  clear dk
  dsimp only at c1 MD KL
  subst c1 MD KL e9
  have L':h'.Ns1 dx (λ y'=>if y'=f then some u else mA y'):=by
   obtain⟨o2,z1,_,_,z2⟩:=hi
   rw[rH]at z1
   cases z1
   rcases z2 with⟨z,_⟩|⟨d',z,_,z3⟩
   ·cases z
   ·cases z;exact z3
  have NC:∀b w,b≠dx->hp.get? b=some w->h'.get? b=some w:=λ b w nb z=>by
   by_cases eb:b=e
   ·subst eb;rw[hx]at z;cases z;exact rH
   ·exact kp b w eb (λ o0 d0 z1 z2=>by rw[hx]at z1;cases z1;cases z2;exact nb) z
  have T_:∃w,h'.get? dx=some w:=by obtain⟨o',es,ep,z,_⟩:=L';exact⟨o',z⟩
  exact⟨σ,_,I2.write (s:=⟨hp,g2,d2,Ng,ON⟩) (t':=uh) (x:=dx) (e:=dx) (by rw[hd];trivial) (.inl rfl) NC T_ (XD.ok L' (lX ry hr)),q⟩
end
end L2
namespace L2
open PySem PySem.Spec PyProof.Rows
def Kj(H:Hp)(e:Addr):Hp:=λ b=>if b=e then none else H b
theorem gZ{H:Hp}{e:Addr}:Kj H e e=none:=B3 rfl
theorem dB{H:Hp}{e b:Addr}(h:b≠e):Kj H e b=H b:=B4 h
section
variable {X:Cx}{pins:List (Addr×Obj)}{σ:St}{H:Hp}{s:Shared}{C fI:Addr}{k:Nat}{fd:FuncData}{ps:List Str}{sp:Sp}
theorem Cp{us:List Value}{vs:List V}{R:Addr->Hp->Prop}(I:Inv X pins σ H s)(ec:t_ X.K C fI)(F:bw X.prog X.w X.K X.mg X.base eP k fI fd ps sp)(hr:bA (k+1) X.A)(hb:Binds X.K fd ps [])(r:Vals vs us)(kT:vs.length<=1000)
  (h:∀e t,H e=none->sp (.ref e::vs) (upd H e (XO e C none t)) (λ v H2=>v=.a_/\R e H2) E0):
  wpAny (model X.prog X.w) X.A (call (.ref C) us) (λ v s'=>∃e H2,v=.ref e/\X.s₀.heap.objs.size<=e/\Inv X pins σ H2 s'/\R e H2) X.xe s:=by
 obtain⟨nm,q0,N,bs,bm,sn,sub,ab,col,dd,k0,k1,k2,k3,k5,cl,tl,no,ni⟩:=ec.ex
 obtain⟨hp,g,d,tk,os⟩:=s
 have KX:=I.eQ
 have NS:hp.Ns N (hp.nsMap N):=.of_isNs (PySem.W.isNs_of_in KX no)
 have hf:∃oI,hp.get? fI=some oI/\oI.cls=.type "function":=by
  have z:PySem.W.typeIn X.K (.ref fI)=some (.type "function"):=beq_iff_eq.mp ec.fn
  obtain⟨o,ho,e⟩:=Option.map_eq_some_iff.mp z
  exact⟨o,KX _ _ ho,e⟩
 obtain⟨oI,fo,fc⟩:=hf
 refine xy PySem.F.excBase_ValueError (by decide) PySem.F.excBase_ValueError (PySem.W.tail_of_in KX tl) (KX _ _ cl) NS (sR KX NS ni) fo fc (λ h' e le m=>?_) (by rw[<- r.length];exact A1 kT (by decide))
 obtain⟨kp,_,t0,he,_,ht⟩:=m
 have fr:H e=none:=I.aL.fresh le
 have hq:=h e t0 fr
 have I2:Inv X pins σ (upd H e (XO e C none t0)) ⟨h',g,d,tk,os⟩:=I.laid (s:=⟨hp,g,d,tk,os⟩) (t':=tk) kp le ⟨he,⟨_,he⟩,λ h1 h2 z w=>w _ z⟩
 have r2:Vals (V.ref e::vs) (Value.ref e::us):=.cons rfl r
 have hl:(Value.ref e::us++[]).length=ps.length:=by
  rw[u9,<- r2.length]
  exact F.len _ _ _ _ hq
 have bd:=hb ⟨h',g,d,tk,os⟩ (Value.ref e::us) I2.eQ hl
 rw[u9]at bd
 refine wpAny_call (codeAny_mono (F.run _ X.stack _ _ ⟨Value.ref e::us,[]⟩ (Value.ref e::us) _ _ E0 (hr.make C us []) (I2.EU.make C us []) bd r2 hq) λ r s' LW=>?_)
 cases r with
 |error x=>exact LW.elim
 |ok fl=>
  cases fl with
  |ret u=>
   obtain⟨v,H',I3,rv,ev,q3⟩:=I2.after LW
   subst ev
   exact⟨rv,e,H',rfl,A1 I.sz le,I3,q3⟩
  |next=>exact False.elim LW
  |brk=>exact False.elim LW
  |cont=>exact False.elim LW
def gp(X:Cx)(E:XK):Prop:=∀(pins:List (Addr×Obj)) (σ:St) (H:Hp) (s:Shared) (e C t:Addr) (od:Option Addr),Inv X pins σ H s->X.s₀.heap.objs.size<=e->H e=some (XO e C od t)->E (.ref C) od (Kj H e)->X.xe (.ref e) s
def GJ(sp:Sp)(C:Addr)(E:XK)(t:TA):TS:=λ _ σ H=>t σ H λ vs H1=>vs.length<=1000/\∀e t0,H1 e=none->sp (.ref e::vs) (upd H1 e (XO e C none t0)) (λ v H2=>v=.a_/\∃od t1,H2 e=some (XO e C od t1)/\E (.ref C) od (Kj H2 e)) E0
theorem zm{E:XK}{x:Str}{np aZ pos:Pos}{a:Expr}{as:List Expr}{t:TA}(hs:gp X E)(hc:X.calm=true)(hg:Gl X x)(hm:X.mg x=some (.ref C))(ec:t_ X.K C fI)(F:bw X.prog X.w X.K X.mg X.base eP k fI fd ps sp)(hr:bA (k+1) X.A)(hb:Binds X.K fd ps [])
  (ha:PA X (a::as) t) (hdb:(x==("__debug__":Str))=false:=by decide) (he:starEach (a::as) X.env=(false,eval a X.env)::starEach as X.env:=by rfl) (hpl:(backTo aZ (starEach as X.env)).any (·.1)=false:=by rfl):
  PS X (.Raise (some (.Call (.Name x np) (a::as) [] aZ)) none pos) (GJ sp C E t):=by
 intro pins s σ H D I h
 obtain⟨nm,q0,N,bs,bm,sn,sub,ab,col,dd,k0,k1,k2,k3,k5,cl,tl,no,ni⟩:=ec.ex
 have T:=PySem.W.tail_of_in I.eQ tl
 rw[arm_exec_Raise]
 refine A6 (wpAny_standAt (sA (C:=C) (nm:=nm) (q:=q0) (N:=N) (bs:=bs) (bm:=bm) (hdct:=true) (sn:=sn) (sub:=sub) (ab:=ab) (col:=col) (dd:=dd) (k0:=k0) (k1:=k1) (k2:=k2) (k3:=k3) (k5:=k5) (newId:="ValueError.__new__") (T.hasType (b:=true) (by decide)) (I.ok.hd hc) ?_))
 refine A6 (A9 (n0 (eJ I hg hm (PySem.W.callWith_K (h₀:=X.base) I.ok.mod.JZ ec.kp (cg (ha aZ pins s σ H _ I h) λ us s1 ⟨vs,H1,I1,r,kT,q⟩=>⟨I1.eQ,Cp I1 ec F hr hb r kT q⟩) he hpl) hdb)) (λ v s3 z=>A6 (wpAny_standAt (A7 ?_))) λ _ _ z=>z)
 obtain⟨e,H2,rfl,le,J,od,t1,hx,q⟩:=z
 obtain⟨ho,_,_⟩:=J.aL e _ hx
 exact⟨e,_,_,rfl,J.eQ _ _ cl,ho,rfl,rfl,rfl,hs pins σ H2 s3 e C t1 od J le hx q⟩
end
end L2
namespace L2
open PySem PySem.Spec PyProof.Rows
section
variable {M:Model}{A:Around}{E:Value->Shared->Prop}{s:Shared}{B:Heap}{env:Env}{outer:List Env}{L e:Addr}
theorem LD{c:Value}{dx:Option Addr}{T:Addr}{Q:Unit->Shared->Prop}(EI:A.frames=some (env::outer))(hl:s.heap.FunFrames B (env::outer))(hf:env.frame=some L)(t:Qw s.heap e c dx T)(nT:B.get? T=none)
  (kB:B.StaysIn s.heap) (nB:B.get? e=none) (q:∀h',QH B (env::outer) e c dx s.heap h'->Q () {s with heap:=h'}):wpAny M A (noteFrame (.ref e) env) (λ _ s2=>wpAny M A (setFlight (.ref e) none) Q E s2) E s:=by
 obtain⟨oe,vs,oT,ts,he,rfl,rfl,dv,h1,ne,hT,dT,h3⟩:=t
 unfold noteFrame
 simp only[hf]
 refine A6 (A5 he dv h1 ?_)
 rw[B3 (show(Value.ref T != Value.none)=true from by simp)]
 refine A6 (A5 hT dT h3 ?_)
 rw[B4 (show ¬((Value.none==rawInt L)=true)from by simp[rawInt])]
 refine A6 (wpAny_setField hT dT (Array.getElem?_eq_some_iff.mp h3).1 ?_)
 have ot:∀b,b≠T->(s.heap.update T (Obj.mapFields (·.setIfInBounds 3 Value.none))).get? b=s.heap.get? b:=λ b y=>j3 _ _ y.symm
 have nr:∀b o,s.heap.get? b=some o->(∀vs,o.data≠.fields vs)->b≠T:=λ b o z w y=>by
  rw[y,hT]at z
  cases z
  exact w ts dT
 exact zN EI (hl.of_keeps λ b o z w=>⟨o,(ot b (nr b o z w)).trans z,rfl⟩) hf ((ot e ne.symm).trans he) (λ b o z=>(ot b λ y=>by rw[y,nT]at z;cases z).trans (kB b o z)) nB dv (Array.getElem?_eq_some_iff.mp h1).1
  λ h' x=>q h' ⟨x.dr,x.fr,by have z:=x.tr;rw[show(s.heap.update T (Obj.mapFields (·.setIfInBounds 3 Value.none))).objs.size=s.heap.objs.size from Heap.size_update _ _ _]at z;exact z,λ b o z w=>x.sl b o ((ot b (nr b o z w)).trans z) w⟩
end
theorem Un.MS {fs ex:List Addr}{H H1:Hp}{h h1:Heap}{b0:Addr}{o:HO}(u:Un fs ex H H1 h h1)(hf:h.objs.size<=b0)(hn:H1 b0=none):Un fs ex H (upd H1 b0 o) h h1 where
 keep:=u.keep
 slot:=u.slot
 free:=λ b ob q n x=>by rw[av (λ z=>absurd (z8 q) (by rw[z];exact Nat.not_lt.mpr hf))];exact u.free b ob q n x
 there:=u.there
 dR:=λ b xs q=>by have y:=u.dR b xs q;rw[av (λ z=>by rw[z,hn]at y;cases y)];exact y
 dN:=λ b ob v q=>by have y:=u.dN b ob v q;rw[av (λ z=>by rw[z,hn]at y;cases y)];exact y
 eB:=λ b ps q=>by obtain⟨m,y⟩:=u.eB b ps q;exact⟨m,by rw[av (λ z=>by rw[z,hn]at y;cases y)];exact y⟩
theorem Un.iB {fs ex:List Addr}{H H1:Hp}{h h1 h2:Heap}{b0:Addr}(u:Un fs ex H H1 h h1)(hf:h.objs.size<=b0)(k:∀b o,b≠b0->h1.get? b=some o->h2.get? b=some o):Un fs ex H H1 h h2 where
 keep:=λ b o q n m x=>k b o (λ z=>absurd (z8 q) (by rw[z];exact Nat.not_lt.mpr hf)) (u.keep b o q n m x)
 slot:=λ b o q n m x=>by obtain⟨z,y⟩:=u.slot b o q n m x;exact⟨z,k b _ (λ z=>absurd (z8 q) (by rw[z];exact Nat.not_lt.mpr hf)) y⟩
 free:=u.free
 there:=λ b o q x=>by obtain⟨o',y⟩:=u.there b o q x;exact⟨o',k b _ (λ z=>absurd (z8 q) (by rw[z];exact Nat.not_lt.mpr hf)) y⟩
 dR:=u.dR
 dN:=u.dN
 eB:=u.eB
theorem eA.iB {P:Program}{w:World}{H:Hp}{h h2:Heap}{b0:Addr}(ok:eA P w H h)(hn:H b0=none)(k:∀b o,b≠b0->h.get? b=some o->h2.get? b=some o):eA P w H h2:=λ b u q=>by
 refine(ok b u q).dr (λ d v y z=>k d v (λ e=>?_) z) (λ _ z=>z) λ _ _ z=>z
 rcases y with rfl|y
 ·rw[e,hn]at q;cases q
 ·rw[e,hn]at y;cases y
section
variable {X:Cx}{pins:List (Addr×Obj)}{σ:St}{H H':Hp}{s s':Shared}{a T:Addr}{h':Heap}{c:Value}{dx:Option Addr}{as:List Addr}
theorem Ee(I:Inv X pins σ H s)(un:Un (gf X.stack) [] H H' s.heap s'.heap)(aL:eA X.prog X.w H' s'.heap)(iW:s'.os=s.os)(bare:AllBare s'.gens)(ha:∀b∈as,s.heap.objs.size<=b/\H' b=none)
  (l:QH (PySem.W.hideAll s'.heap (gf X.stack++as)) X.stack a c dx s'.heap h'):Un (gf X.stack) [] H H' s.heap h'/\eA X.prog X.w H' h':=by
 have J:Inv X pins σ H' s':=I.rh iW un aL bare λ b z=>absurd z (by simp)
 have kp:∀b o,s'.heap.get? b=some o->b∉gf X.stack->b∉as->h'.get? b=some o:=λ b o q n m=>l.dr b o (PySem.W.hideAll_get _ q λ z=>(x9.mp z).elim n m)
 have sl:∀b o,s'.heap.get? b=some o->b∈gf X.stack->∃z,h'.get? b=some {o with slots:=z}:=λ b o q n=>by
  obtain⟨_,u,hu,w⟩:=J.stack.mem n
  rw[q]at hu
  cases hu
  exact l.sl b o q w
 have old:∀b o,s.heap.get? b=some o->b∉as:=λ b o q z=>absurd (z8 q) (Nat.not_lt.mpr (ha b z).1)
 refine⟨⟨λ b o q n m x=>?_,λ b o q n m x=>?_,un.free,λ b o q x=>?_,un.dR,un.dN,un.eB⟩,λ b o q=>?_⟩
 ·exact kp b o (un.keep b o q n m x) m (old b o q)
 ·obtain⟨z,q'⟩:=un.slot b o q n m x
  obtain⟨z2,q2⟩:=sl b _ q' m
  exact⟨z2,q2⟩
 ·obtain⟨o',q'⟩:=un.there b o q x
  by_cases m:b∈gf X.stack
  ·obtain⟨z2,q2⟩:=sl b _ q' m
   exact⟨_,q2⟩
  ·exact⟨_,kp b o' q' m (old b o q)⟩
 ·refine(aL b o q).dr (λ d u e z=>?_) (λ _ z=>z) λ _ _ z=>z
  have hd:H' d≠none:=by
   rcases e with rfl|e
   ·rw[q];intro y;cases y
   ·rw[e];intro y;cases y
  exact kp d u z (λ m=>hd (J.jc d m)) λ m=>hd (ha d m).2
theorem jl{M:Model}{A:Around}{E:Value->Shared->Prop}{i:Nat}{x:Str}{pos:Pos}{Q:Unit->Shared->Prop}(I:Inv X pins σ H s)(hN:X.N.Nodup)(hi:X.N[i]?=some x)(hk:X.env.scope.names.lookup x=some .local)
  (h:∀s',Inv X pins (σ.set i none) H s'->Q () s'):wpAny M A (do bindName X.env x .none;unbindBehindTheSuite X.env x pos) Q E s:=by
 obtain⟨m,hn,hl⟩:=id I.loc
 have Ji:(X.env.scope.kind==.class||(X.env.scope.kind==.module&&X.env.locals != X.env.globals))=false:=by rw[I.ok.kind];rfl
 refine wpAny_nameGoes_keeps hk hn Ji λ h' v ED hs=>?_
 obtain⟨oL,_,_,Ka,_⟩:=id hn
 have Br:=I.Br
 refine h _ ⟨I.ok,I.os,I.bare,⟨λ b o e n hb hx=>?_,λ b o e n hb hx=>?_,I.base.free,λ b o e hx=>?_,I.base.dR,I.base.dN,I.base.eB⟩,⟨_,ED,λ j y v' e1 e2 e3=>?_⟩,λ y c e=>?_,I.free,I.dz,λ p hp=>?_,λ b ob e=>?_,by simpa using I.len⟩
 ·exact(hs.2 b (z7 (m8 (z8 e) I.ok.above))).trans (I.base.keep b o e n hb hx)
 ·obtain⟨sl,e1⟩:=I.base.slot b o e n hb hx
  exact⟨sl,(hs.2 b (z7 (m8 (z8 e) I.ok.above))).trans e1⟩
 ·obtain⟨o',e1⟩:=I.base.there b o e hx
  exact⟨o',(hs.2 b (z7 (m8 (z8 e) I.ok.above))).trans e1⟩
 ·by_cases hj:j=i
  ·subst hj
   by_cases hz:j < σ.length
   ·rw[getElem?_set_self hz]at e2;cases e2
   ·rw[j9 (by rw[length_set];omega)]at e2;cases e2
  ·rw[getElem?_set_ne (B2 hj)]at e2
   obtain⟨u',r',q⟩:=hl j y v' e1 e2 e3
   refine⟨u',r',?_⟩
   rcases q with⟨k,e⟩|⟨k,c,e,z⟩
   ·refine .inl ⟨k,?_⟩
    have:y≠x:=λ e=>hj (jV hN e1 (e▸hi))
    simp[this,e]
   ·exact .inr ⟨k,c,e,z.sameBut hs (Br y c e)⟩
 ·obtain⟨w',z⟩:=I.cell y c e
  exact⟨w',z.sameBut hs (Br y c e)⟩
 ·obtain⟨e,n,ne,nf,d⟩:=I.pin p hp
  exact⟨(hs.2 p.1 ne).trans e,n,ne,nf,d⟩
 ·refine(I.aL b ob e).dr (λ c w' hc q=>(hs.2 c ?_).trans q) (λ _ q=>q) λ _ _ q=>q
  rintro rfl
  rcases hc with rfl|hc
  ·rw[I.free]at e;cases e
  ·rw[I.free]at hc;cases hc
end
end L2
namespace L2
open PySem PySem.Spec PyProof.Rows
def XT(a C:Addr)(od:Option Addr):HO:=.ext λ h=>∃oe vs,h.get? a=some oe/\oe.cls=.ref C/\oe.dict=od/\oe.data=.fields vs
theorem XT.ok {P:Program}{w:World}{H:Hp}{h:Heap}{a C:Addr}{od:Option Addr}{oe:Obj}{vs:Array Value}(h1:h.get? a=some oe)(h2:oe.cls=.ref C)(h3:oe.dict=od)(h4:oe.data=.fields vs):bb P w H h a (XT a C od):=
 ⟨⟨oe,vs,h1,h2,h3,h4⟩,⟨_,h1⟩,λ _ _ ⟨oe,vs,z,r⟩ k=>⟨oe,vs,k _ z,r⟩⟩
structure lE(K:PySem.W.Frag)(C:Addr):Prop where
 ex:∃nm q N bs bm hd sn sub ab col dd k0 k1 k2 k3 k5 newId,K.lookup C=some (excClassObj nm q C N bs bm hd sn sub ab col dd k0 k1 k2 k3 k5 newId)/\bm.contains (.type "BaseException")=true
def vY(K:PySem.W.Frag)(C D:Addr):Bool:=match K.lookup C with
 |some ⟨_,_,.cls cd,_⟩=>cd.mro.contains (.ref D)
 |_=>false
section
variable {M:Model}{A:Around}{E:Value->Shared->Prop}{K:PySem.W.Frag}{s:Shared}{a C D:Addr}{oe:Obj}
theorem qi{b:Bool}{Q:Bool->Shared->Prop}(X:K.In s.heap)(h1:s.heap.get? a=some oe)(h2:oe.cls=.ref C)(hC:lE K C)(hD:lE K D)(hs:vY K C D=b)(k:Q b s):wpAny M A (excMatches (.ref a) (.ref D)) Q E s:=by
 obtain⟨nm,q0,N,bs,bm,hd,sn,sub,ab,col,dd,k0,k1,k2,k3,k5,nw,cl,hb⟩:=hC.ex
 obtain⟨UW,US,N',RC,UC,fQ,UR,R1,Ve,Ux,Jw,U1,U0,UZ,UY,UX,UU,Uz,AI⟩:=hD.ex
 obtain⟨hp,g,d,tk,os⟩:=s
 have c1:=X _ _ cl
 have c2:=X _ _ Uz
 have hc:(Value.ref D::UC).contains (.type "BaseException")=true:=by rw[contains_cons,AI,Bool.or_true]
 have hm:(Value.ref C::bm).contains (.ref D)=b:=by
  unfold vY at hs
  rw[cl]at hs
  exact hs
 obtain⟨oc,od,da,sl⟩:=oe
 dsimp only at h2
 subst h2
 have c3:=c2
 unfold excClassObj at c3
 have f1:isSubtype (.type "type") (.type "tuple")=pure false:=by rw[isSubtype_type];kernel_rfl
 unfold excMatches
 repeat(first|with_reducible refine wpAny_loadPart_at h1 ?_|with_reducible refine wpAny_loadPart_at c3 ?_|(with_reducible refine wpAny_isSubtype_exc c2 ?_;rw[hc])|(with_reducible refine wpAny_isSubtype_exc c1 ?_;rw[hm])|wp_step)
 cases b <;> (wp_walk;exact k)
end
def Cx.Es (X:Cx)(a:Addr):Cx:={X with A:=X.A.mark (some (.ref a)),calm:=false,xe:=λ _ _=>False}
section
variable {X:Cx}{pins:List (Addr×Obj)}{σ:St}{H H':Hp}{s s':Shared}{a:Addr}
theorem Inv.Es (I:Inv X pins σ H s)(a:Addr):Inv (X.Es a) pins σ H s:=
 let ok:=I.ok
 ⟨⟨ok.mod,ok.kind,ok.glob,ok.blt,ok.above,ok.inj,ok.has,ok.Kl,(λ z=>by cases z),ok.frames,ok.KG,ok.Qg,ok.bs,ok.xR,ok.sS,ok.AR,ok.gW,ok.EO⟩,I.os,I.bare,I.base,I.loc,I.cell,I.free,I.dz,I.pin,I.aL,I.len⟩
theorem Inv.DG (J:Inv (X.Es a) pins σ' H' s')(ok:X.Ok):Inv X pins σ' H' s':=
 ⟨ok,J.os,J.bare,J.base,J.loc,J.cell,J.free,J.dz,J.pin,J.aL,J.len⟩
def Ends.but (D:Ends)(i:Nat):Ends:={nx:=λ σ H=>D.nx (σ.set i none) H,rt:=D.rt,bk:=λ σ H=>D.bk (σ.set i none) H,ct:=λ σ H=>D.ct (σ.set i none) H}
def EH(K:PySem.W.Frag)(CE:Addr)(i:Nat)(th:Addr->TS)(D:Ends)(σ:St):XK:=λ c od H'=>∃C,c=.ref C/\lE K C/\vY K C CE=true/\∀a,H' a=none->th a (D.but i) (σ.set i (some (.ref a))) (upd H' a (XT a C od))
theorem JD{E:Value->Shared->Prop}{x n:Str}{i:Nat}{np tj:Pos}{b0:Stmt}{suite:List Stmt}{th:Addr->TS}{D:Ends}{CE:Addr}{e:Value}(I:Inv X pins σ H s)(hst:X.stack=X.env::X.outer/\X.env.frame=some X.env.locals)(hN:X.N.Nodup)(hi:X.N[i]?=some n)(hk:X.env.scope.names.lookup n=some .local)
  (hg:Gl X x) (hm:X.mg x=some (.ref CE)) (hC:lE X.K CE) (hs:∀a,lB (X.Es a) (b0::suite) (th a)) (cx:xK X.prog X.w X.stack H s (EH X.K CE i th D σ) e s') (hdb:(x==("__debug__":Str))=false:=by decide):
  wpAny (model X.prog X.w) X.A (noteFrame e X.env) (λ _ s2=>wpAny (model X.prog X.w) X.A (setFlight e none) (λ _ s3=>wpAny (model X.prog X.w) X.A (handleBy e X.env [.ExceptHandler (some (.Name x np)) (some n) (b0::suite) tj]) (SP X pins D) E s3) E s2) E s':=by
 obtain⟨a,c,dx,T,H',rfl,iW,bare,un,aL,h1,h2,n1,n2,t,C,rfl,eC,sC,q⟩:=cx
 have J:=I.rh iW un aL bare λ b z=>absurd z (by simp)
 have hT:∀b∈[a,T],s.heap.objs.size<=b/\H' b=none:=λ b hb=>by
  rcases z5.mp hb with rfl|hb
  ·exact⟨h1,n1⟩
  ·cases m9.mp hb;exact⟨h2,n2⟩
 have fr:=J.ok.frames
 have fn:=J.stack
 rw[hst.1]at fr fn
 have cI:s.heap.objs.size<=s'.heap.objs.size:=by
  obtain⟨oe,vs,oT,ts,he,_⟩:=t
  exact A1 h1 (Nat.le_of_lt (z8 he))
 refine LD (B:=PySem.W.hideAll s'.heap (gf (X.env::X.outer)++[a,T])) (env:=X.env) (outer:=X.outer) (L:=X.env.locals) fr (PySem.W.funFrames_hide fn λ e he b hb=>x9.mpr (.inl (mem_filterMap.mpr ⟨e,he,hb⟩))) hst.2 t
  (PySem.W.hideAll_none _ (by simp)) (λ b o z=>PySem.W.of_hideAll _ z) (PySem.W.hideAll_none _ (by simp)) λ h' l=>?_
 rw[<- hst.1]at l
 obtain⟨QU,L6⟩:=Ee I un aL iW bare hT l
 obtain⟨oe,vs,oT,ts,he,c1,d1,dv,v1,ne,gT,dT,v3⟩:=l.tr
 have fT:H' s'.heap.objs.size=none:=aL.fresh (A2 _)
 refine wpAny_handleBy_cons (codeAny_handlers_test ?_) (by intro z;cases z)
 have J1:Inv X pins σ H' {s' with heap:=h'}:=I.rh iW QU L6 bare λ b z=>absurd z (by simp)
 refine eJ (X:=X.Es a) (J1.Es a) hg hm ?_ hdb
 refine qi J1.eQ he c1 eC hC sC ?_
 refine codeAny_handlers_suite_as ?_
 unfold setFlight
 refine A6 (A5 he dv v1 ?_)
 rw[B3 (show(Value.ref s'.heap.objs.size != Value.none)=true from by simp)]
 refine wpAny_setField gT dT (Array.getElem?_eq_some_iff.mp v3).1 ?_
 generalize Td:h'.update s'.heap.objs.size (Obj.mapFields (·.setIfInBounds 3 ((none:Option Addr).elim Value.none λ f=>rawInt f)))=g2
 have kp:∀b o,b≠s'.heap.objs.size->h'.get? b=some o->g2.get? b=some o:=λ b o nb z=>by rw[<- Td,j3 _ _ nb.symm];exact z
 have RR:=QU.iB (A1 (A2 _) cI) kp
 have Jd:=L6.iB fT kp
 have RQ:=RR.MS (o:=XT a C dx) h1 n1
 have Pu:=Jd.Fj (o:=XT a C dx) n1 (XT.ok (kp a oe ne.symm he) c1 d1 dv)
 have J3:Inv X pins σ (upd H' a (XT a C dx)) {s' with heap:=g2}:=I.rh (s':={s' with heap:=g2}) iW RQ Pu bare λ b z=>absurd z (by simp)
 refine gC (v:=.ref a) J3 hN hi (.inl hk) rfl (λ s4 J4=>?_) (.inr hk)
 refine A9 (hs a pins s4 _ _ (D.but i) (J4.Es a) (q a n1)) (λ f s5 z=>?_) λ _ _ z=>z.elim
 cases f with
 |next=>
  obtain⟨σ5,H5,J5,q5⟩:=z
  exact jl (J5.DG J.ok) hN hi hk λ s6 J6=>⟨_,_,J6,q5⟩
 |brk=>
  obtain⟨σ5,H5,J5,q5⟩:=z
  exact jl (J5.DG J.ok) hN hi hk λ s6 J6=>⟨_,_,J6,q5⟩
 |cont=>
  obtain⟨σ5,H5,J5,q5⟩:=z
  exact jl (J5.DG J.ok) hN hi hk λ s6 J6=>⟨_,_,J6,q5⟩
 |ret u=>
  obtain⟨v,σ5,H5,J5,r5,q5⟩:=z
  exact jl (J5.DG J.ok) hN hi hk λ s6 J6=>⟨_,_,_,J6,r5,q5⟩
end
end L2
namespace L2
open PySem PySem.Spec PyProof.Rows
section
variable {X:Cx}{pins:List (Addr×Obj)}{σ:St}{H:Hp}{s:Shared}{k:Nat}{fa:Addr}{fd:FuncData}{ps:List Str}{sp:Sp}{x:Str}{p pos:Pos}{e:Expr}{es:List Expr}{t:TA}{E:XK}
theorem Qh{Ex:Value->Shared->Prop}{Q:VK}(hE:∀v s,X.xe v s->False)(F:bw X.prog X.w X.K X.mg X.base (xK X.prog X.w) k fa fd ps sp)(hr:bA k X.A)(hg:Gl X x)(hm:X.mg x=some (.ref fa))(hk:PySem.W.keepIn X.K (.ref fa)=true)(hb:Binds X.K fd ps [])
  (ha:PA X (e::es) t) (I:Inv X pins σ H s) (h:t σ H λ vs H1=>sp vs H1 Q E) (hx:∀H1 s1 v s',Inv X pins σ H1 s1->xK X.prog X.w X.stack H1 s1 E v s'->Ex v s')
  (hdb:(x==("__debug__":Str))=false:=by decide) (he:starEach (e::es) X.env=(false,eval e X.env)::starEach es X.env:=by rfl) (hpl:(backTo pos (starEach es X.env)).any (·.1)=false:=by rfl):
  wpAny (model X.prog X.w) X.A (eval (.Call (.Name x p) (e::es) [] pos) X.env) (EP X pins σ Q) Ex s:=by
 refine n0 (eJ I hg hm ?_ hdb)
 refine PySem.W.callWith_K (h₀:=X.base) I.ok.mod.JZ hk (A9 (ha pos pins s σ H _ I h) (λ us s1 ⟨vs,H1,I1,r,q⟩=>⟨I1.eQ,?_⟩) λ v s z=>(hE v s z).elim) he hpl
 have hl:(us++[]).length=ps.length:=by rw[u9,<- r.length];exact F.len _ _ _ _ q
 have bd:=hb s1 us I1.eQ hl
 rw[u9]at bd
 refine wpAny_call (codeAny_mono (F.run X.A X.stack s1 H1 ⟨us,[]⟩ us vs Q E hr I1.EU bd r q) λ r s' hq=>?_)
 cases r with
 |error v=>exact hx H1 s1 v s' I1 hq
 |ok fl=>
  cases fl with
  |ret u=>exact I1.after hq
  |next=>exact False.elim hq
  |brk=>exact False.elim hq
  |cont=>exact False.elim hq
def Ks(K:PySem.W.Frag)(sp:Sp)(CE:Addr)(i j:Nat)(th:Addr->TS)(t:TA):TS:=λ D σ H=>t σ H λ vs H1=>sp vs H1 (λ v H2=>D.nx (σ.set j (some v)) H2) (EH K CE i th D σ)
theorem Dr{y n xc:Str}{i j:Nat}{py np tj fm jC:Pos}{b0:Stmt}{suite:List Stmt}{th:Addr->TS}{CE:Addr}(hE:∀v s,X.xe v s->False)(hst:X.stack=X.env::X.outer/\X.env.frame=some X.env.locals)(hN:X.N.Nodup)
  (hj:X.N[j]?=some y) (hy:Loc X.env.scope y) (hi:X.N[i]?=some n) (hk:X.env.scope.names.lookup n=some .local)
  (F:bw X.prog X.w X.K X.mg X.base (xK X.prog X.w) k fa fd ps sp) (hr:bA k X.A) (hg:Gl X x) (hm:X.mg x=some (.ref fa)) (PF:PySem.W.keepIn X.K (.ref fa)=true) (hb:Binds X.K fd ps []) (ha:PA X (e::es) t)
  (Mn:Gl X xc) (Md:X.mg xc=some (.ref CE)) (hC:lE X.K CE) (hs:∀a,lB (X.Es a) (b0::suite) (th a))
  (hsw:swapsWith (.Call (.Name x p) (e::es) [] pos) (some (.Name y py)) fm.line X.env=pure false:=by rfl) (hf:X.fn y=true\/X.env.scope.names.lookup y=some .local:=by first|exact .inl rfl|exact .inr rfl|assumption)
  (hdb:(x==("__debug__":Str))=false:=by decide) (AH:(xc==("__debug__":Str))=false:=by decide) (he:starEach (e::es) X.env=(false,eval e X.env)::starEach es X.env:=by rfl) (hpl:(backTo pos (starEach es X.env)).any (·.1)=false:=by rfl):
  PS X (.Try [.Assign [.Name y py] (.Call (.Name x p) (e::es) [] pos) fm] [.ExceptHandler (some (.Name xc np)) (some n) (b0::suite) tj] [] [] jC) (Ks X.K sp CE i j th t):=by
 intro pins s σ H D I h
 refine wpAny_Try_except (wpAny_execs_cons (wpAny_Assign_Name (A9 (Qh hE F hr hg hm PF hb ha I h (λ H1 s1 v s' I1 cx=>JD I1 hst hN hi hk Mn Md hC hs cx AH) hdb he hpl) (λ v s1 ⟨z,H1,I1,r1,q1⟩=>?_) λ _ _ z=>z) hsw))
 exact gC I1 hN hj hy r1 (λ s2 I2=>wpAny_execs_nil (wpAny_execs_nil ⟨_,H1,I2,q1⟩)) hf
end
end L2
namespace L2
open PySem PySem.Spec PyProof.Rows Builtin Builtin.ObjectAttr
theorem vi(x:Value):bindSpecial (.builtin "BaseException.__getattribute__") x=pure (.builtin "BaseException.__getattribute__",[x]):=PySem.F.excAttr_ValueError.ga.bind x
section
variable {prog:Program}{w:World}{A:Around}{E:Value->Shared->Prop}{K:PySem.W.Frag}{h:Heap}{g:Array GenState}{d:Drawn}{t:Nat}{os:OsState}{C a:Addr}{oe:Obj}{od:Option Obj}{name:Str}{v:Value}
theorem N_{expr:Bool}{Q:Value->Shared->Prop}(X:K.In h)(I:PySem.W.InstAt h a oe C od)(Tf:PySem.W.findIn K (.ref C) "__getattribute__"=some (some (.builtin "BaseException.__getattribute__")))(EG:PySem.W.findIn K (.ref C) "__getattr__"=some none)
  (hf:PySem.W.findObj K C od name=some (.value v)) (hb:PySem.W.mroIn K C (.type "BaseException")=some true) (hh:handedOut v=pure v) (q:Q v ⟨h,g,d,t+1,os⟩):wpAny (model prog w) A (getAttr (.ref a) name expr) Q E ⟨h,g,d,t,os⟩:=by
 have L0:=I.type (M:=model prog w)
 have L1:=PySem.W.looks_findIn (M:=model prog w) X Tf
 have L2:=PySem.W.looks_hook (M:=model prog w) (mc:=.ref C) X (r:=none) (by rw[B3 (show onTheHeap (Value.ref C)=true from rfl)];exact EG)
 have L3:=PySem.W.looks_find (M:=model prog w) X I hf
 have sub:PySem.W.Looks (model prog w) h (isInstance (.ref a) (.type "BaseException")) true:=L0.andThen (PySem.W.looks_mroIn X hb)
 unfold getAttr getAttrBy
 refine A6 (wpAny_mkText (y7 (A6 (L0.at (A6 (L1.at ?_))))))
 have Pg:(Value.builtin "BaseException.__getattribute__"==Value.builtin "object.__getattribute__")=false:=by decide+kernel
 have NH:(expr&&onTheHeap (Value.builtin "BaseException.__getattribute__"))=false:=by cases expr <;> rfl
 dsimp only
 rw[B4 (by rw[Pg,Bool.and_false];decide)]
 unfold getAttrByItsOwn
 refine A6 (L2.at ?_)
 unfold callGetattribute
 rw[B4 (by rw[NH];decide)]
 unfold boundAndCalled
 refine A6 (y8 (y7 (A6 ?_)))
 rw[vi]
 refine A7 (wpAny_call ?_)
 refine codeAny_call_builtin PySem.F.excAttr_ValueError.ga.plain PySem.F.entry_bexc_ga (@PySem.W.check_slot (model prog w) _ _ ⟨h,g,d,t+1,os⟩ "BaseException.__getattribute__" "BaseException" "__getattribute__" (.ref a) [.str name t] [] _ (by decide+kernel) (by decide+kernel) sub (PySem.F.args_bexc_ga (.ref a) (.str name t)) ?_)
 refine A6 (A7 (A6 (A7 (A6 (L0.at (A6 (L3.at ?_)))))))
 refine A7 ?_
 show wpAny _ _ (handedOut v) _ _ _
 rw[hh]
 exact A7 q
end
section
variable {X:Cx}{e:Expr}{ta:TE}{pos:Pos}{f:Str}
structure JR(K:PySem.W.Frag)(C:Addr)(f:Str):Prop where
 ga:PySem.W.findIn K (.ref C) "__getattribute__"=some (some (.builtin "BaseException.__getattribute__"))
 gt:PySem.W.findIn K (.ref C) "__getattr__"=some none
 no:PySem.W.findIn K (.ref C) f=some none
 ba:PySem.W.mroIn K C (.type "BaseException")=some true
 hd:(PySem.W.clsIn K C).any (·.hasDict)=true
def QX(K:PySem.W.Frag)(ta:TE)(f:Str):TE:=λ σ H Q=>ta σ H λ v H1=>∃a C dx fs y,v=.ref a/\H1 a=some (XT a C (some dx))/\H1 dx=some (XD dx fs)/\JR K C f/\fs.lookup f=some y/\Q y H1
theorem Ll(he:PE X e ta)(hb:attributeBase e f X.env (eval e X.env)=eval e X.env:=by rfl):PE X (.Attribute e f pos) (QX X.K ta f):=by
 intro pins s σ H Q I h
 refine Fh hb (cg (he pins s σ H _ I h) λ u s1 ⟨v,H1,I1,rx,a,C,dx,fs,y,ev,h1,h2,eg,hl,q⟩=>?_)
 subst ev
 obtain rfl:u=Value.ref a:=rx
 obtain⟨⟨oe,vs,he,hc,hd,oy⟩,_,_⟩:=I1.aL a _ h1
 obtain⟨⟨mA,hn,hr⟩,_,_⟩:=I1.aL dx _ h2
 obtain⟨od,ho,S4⟩:=iq hn
 obtain⟨hp,g,d,tk,os⟩:=s1
 have ry:=hr f
 rw[hl]at ry
 cases em:mA f with
 |none=>rw[em]at ry;exact ry.elim
 |some u=>
  rw[em]at ry
  have IA:PySem.W.InstAt hp a oe C (some od):=⟨he,hc,by unfold PySem.W.notCls;rw[oy],by rw[hd];exact ho⟩
  obtain⟨cd,hcd,Ti⟩:=PySem.W.any_some eg.hd
  refine N_ I1.eQ IA eg.ga eg.gt (v:=u) ?_ eg.ba ?_ ⟨y,H1,I1.tok _,ry,q⟩
  ·unfold PySem.W.findObj
   rw[hcd,Option.bind_some,eg.no]
   show((PySem.W.ownOf cd (some od) f).bind _)=_
   unfold PySem.W.ownOf
   rw[B3 Ti]
   dsimp only
   rw[S4,em]
   rfl
  ·exact PySem.W.handedOut_of (xf ry)
end
end L2
namespace L2
open PySem PySem.Spec PyProof.Rows Builtin Builtin.ObjectAttr
structure lC(K:PySem.W.Frag)(C:Addr):Prop where
 ga:PySem.W.findIn K (.ref C) "__getattribute__"=some (some (.builtin "BaseException.__getattribute__"))
 gt:PySem.W.findIn K (.ref C) "__getattr__"=some none
 ba:PySem.W.mroIn K C (.type "BaseException")=some true
 ob:PySem.W.mroIn K C (.type "object")=some true
 hd:(PySem.W.clsIn K C).any (·.hasDict)=true
 cl:PySem.W.findIn K (.ref C) "__class__"=some (some (.builtin "object.__class__"))
 ge:PySem.W.specialIn K (.builtin "object.__class__") "__get__"=some (some (.builtin "getset_descriptor.__get__"))
 tk:PySem.W.takesIn K (.builtin "object.__class__")=some true
section
variable {prog:Program}{w:World}{A:Around}{E:Value->Shared->Prop}{K:PySem.W.Frag}{s:Shared}{C a:Addr}{oe od:Obj}
theorem Gs{Q:Option Value->Shared->Prop}(X:K.In s.heap)(I:PySem.W.InstAt s.heap a oe C (some od))(e:lC K C)(q:Q (some (.ref C)) {s with toks:=s.toks+1}):wpAny (model prog w) A (getAttr? (.ref a) "__class__") Q E s:=by
 obtain⟨h,g,d,t,os⟩:=s
 obtain⟨cd,hcd,_⟩:=PySem.W.any_some e.hd
 have hf:PySem.W.findObj K C (some od) "__class__"=some (.bind (.builtin "getset_descriptor.__get__") (.builtin "object.__class__")):=PySem.W.findObj_data (by rw[hcd];rfl) e.cl e.ge e.tk
 have L0:=I.type (M:=model prog w)
 have L1:=PySem.W.looks_findIn (M:=model prog w) X e.ga
 have L2:=PySem.W.looks_hook (M:=model prog w) (mc:=.ref C) X (r:=none) (by rw[B3 (show onTheHeap (Value.ref C)=true from rfl)];exact e.gt)
 have L3:=PySem.W.looks_find (M:=model prog w) X I hf
 have sub:PySem.W.Looks (model prog w) h (isInstance (.ref a) (.type "BaseException")) true:=L0.andThen (PySem.W.looks_mroIn X e.ba)
 unfold getAttr? getAttrBy? getAttrBy
 refine A6 (wpAny_mkText (A6 (y8 (y7 (A6 (L0.at (A6 (L1.at ?_))))))))
 have Pg:(Value.builtin "BaseException.__getattribute__"==Value.builtin "object.__getattribute__")=false:=by decide+kernel
 dsimp only
 rw[B4 (by rw[Pg,Bool.and_false];decide)]
 unfold getAttrByItsOwn
 refine A6 (L2.at ?_)
 unfold callGetattribute
 rw[B4 (by decide)]
 unfold boundAndCalled
 refine A6 (y8 (y7 (A6 ?_)))
 rw[vi]
 refine A7 (wpAny_call ?_)
 refine codeAny_call_builtin PySem.F.excAttr_ValueError.ga.plain PySem.F.entry_bexc_ga (@PySem.W.check_slot (model prog w) _ _ ⟨h,g,d,t+1,os⟩ "BaseException.__getattribute__" "BaseException" "__getattribute__" (.ref a) [.str "__class__" t] [] _ (by decide+kernel) (by decide+kernel) sub (PySem.F.args_bexc_ga (.ref a) (.str "__class__" t)) ?_)
 refine A6 (A7 (A6 (A7 (A6 (L0.at (A6 (L3.at ?_)))))))
 show wpAny _ _ (holding [.builtin "object.__class__"] (call (.builtin "getset_descriptor.__get__") [.builtin "object.__class__",.ref a,.ref C]) >>= ret) _ _ _
 refine A6 (y7 (wpAny_call (PySem.W.class_get (s:=⟨h,g,d,t+1,os⟩) (ox:=oe) (od:=some od) X I e.ob ?_)))
 refine A7 ?_
 show wpAny _ _ (handedOut (Value.ref C)) _ _ _
 rw[PySem.W.handedOut_of rfl]
 exact A7 (A7 q)
set_option tactic.hygienic true in
theorem qo(e:lC K C):PySem.W.KitX K (.ref a) (.ref C) (λ h=>∃oe od,PySem.W.InstAt h a oe C (some od)) where
 ty:=λ _ _ _ ⟨_,_,I⟩=>I.type
 it:=λ _ _ X _=>by
  obtain⟨cd,hc,_⟩:=PySem.W.any_some e.hd
  unfold PySem.W.clsIn at hc
  split at hc
  ·rename_i c' d' UA Oq ho
   intro A' Q' E' s' k q
   unfold isType loadHead
   exact A6 (wpAny_loadPart (k _ _ (X _ _ ho)) (A7 q))
  ·cases hc
 ne:=λ h tp dd ah n sl X z=>by
  obtain⟨cd,hc,_⟩:=PySem.W.any_some e.hd
  refine Bool.eq_false_iff.mpr λ q=>?_
  have e:C=tp:=Value.ref.inj (beq_iff_eq.mp q)
  subst e
  unfold PySem.W.clsIn at hc
  split at hc
  ·rename_i c' d' UA Oq ho
   have y:=(X _ _ ho).symm.trans z
   cases y
  ·cases hc
 ca:=λ X ⟨_,_,I⟩ k=>Gs X I e k
end
section
variable {X:Cx}{pins:List (Addr×Obj)}{σ:St}{H:Hp}{s:Shared}
theorem qJ(I:Inv X pins σ H s){a C dx:Addr}{fs:List (Str×V)}(h1:H a=some (XT a C (some dx)))(h2:H dx=some (XD dx fs)):∃oe od,PySem.W.InstAt s.heap a oe C (some od):=by
 obtain⟨⟨oe,vs,he,hc,hd,oy⟩,_,_⟩:=I.aL a _ h1
 obtain⟨⟨mA,hn,hr⟩,_,_⟩:=I.aL dx _ h2
 obtain⟨od,ho,_⟩:=iq hn
 exact⟨oe,od,he,hc,by unfold PySem.W.notCls;rw[oy],by rw[hd];exact ho⟩
theorem Eo{b:Bool}{c:Value}{a C dx:Addr}{fs:List (Str×V)}{A:Around}{E:Value->Shared->Prop}{Q:Value->Shared->Prop}(I:Inv X pins σ H s)(h1:H a=some (XT a C (some dx)))(h2:H dx=some (XD dx fs))(e:lC X.K C)(k:PySem.W.kitOne X.K (.ref C) c=some b)
  (q:∀tk,Q (.bool b) {s with toks:=tk}):wpAny (model X.prog X.w) A (call (.builtin "isinstance") [.ref a,c]) Q E s:=
 x6 (qo e) I.eQ (qJ I h1 h2) k (λ z=>nomatch z) q
theorem Ak{b:Bool}{a C dx tp:Addr}{fs:List (Str×V)}{dd:Option Addr}{ah:List Value}{n:Nat}{sl:Array (Option Value)}{A:Around}{E:Value->Shared->Prop}{Q:Value->Shared->Prop}(I:Inv X pins σ H s)(h1:H a=some (XT a C (some dx)))(h2:H dx=some (XD dx fs))(e:lC X.K C)
  (ht:s.heap.get? tp=some ⟨.type "tuple",dd,.seq ah.toArray n,sl⟩) (k:PySem.W.kitAny X.K (.ref C) ah=some b) (q:∀tk,Q (.bool b) {s with toks:=tk}):wpAny (model X.prog X.w) A (call (.builtin "isinstance") [.ref a,.ref tp]) Q E s:=
 PySem.W.kia_tup (qo e) I.eQ (qJ I h1 h2) ht k (λ z=>nomatch z) q
end
end L2
namespace L2
open PySem PySem.Spec PyProof.Rows
def MU(h:Heap)(a:Addr)(c:Value)(od:Option Addr)(nt:Option (Addr×Value)):Prop:=∃oe vs,h.get? a=some oe/\oe.cls=c/\oe.dict=od/\oe.data=.fields vs/\match nt with
 |none=>vs[1]?=some .none
 |some (T,fl)=>vs[1]?=some (.ref T)/\T≠a/\∃oT ts,h.get? T=some oT/\oT.data=.fields ts/\ts[3]?=some fl
structure RH(B:Heap)(l:List Env)(h h':Heap):Prop where
 dr:B.StaysIn h'
 fr:h'.FunFrames B l
 sl:∀b o,h.get? b=some o->(∀vs,o.data≠.fields vs)->∃z,h'.get? b=some {o with slots:=z}
section
variable {M:Model}{A:Around}{E:Value->Shared->Prop}{s:Shared}{B:Heap}{env:Env}{outer:List Env}{L e:Addr}{oe:Obj}{vs:Array Value}
theorem zO{hd:Value}{hn:Bool}{Q:Unit->Shared->Prop}(EI:A.frames=some (env::outer))(hl:s.heap.FunFrames B (env::outer))(hf:env.frame=some L)
  (he:s.heap.get? e=some oe) (kB:B.StaysIn s.heap) (nB:B.get? e=none) (dv:oe.data=.fields vs) (sz:1 < vs.size)
  (q:∀h',RH B (env::outer) s.heap h'->MU h' e oe.cls oe.dict (some (s.heap.objs.size,rawInt L))->Q () {s with heap:=h'}):
  wpAny M A (do let a <- frameOf env;let p <- entryPlaceOf L hn;let b <- EntryCells.newEntry hd a .none (rawInt L) .none p;setField (.ref e) 1 b) Q E s:=by
 have eF:e∉(env::outer).filterMap (·.frame):=λ z=>by
  obtain⟨_,o,ho,w⟩:=hl.mem z
  rw[he]at ho
  cases ho
  exact w vs dv
 refine A6 (wpAny_frameOf_fun EI hl hf λ g hg=>A6 (wpAny_entryPlaceOf λ pl hpl=>?_))
 unfold EntryCells.newEntry newFields
 refine A6 (n9 ?_ (hpl.sizeOk5 _ _ _ _ _))
 have e1:g.get? e=some oe:=(hg.2.1 e eF).trans he
 have k1:B.StaysIn g:=λ b o z=>(hg.2.1 b λ y=>by rw[(hl.mem y).1]at z;cases z).trans (kB b o z)
 generalize hT:({cls:=.type "traceback",dict:=none,data:=.fields ([hd,.ref L,.none,rawInt L,.none]++(if pl.isEmpty then List.replicate 6 Value.none else pl)).toArray}:Obj)=nt
 have dT:nt.data=.fields ([hd,.ref L,.none,rawInt L,.none]++(if pl.isEmpty then List.replicate 6 Value.none else pl)).toArray:=by rw[<- hT]
 have e2:=j2 (h:=g) nt e1
 refine wpAny_setField e2 dv sz (q _ ?_ ?_)
 ·have nr:∀b o,s.heap.get? b=some o->(∀vs,o.data≠.fields vs)->b≠e:=λ b o z w y=>by
   rw[y,he]at z
   cases z
   exact w vs dv
  have kp:∀b o,b≠e->g.get? b=some o->((g.push nt).update e (Obj.mapFields (·.setIfInBounds 1 (Value.ref g.objs.size)))).get? b=some o:=λ b o y z=>by
   rw[j3 _ _ y.symm]
   exact j2 _ z
  refine⟨λ b o z=>kp b o (λ y=>by rw[y,nB]at z;cases z) (k1 b o z),hl.of_keeps λ b o z w=>?_,λ b o z w=>?_⟩
  ·obtain⟨sl,y⟩:=hg.2.2 b o z
   exact⟨_,kp b _ (nr b o z w) y,rfl⟩
  ·obtain⟨sl,y⟩:=hg.2.2 b o z
   exact⟨sl,kp b _ (nr b o z w) y⟩
 ·have ne:g.objs.size≠e:=Nat.ne_of_gt (z8 e1)
  have d3:=Obj.data_mapFields dv (·.setIfInBounds 1 (Value.ref g.objs.size))
  have e3:=j4 (Obj.mapFields (·.setIfInBounds 1 (Value.ref g.objs.size))) e2 (Obj.isFreed_of_fields d3)
  have t3:=(j3 (g.push nt) (Obj.mapFields (·.setIfInBounds 1 (Value.ref g.objs.size))) ne.symm).trans (l6 g (Obj.isFreed_of_fields dT))
  rw[<- hg.1]
  exact⟨_,_,e3,Obj.cls_mapFields _ _,mf _ _,d3,by simp[sz],ne,nt,_,t3,dT,by simp⟩
end
structure XS(X:Cx)(H':Hp)(h:Heap):Prop where
 un:Un X.fs [] X.H₀ H' X.s₀.heap h
 aL:eA X.prog X.w H' h
 fn:h.FunFrames X.base X.stack
 fr:∀b∈gf X.stack,H' b=none
 am:X.A.frames=some X.stack
section
variable {X:Cx}{H':Hp}{h h':Heap}{a T L:Addr}{as:List Addr}
theorem XS.iB {oT:Obj}{ts:Array Value}(x:XS X H' h)(le:X.s₀.heap.objs.size<=T)(hn:H' T=none)(hT:h.get? T=some oT)(dT:oT.data=.fields ts)(k:∀b o,b≠T->h.get? b=some o->h'.get? b=some o):XS X H' h':=
 ⟨x.un.iB le k,x.aL.iB hn k,x.fn.of_keeps λ b o z w=>⟨o,k b o (λ y=>by rw[y,hT]at z;cases z;exact w ts dT) z,rfl⟩,x.fr,x.am⟩
theorem XS.note (x:XS X H' h)(hst:X.stack=X.env::X.outer)(ha:∀b∈as,X.s₀.heap.objs.size<=b/\H' b=none)(hL:X.env.frame=some X.env.locals)(ab:X.s₀.heap.objs.size<=X.env.locals)
  (l:RH (PySem.W.hideAll h (gf X.stack++as)) X.stack h h'):XS X H' h':=by
 have kp:∀b o,h.get? b=some o->b∉gf X.stack->b∉as->h'.get? b=some o:=λ b o q n m=>l.dr b o (PySem.W.hideAll_get _ q λ z=>(x9.mp z).elim n m)
 have sl:∀b o,h.get? b=some o->b∈gf X.stack->∃z,h'.get? b=some {o with slots:=z}:=λ b o q n=>by
  obtain⟨_,u,hu,w⟩:=x.fn.mem n
  rw[q]at hu
  cases hu
  exact l.sl b o q w
 have old:∀b o,X.s₀.heap.get? b=some o->b∉as:=λ b o q z=>absurd (z8 q) (Nat.not_lt.mpr (ha b z).1)
 have Sg:∀b o,X.s₀.heap.get? b=some o->b∉X.fs->b∉gf X.stack:=λ b o q n z=>by
  rw[hst]at z
  unfold gf at z
  rw[filterMap_cons,hL]at z
  rcases z5.mp z with rfl|z
  ·exact absurd (z8 q) (Nat.not_lt.mpr ab)
  ·exact n z
 have sub:∀b,b∈X.fs->b∈gf X.stack:=λ b z=>by
  rw[hst]
  exact mem_filterMap.mpr (by obtain⟨a,h1,h2⟩:=mem_filterMap.mp z;exact⟨a,.tail _ h1,h2⟩)
 have un:=x.un
 refine⟨⟨λ b o q n m y=>?_,λ b o q n m y=>?_,un.free,λ b o q y=>?_,un.dR,un.dN,un.eB⟩,λ b o q=>?_,?_,x.fr,x.am⟩
 ·exact kp b o (un.keep b o q n m y) (Sg b o q m) (old b o q)
 ·obtain⟨z,q'⟩:=un.slot b o q n m y
  obtain⟨z2,q2⟩:=sl b _ q' (sub b m)
  exact⟨z2,q2⟩
 ·obtain⟨o',q'⟩:=un.there b o q y
  by_cases m:b∈gf X.stack
  ·obtain⟨z2,q2⟩:=sl b _ q' m
   exact⟨_,q2⟩
  ·exact⟨_,kp b o' q' m (old b o q)⟩
 ·refine(x.aL b o q).dr (λ d u e z=>?_) (λ _ z=>z) λ _ _ z=>z
  have hd:H' d≠none:=by
   rcases e with rfl|e
   ·rw[q];intro y;cases y
   ·rw[e];intro y;cases y
  exact kp d u z (λ m=>hd (x.fr d m)) λ m=>hd (ha d m).2
 ·exact x.fn.of_keeps λ b o z w=>by
   obtain⟨z2,q2⟩:=l.sl b o z w
   exact⟨_,q2,rfl⟩
def XF(X:Cx)(E:XK)(e:Value)(s':Shared):Prop:=∃(a:Addr) (c:Value) (od:Option Addr) (H':Hp) (nt:Option (Addr×Value)),e=.ref a/\s'.os=X.s₀.os/\AllBare s'.gens/\XS X H' s'.heap/\X.s₀.heap.objs.size<=a/\H' a=none/\MU s'.heap a c od nt/\
 (∀T fl,nt=some (T,fl)->X.s₀.heap.objs.size<=T/\H' T=none/\(fl=.none\/fl=rawInt X.env.locals))/\E c od H'
theorem ua{E:XK}{M:Model}{A:Around}{Ex:Value->Shared->Prop}{e:Value}{s:Shared}{Q:Unit->Shared->Prop}(hst:X.stack=X.env::X.outer)(hL:X.env.frame=some X.env.locals)(ab:X.s₀.heap.objs.size<=X.env.locals)(hA:A.frames=some X.stack)(x:XF X E e s)
  (q:∀(s':Shared) (a:Addr) (c:Value) (od:Option Addr) (H':Hp) (T:Addr),e=.ref a->s'.os=X.s₀.os->AllBare s'.gens->XS X H' s'.heap->X.s₀.heap.objs.size<=a->H' a=none->MU s'.heap a c od (some (T,rawInt X.env.locals))->X.s₀.heap.objs.size<=T->H' T=none->E c od H'->Q () s'):
  wpAny M A (noteFrame e X.env) Q Ex s:=by
 obtain⟨a,c,od,H',nt,rfl,iW,bare,xs,le,na,⟨oe,vs,he,hc,hd,dv,tr⟩,SU,qe⟩:=x
 have aF:∀b o ws,s.heap.get? b=some o->o.data=.fields ws->b∉gf X.stack:=λ b o ws q1 q2 z=>by
  obtain⟨_,u,hu,w⟩:=xs.fn.mem z
  rw[q1]at hu
  cases hu
  exact w ws q2
 have ss:X.s₀.heap.objs.size<=s.heap.objs.size:=A1 le (Nat.le_of_lt (z8 he))
 cases nt with
 |none=>
  have tr:vs[1]?=some .none:=tr
  have fn:=xs.fn
  rw[hst]at fn hA
  unfold noteFrame
  simp only[hL]
  refine A6 (A5 he dv tr ?_)
  rw[B4 (by decide)]
  refine zO (B:=PySem.W.hideAll s.heap (gf (X.env::X.outer)++[a])) hA (PySem.W.funFrames_hide fn λ e he b hb=>x9.mpr (.inl (mem_filterMap.mpr ⟨e,he,hb⟩))) hL he (λ b o z=>PySem.W.of_hideAll _ z) (PySem.W.hideAll_none _ (by simp)) dv (Array.getElem?_eq_some_iff.mp tr).1 λ h' l t'=>?_
  rw[<- hst]at l
  rw[hc,hd]at t'
  exact q {s with heap:=h'} a c od H' s.heap.objs.size rfl iW bare (xs.note hst (as:=[a]) (λ b z=>by cases m9.mp z;exact⟨le,na⟩) hL ab l) le na t' ss (xs.aL.fresh (A2 _)) qe
 |some p=>
  obtain⟨T,fl⟩:=p
  obtain⟨h1,ne,oT,ts,gT,dT,v3⟩:=tr
  obtain⟨FQ,nT,NL⟩:=SU T fl rfl
  unfold noteFrame
  simp only[hL]
  refine A6 (A5 he dv h1 ?_)
  rw[B3 (show(Value.ref T != Value.none)=true from by simp)]
  refine A6 (A5 gT dT v3 ?_)
  rcases NL with rfl|rfl
  ·rw[B4 (show ¬((Value.none==rawInt X.env.locals)=true)from by simp[rawInt])]
   refine A6 (wpAny_setField gT dT (Array.getElem?_eq_some_iff.mp v3).1 ?_)
   generalize hg:s.heap.update T (Obj.mapFields (·.setIfInBounds 3 Value.none))=g
   have kp:∀b o,b≠T->s.heap.get? b=some o->g.get? b=some o:=λ b o y z=>by rw[<- hg,j3 _ _ y.symm];exact z
   have N9:=xs.iB FQ nT gT dT kp
   have sz:g.objs.size=s.heap.objs.size:=by rw[<- hg];exact Heap.size_update _ _ _
   have fn:=N9.fn
   rw[hst]at fn hA
   refine zO (s:={s with heap:=g}) (B:=PySem.W.hideAll g (gf (X.env::X.outer)++[a])) hA (PySem.W.funFrames_hide fn λ e he b hb=>x9.mpr (.inl (mem_filterMap.mpr ⟨e,he,hb⟩))) hL (kp a oe ne.symm he) (λ b o z=>PySem.W.of_hideAll _ z) (PySem.W.hideAll_none _ (by simp)) dv (Array.getElem?_eq_some_iff.mp h1).1 λ h' l t'=>?_
   rw[<- hst]at l
   rw[hc,hd]at t'
   exact q {s with heap:=h'} a c od H' g.objs.size rfl iW bare (N9.note hst (as:=[a]) (λ b z=>by cases m9.mp z;exact⟨le,na⟩) hL ab l) le na t' (by rw[sz];exact ss) (N9.aL.fresh (A2 _)) qe
  ·rw[B3 (by simp)]
   exact A7 (q s a c od H' T rfl iW bare xs le na ⟨oe,vs,he,hc,hd,dv,h1,ne,oT,ts,gT,dT,v3⟩ FQ nT qe)
theorem yt{M:Model}{A:Around}{Ex:Value->Shared->Prop}{s:Shared}{Q:Unit->Shared->Prop}{c fl fl':Value}{od:Option Addr}{fo:Option Addr}(Tg:fl'=fo.elim .none λ f=>rawInt f)(xs:XS X H' s.heap)(le:X.s₀.heap.objs.size<=T)(nT:H' T=none)(t:MU s.heap a c od (some (T,fl)))
  (q:∀h',XS X H' h'->MU h' a c od (some (T,fl'))->Q () {s with heap:=h'}):wpAny M A (setFlight (.ref a) fo) Q Ex s:=by
 obtain⟨oe,vs,he,hc,hd,dv,h1,ne,oT,ts,gT,dT,v3⟩:=t
 unfold setFlight
 refine A6 (A5 he dv h1 ?_)
 rw[B3 (show(Value.ref T != Value.none)=true from by simp)]
 have i3:=(Array.getElem?_eq_some_iff.mp v3).1
 refine wpAny_setField gT dT i3 (q _ ?_ ?_)
 ·exact xs.iB le nT gT dT λ b o y z=>by rw[j3 _ _ y.symm];exact z
 ·have d3:=Obj.data_mapFields dT (·.setIfInBounds 3 (fo.elim .none λ f=>rawInt f))
  refine⟨oe,vs,by rw[j3 _ _ ne];exact he,hc,hd,dv,h1,ne,_,_,j4 _ gT (Obj.isFreed_of_fields d3),d3,?_⟩
  rw[Tg]
  simp[i3]
theorem BY{E:XK}(hst:X.stack=X.env::X.outer)(hL:X.env.frame=some X.env.locals)(ab:X.s₀.heap.objs.size<=X.env.locals):PassesOwn (model X.prog X.w) X.A X.env (XF X E):=by
 intro e s x
 have hA:X.A.frames=some X.stack:=by obtain⟨_,_,_,_,_,_,_,_,xs,_⟩:=x;exact xs.am
 refine ua hst hL ab hA x λ s' a c od H' T ea iW bare xs le na t FQ nT q=>?_
 subst ea
 obtain⟨oe,vs,he,hc,hd,dv,h1,ne,oT,ts,gT,dT,v3⟩:=id t
 unfold cameBackBy
 refine A6 (A5 he dv h1 ?_)
 rw[B4 (by simp)]
 show wpAny _ _ (setFlight (.ref a) X.env.frame) _ _ _
 rw[hL]
 refine yt (fl':=rawInt X.env.locals) rfl xs FQ nT t λ h' Gq t'=>⟨a,c,od,H',some (T,rawInt X.env.locals),rfl,iW,bare,Gq,le,na,t',λ T' fl e=>?_,q⟩
 cases e
 exact⟨FQ,nT,.inr rfl⟩
theorem Gr{E:XK}{e:Value}{s:Shared}{A:Around}{Ex:Value->Shared->Prop}(hst:X.stack=X.env::X.outer)(hL:X.env.frame=some X.env.locals)(ab:X.s₀.heap.objs.size<=X.env.locals)(hA:A.frames=some X.stack)(x:XF X E e s):
  wpAny (model X.prog X.w) A (leaving X.env e) (λ _ s'=>xK X.prog X.w X.outer X.H₀ X.s₀ E e s') Ex s:=by
 unfold leaving
 refine A6 (ua hst hL ab hA x λ s' a c od H' T ea iW bare xs le na t FQ nT q=>?_)
 subst ea
 refine yt (fl':=.none) rfl xs FQ nT t λ h' Gq t'=>?_
 obtain⟨oe,vs,he,hc,hd,dv,h1,ne,oT,ts,gT,dT,v3⟩:=t'
 exact⟨a,c,od,T,H',rfl,iW,bare,Gq.un,Gq.aL,le,FQ,na,nT,⟨oe,vs,oT,ts,he,hc,hd,dv,h1,ne,gT,dT,v3⟩,q⟩
theorem xW{E:XK}(hex:X.ex=[]):gp (X.fV (XF X E)) E:=by
 intro pins σ H s e C t od J le hx q
 obtain⟨ho,_,_⟩:=J.aL e _ hx
 have un:=J.base
 have PL:(X.fV (XF X E)).ex=[]:=hex
 rw[PL]at un
 have old:∀b o,X.s₀.heap.get? b=some o->b≠e:=λ b o q z=>absurd (z8 q) (by rw[z];exact Nat.not_lt.mpr le)
 refine⟨e,.ref C,od,Kj H e,none,rfl,J.os,J.bare,⟨⟨un.keep,un.slot,λ b o q n x=>by rw[dB (old b o q)];exact un.free b o q n x,un.there,λ b xs q=>?_,λ b o u q=>?_,λ b p q=>?_⟩,λ b o q=>?_,J.stack,λ b z=>?_,J.ok.frames⟩,le,gZ,⟨_,_,ho,rfl,rfl,rfl,rfl⟩,(λ T fl e=>by cases e),q⟩
 ·have y:=un.dR b xs q
  rw[dB (λ z=>by rw[z,hx]at y;cases y)];exact y
 ·have y:=un.dN b o u q
  rw[dB (λ z=>by rw[z,hx]at y;cases y)];exact y
 ·obtain⟨mo,y⟩:=un.eB b p q
  exact⟨mo,by rw[dB (λ z=>by rw[z,hx]at y;cases y)];exact y⟩
 ·have ne:b≠e:=λ z=>by rw[z,gZ]at q;cases q
  rw[dB ne]at q
  refine(J.aL b o q).dr (λ d u y z=>z) (λ c z=>?_) λ c xs z=>?_
  ·rw[dB (λ w=>by rw[w,hx]at z;cases z)];exact z
  ·rw[dB (λ w=>by rw[w,hx]at z;cases z)];exact z
 ·by_cases y:b=e
  ·rw[y];exact gZ
  ·rw[dB y];exact J.jc b z
end
end L2
namespace L2
open PySem PySem.Spec PyProof.Rows
section
variable {P:Program}{w:World}{K:PySem.W.Frag}{mg:Str->Option Value}{base:Heap}
abbrev JC(P:Program)(w:World)(K:PySem.W.Frag)(mg:Str->Option Value)(base:Heap)(N:List Str)(qual:Str)(scope:Scope)(f:Addr)(cd:Value)(A:Around)(outer:List Env)(s:Shared)(H:Hp)(E:XK):Cx:=
 (lr (xK P w) P w K mg base N qual scope f cd A outer s H E).fV (XF (lr (xK P w) P w K mg base N qual scope f cd A outer s H E) E)
theorem ff.Sd {x qual:Str}{st:Stmt}{f:Addr}{fd:FuncData}{N ps:List Str}{k:Nat}{sp:Sp}(F:ff K x qual st f fd)(S:aH N ps (aj st))(len:∀vs H Q E,sp vs H Q E->vs.length=ps.length)
  (dW:∀(bW:Value) (A:Around) (outer:List Env) (s:Shared) (H:Hp) (vs:List V) (Q:VK) (E:XK),bA k (A.deeper (envOfC qual (aj st) s.heap.objs.size f bW))->sp vs H Q E->
   ∃t,lB (JC P w K mg base N qual (aj st) f bW A outer s H E) (bN st) t/\t {nx:=λ _ H'=>Q .a_ H',rt:=Q} (start N vs) H):bw P w K mg base (xK P w) (k+1) f fd ps sp:=by
 obtain⟨oc,od,kV,doc,pm,an,bW,ct,wB,rfl,lk,hcd⟩:=F.ex
 refine F_ lk hcd S len λ A outer s H vs Q E hr Aw=>?_
 obtain⟨t,h,q⟩:=dW bW A outer s H vs Q E hr Aw
 refine⟨t,λ pins s' σ H' D I ht=>?_,q⟩
 exact A9 (h pins s' σ H' D (I.fV _) ht) (λ _ _ z=>z.dm) λ e s2 z=>Gr rfl rfl (A2 _) I.ok.frames z
theorem Bl{N:List Str}{qual:Str}{scope:Scope}{f:Addr}{cd:Value}{A:Around}{outer:List Env}{s:Shared}{H:Hp}{E:XK}:
  PassesOwn (model P w) (JC P w K mg base N qual scope f cd A outer s H E).A (JC P w K mg base N qual scope f cd A outer s H E).env (JC P w K mg base N qual scope f cd A outer s H E).xe:=BY rfl rfl (A2 _)
theorem xr{N:List Str}{qual:Str}{scope:Scope}{f:Addr}{cd:Value}{A:Around}{outer:List Env}{s:Shared}{H:Hp}{E:XK}:gp (JC P w K mg base N qual scope f cd A outer s H E) E:=xW rfl
end
end L2
namespace L3
open PySem PySem.Spec PyProof.Rows L2
abbrev BU:=Addr->List (Str×D)->Mem->Prop
def kQ(K:PySem.W.Frag)(H:Hp)(ds:List (Str×D))(fs:List (Str×V)):Prop:=Paired (λ(p:Str×D) (q:Str×V)=>p.1=q.1/\Dat K H p.2 q.2) ds fs
def RN(K:PySem.W.Frag)(E2:BU):XK:=λ c od H=>∃C dx fs ds M,c=.ref C/\od=some dx/\H dx=some (XD dx fs)/\kQ K H ds fs/\RelM K H M/\E2 C ds M
def mO(K:PySem.W.Frag)(H:Hp)(E2:BU)(E:XK):Prop:=∀C dx fs ds H' M',H' dx=some (XD dx fs)->kQ K H' ds fs->RelM K H' M'->ai H H'->E2 C ds M'->E (.ref C) (some dx) H'
theorem Un.text {fs ex:List Addr}{H H':Hp}{h h':Heap}(u:Un fs ex H H' h h'):ai H H':=⟨u.dR,u.dN⟩
section
variable {X:Cx}{E:XK}{E2:BU}
theorem vZ(hs:gp X E)(k:mO X.K X.H₀ E2 E):gp X (RN X.K E2):=by
 intro pins σ H s e C t od J le hx ⟨C',dx,fs,ds,M,e1,e2,hd,fr,rm,q⟩
 cases e1
 subst e2
 refine hs pins σ H s e C t (some dx) J le hx (k C dx fs ds _ M hd fr rm ?_ q)
 have u:=Un.text J.base
 exact⟨λ b xs z=>by have y:=u.tup b xs z;rw[dB (λ w=>by rw[w,hx]at y;cases y)];exact y,λ b o v z=>by have y:=u.jm b o v z;rw[dB (λ w=>by rw[w,hx]at y;cases y)];exact y⟩
end
def xh{α:Type}(ns:List Str)(us:List α):List (Str×α):=(ns.zip us).reverse
theorem AO{K:PySem.W.Frag}{H:Hp}:∀(ns:List Str) {ds:List D} {us:List V},az K H ds us->kQ K H (xh ns ds) (xh ns us):=by
 have app:∀{a b:List (Str×D)} {c d:List (Str×V)},kQ K H a c->kQ K H b d->kQ K H (a++b) (c++d):=by
  intro a b c d h1 h2
  induction h1 with
  |nil=>exact h2
  |cons p _ ih=>exact .cons p ih
 intro ns
 induction ns with
 |nil=>intro ds us _;exact .nil
 |cons n ns ih=>
  intro ds us h
  cases ds with
  |nil=>cases(ao.mp h);exact .nil
  |cons d ds=>
   obtain⟨u,r,rfl,hu,hr⟩:=af.mp h
   unfold xh
   rw[zip_cons_cons,zip_cons_cons,reverse_cons,reverse_cons]
   exact app (ih hr) (.cons ⟨rfl,hu⟩ .nil)
def Oo(C:Addr)(ns:List Str):Sp:=λ vs H Q _=>∃e t us,vs=.ref e::us/\us.length=ns.length/\H e=some (XO e C none t)/\∀t' dx,H dx=none->dx≠e->Q .a_ (upd (upd H e (XO e C (some dx) t')) dx (XD dx (xh ns us)))
theorem EW{H:Hp}{e dx:Addr}{a b:HO}(h:H e=none)(ne:dx≠e):Kj (upd (upd H e a) dx b) e=upd H dx b:=by
 funext c
 by_cases z:c=e
 ·rw[z,gZ,av ne.symm,h]
 ·rw[dB z]
  by_cases y:c=dx
  ·rw[y,aI,aI]
  ·rw[av y,av y,av z]
section
variable {X:Cx}{E:XK}{E2:BU}{C fI:Addr}{k:Nat}{fd:FuncData}{ps ns:List Str}{x:Str}{np aZ pos:Pos}{a:Expr}{as:List Expr}{t:eW}
def sh(C:Addr)(ns:List Str)(E2:BU)(t:eW):fS:=λ _ δ M=>t δ M λ ds M1=>ds.length=ns.length/\ns.length<=900/\E2 C (xh ns ds) M1
theorem zb(hs:gp X E)(kx:mO X.K X.H₀ E2 E)(hc:X.calm=true)(hg:Gl X x)(hm:X.mg x=some (.ref C))(ec:t_ X.K C fI)(F:bw X.prog X.w X.K X.mg X.base eP k fI fd ps (Oo C ns))(hr:bA (k+1) X.A)(hb:Binds X.K fd ps [])
  (ha:QA X (a::as) t) (hdb:(x==("__debug__":Str))=false:=by decide) (he:starEach (a::as) X.env=(false,eval a X.env)::starEach as X.env:=by rfl) (hpl:(backTo aZ (starEach as X.env)).any (·.1)=false:=by rfl):
  QS X (.Raise (some (.Call (.Name x np) (a::as) [] aZ)) none pos) (sh C ns E2 t):=
 f' (zm (vZ hs kx) hc hg hm ec F hr hb ha hdb he hpl) λ D σ H ⟨δ,M,D2,hs,hm,q,kk⟩=>by
  refine⟨δ,M,_,hs,hm,q,λ vs H1 ds M1 hd bU t1 ⟨hl,kT,q1⟩=>⟨by rw[hd.length,hl];omega,λ e t0 fe=>?_⟩⟩
  refine⟨e,t0,vs,rfl,by rw[hd.length,hl],aI,λ t' dx Rw ne=>⟨rfl,some dx,t',?_,?_⟩⟩
  ·rw[av ne.symm,m_,aI]
  ·have Rv:H1 dx=none:=by rw[av ne]at Rw;exact Rw
   rw[m_,EW fe ne]
   exact⟨C,dx,_,_,M1,rfl,rfl,aI,AO ns (az.mono (ai.laid Rv) _ hd),bU.laid Rv,q1⟩
end
end L3
namespace L2
open PySem PySem.Spec PyProof.Rows
theorem lY:∀(cs:List Addr) {ah:List Value},Vals (cs.map V.ref) ah->ah=cs.map Value.ref
 |[],_,rv=>by cases rv;rfl
 |c::cs,_,rv=>by
  obtain⟨w,ws,rfl,sk,r4⟩:=dP rv
  obtain rfl:w=Value.ref c:=sk
  rw[lY cs r4]
  rfl
section
variable {X:Cx}{x:Str}{pos:Pos}{C:Addr}
def Cc(C:Addr):TE:=λ _ H Q=>Q (.ref C) H
theorem dJ(hg:Gl X x)(hm:X.mg x=some (.ref C))(hdb:(x==("__debug__":Str))=false:=by decide):PE X (.Name x pos) (Cc C):=λ pins s σ H Q I h=>eJ I hg hm ⟨.ref C,H,I,rfl,h⟩ hdb
theorem xw:b_ X (.builtin "isinstance") (λ xs H Q=>∃(a C dx:Addr) (fs:List (Str×V)) (c:Addr) (b:Bool),xs=[.ref a,.ref c]/\H a=some (XT a C (some dx))/\H dx=some (XD dx fs)/\lC X.K C/\PySem.W.kitOne X.K (.ref C) (.ref c)=some b/\Q (.bl b) H):=by
 intro pins s σ H xs us Q I r ⟨a,C,dx,fs,c,b,e,h1,h2,ei,k,q⟩
 subst e
 obtain⟨u,Oa,rfl,ru,r2⟩:=dP r
 obtain⟨u2,rfl,r3⟩:=vals1 r2
 obtain rfl:u=Value.ref a:=ru
 obtain rfl:u2=Value.ref c:=r3
 exact Eo I h1 h2 ei k λ tk=>⟨.bl b,H,I.tok tk,rfl,q⟩
theorem tV:b_ X (.builtin "isinstance") (λ xs H Q=>∃(a C dx:Addr) (fs:List (Str×V)) (tp:Addr) (cs:List Addr) (b:Bool),xs=[.ref a,.ref tp]/\H a=some (XT a C (some dx))/\H dx=some (XD dx fs)/\lC X.K C/\H tp=some (.tup (cs.map V.ref))/\PySem.W.kitAny X.K (.ref C) (cs.map Value.ref)=some b/\Q (.bl b) H):=by
 intro pins s σ H xs us Q I r ⟨a,C,dx,fs,tp,cs,b,e,h1,h2,ei,ht,k,q⟩
 subst e
 obtain⟨u,Oa,rfl,ru,r2⟩:=dP r
 obtain⟨u2,rfl,r3⟩:=vals1 r2
 obtain rfl:u=Value.ref a:=ru
 obtain rfl:u2=Value.ref tp:=r3
 obtain⟨_,ah,rv,o,ho,hc,hd⟩:=I.aL tp _ ht
 have Uc:ah=cs.map Value.ref:=lY cs rv
 subst Uc
 obtain⟨n,hd⟩:=hd
 obtain⟨oc,od,da,sl⟩:=o
 dsimp only at hc hd
 subst hc hd
 exact Ak I h1 h2 ei ho k λ tk=>⟨.bl b,H,I.tok tk,rfl,q⟩
end
end L2
namespace L3
open PySem PySem.Spec PyProof.Rows L2
abbrev BW:=List D->Mem->bq->BU->Prop
def pz(K:PySem.W.Frag)(sp:BW):Sp:=λ vs H Q E=>∃ds M Q2 E2,az K H ds vs/\RelM K H M/\sp ds M Q2 E2/\f_ K H Q2 Q/\mO K H E2 E
structure xI(P:Program)(w:World)(K:PySem.W.Frag)(mg:Str->Option Value)(base:Heap)(k:Nat)(x:Str)(ps:List Str)(sp:BW):Prop where
 ex:∃(f:Addr) (fd:FuncData),bw P w K mg base (xK P w) k f fd ps (pz K sp)/\mg x=some (.ref f)/\PySem.W.keepIn K (.ref f)=true/\Binds K fd ps []
section
variable {P:Program}{w:World}{K:PySem.W.Frag}{mg:Str->Option Value}{base:Heap}
theorem OO{x qual:Str}{st:Stmt}{f:Addr}{fd:FuncData}{N ps:List Str}{k:Nat}{sp:BW}(F:ff K x qual st f fd)(S:aH N ps (aj st))(len:∀ds M Q E,sp ds M Q E->ds.length=ps.length)
  (dW:∀(bW:Value) (A:Around) (outer:List Env) (s:Shared) (H:Hp) (E:XK) (ds:List D) (M:Mem) (Q:bq) (E2:BU),bA k (A.deeper (PyProof.Rows.envOfC qual (aj st) s.heap.objs.size f bW))->sp ds M Q E2->mO K H E2 E->
   ∃t,BF (JC P w K mg base N qual (aj st) f bW A outer s H E) (bN st) t/\t {nx:=λ _ M'=>fin2 Q .a_ M',rt:=fin2 Q} (eD N ds) M):bw P w K mg base (xK P w) (k+1) f fd ps (pz K sp):=by
 refine F.Sd S (λ vs H Q E h=>?_) (λ bW A outer s H vs Q E hr h=>?_)
 ·obtain⟨ds,M,Q2,E2,hd,_,hs,_⟩:=h
  rw[hd.length]
  exact len ds M Q2 E2 hs
 ·obtain⟨ds,M,Q2,E2,hd,hm,hs,kk,kx⟩:=h
  obtain⟨t,ht,q⟩:=dW bW A outer s H E ds M Q2 E2 hr hs kx
  refine⟨_,ht,eD N ds,M,_,lR hd,hm,q,⟨?_,?_,?_,?_⟩⟩
  ·exact λ σ' H' δ' M' _ cW t' ⟨xS,s,q⟩=>kk _ H' .a_ xS (cQ.mpr rfl) (cW.sub s) t' q
  ·exact λ v H' d M' fQ cW t' ⟨xS,s,q⟩=>kk v H' d xS fQ (cW.sub s) t' q
  ·exact λ σ' H' δ' M' _ cW t' q=>q
  ·exact λ σ' H' δ' M' _ cW t' q=>q
end
end L3
namespace L3
open PySem PySem.Spec PyProof.Rows L2
theorem bD.unset {K:PySem.W.Frag}{H:Hp}{δ:cD}{σ:L2.St}(h:bD K H δ σ){i:Nat}{o:Option V}:bD K H (δ.set i none) (σ.set i o):=by
 refine⟨by rw[length_set,length_set];exact h.len,λ j e hj=>?_⟩
 by_cases ou:i=j
 ·subst ou
  have hi:i < δ.length:=by
   have:=(g9.mp hj).1
   simpa using this
  rw[getElem?_set_self hi]at hj
  cases hj
 ·rw[getElem?_set_ne ou]at hj
  obtain⟨u,q,w⟩:=h.get j e hj
  exact⟨u,by rw[getElem?_set_ne ou];exact q,w⟩
def cJ.but (D:cJ)(i:Nat):cJ:={nx:=λ δ M=>D.nx (δ.set i none) M,rt:=D.rt,bk:=λ δ M=>D.bk (δ.set i none) M,ct:=λ δ M=>D.ct (δ.set i none) M}
theorem kQ.mono {K:PySem.W.Frag}{H H':Hp}(t:ai H H'){ds:List (Str×D)}{fs:List (Str×V)}(h:kQ K H ds fs):kQ K H' ds fs:=by
 induction h with
 |nil=>exact .nil
 |cons p _ ih=>exact .cons ⟨p.1,Dat.mono t _ p.2⟩ ih
def vI(X:Cx)(i:Nat)(Fx:List Stmt)(h2:Addr->List (Str×D)->fS):Prop:=∃th:Addr->TS,(∀a,lB (X.Es a) Fx (th a))/\
 ∀(a C dx:Addr) (fs:List (Str×V)) (ds:List (Str×D)) (D:Ends) (D2:cJ) (σ:L2.St) (H:Hp) (δ:cD) (M:Mem),σ[i]?=some (some (.ref a))->H a=some (XT a C (some dx))->H dx=some (XD dx fs)->kQ X.K H ds fs->bD X.K H δ σ->RelM X.K H M->h2 C ds D2 δ M->mP X.K H D2 D->th a D σ H
section
variable {X:Cx}{k:Nat}{ps:List Str}{sp:BW}{x:Str}{p pos:Pos}{e:Expr}{es:List Expr}{t:eW}
def yy(K:PySem.W.Frag)(sp:BW)(CE:Addr)(i j:Nat)(h2:Addr->List (Str×D)->fS)(t:eW):fS:=λ D δ M=>i < δ.length/\t δ M λ ds M1=>sp ds M1 (λ d M2=>D.nx (δ.set j (some d)) M2) (λ C fs M2=>lE K C/\vY K C CE=true/\h2 C fs (D.but i) (δ.set i none) M2)
theorem C9{y n xc:Str}{i j:Nat}{py np tj fm jC:Pos}{b0:Stmt}{suite:List Stmt}{h2:Addr->List (Str×D)->fS}{CE:Addr}(hE:∀v s,X.xe v s->False)(hst:X.stack=X.env::X.outer/\X.env.frame=some X.env.locals)(hN:X.N.Nodup)
  (hj:X.N[j]?=some y) (hy:Loc X.env.scope y) (hi:X.N[i]?=some n) (hk:X.env.scope.names.lookup n=some .local)
  (d:xI X.prog X.w X.K X.mg X.base k x ps sp) (hr:bA k X.A) (hg:Gl X x) (ha:QA X (e::es) t) (Mn:Gl X xc) (Md:X.mg xc=some (.ref CE)) (hC:lE X.K CE) (hs:vI X i (b0::suite) h2)
  (hsw:swapsWith (.Call (.Name x p) (e::es) [] pos) (some (.Name y py)) fm.line X.env=pure false:=by rfl) (hf:X.fn y=true\/X.env.scope.names.lookup y=some .local:=by first|exact .inl rfl|exact .inr rfl|assumption)
  (hdb:(x==("__debug__":Str))=false:=by decide) (AH:(xc==("__debug__":Str))=false:=by decide) (he:starEach (e::es) X.env=(false,eval e X.env)::starEach es X.env:=by rfl) (hpl:(backTo pos (starEach es X.env)).any (·.1)=false:=by rfl):
  QS X (.Try [.Assign [.Name y py] (.Call (.Name x p) (e::es) [] pos) fm] [.ExceptHandler (some (.Name xc np)) (some n) (b0::suite) tj] [] [] jC) (yy X.K sp CE i j h2 t):=by
 obtain⟨f,fd,F,hm,kp,b⟩:=d.ex
 obtain⟨th,SG,hl⟩:=hs
 refine f' (Dr hE hst hN hj hy hi hk F hr hg hm kp b ha Mn Md hC SG hsw hf hdb AH he hpl) λ D σ H ⟨δ,M,D2,hs,hm,⟨li,q⟩,kk⟩=>?_
 refine⟨δ,M,_,hs,hm,q,λ vs H1 ds M1 hd bU t1 q1=>⟨ds,M1,_,_,hd,bU,q1,λ v H2 d M2 hd2 mw t2 q2=>?_,λ C dx fs Uh H2 M2 hx fr rm t2 ⟨ec,sc,q2⟩=>⟨C,rfl,ec,sc,λ a na=>?_⟩⟩⟩
 ·exact kk.nx _ H2 _ M2 ((hs.mono (t1.trans t2)).set hd2) mw (t1.trans t2) q2
 ·have ne:dx≠a:=λ z=>by rw[z,na]at hx;cases hx
  have tl:ai H2 (upd H2 a (XT a C (some dx))):=ai.laid na
  have hlen:=hs.len
  refine hl a C dx fs Uh (L2.Ends.but D i) (cJ.but D2 i) _ _ (δ.set i none) M2 (getElem?_set_self (by rw[<- hlen];exact li)) aI (by rw[av ne];exact hx) (fr.mono tl) (bD.unset (hs.mono ((t1.trans t2).trans tl))) (rm.laid na) q2 ⟨?_,?_,?_,?_⟩
  ·exact λ σ' H' δ' M' cI cW t' q'=>kk.nx _ H' _ M' cI.unset cW ((t1.trans t2).trans (tl.trans t')) q'
  ·exact λ v H' d M' fQ cW t' q'=>kk.rt v H' d M' fQ cW ((t1.trans t2).trans (tl.trans t')) q'
  ·exact λ σ' H' δ' M' cI cW t' q'=>kk.bk _ H' _ M' cI.unset cW ((t1.trans t2).trans (tl.trans t')) q'
  ·exact λ σ' H' δ' M' cI cW t' q'=>kk.ct _ H' _ M' cI.unset cW ((t1.trans t2).trans (tl.trans t')) q'
end
end L3
namespace L4
open PySem PySem.Spec L2 L3
section
variable {X:Cx}{e:Expr}{te:bV}{tt:dh}
theorem Kq(h:WE X.uN e te):WE X e te:=⟨PE.uN h.h⟩
theorem Gu(h:WT X.uN e tt):WT X e tt:=⟨PT.uN h.h⟩
end
structure Gn(P:Program)(w:World)(K:PySem.W.Frag)(mg:Str->Option Value)(base:Heap)(k:Nat)(x:Str)(C:Addr)(ns:List Str):Prop where
 nm:mg x=some (.ref C)
 ex:∃(fI:Addr) (fd:FuncData) (ps:List Str),t_ K C fI/\bw P w K mg base eP k fI fd ps (Oo C ns)/\Binds K fd ps []
section
variable {X:Cx}{E:XK}{E2:BU}{C:Addr}{k:Nat}{ps ns:List Str}{x:Str}{p np aZ pos:Pos}{a e:Expr}{as es:List Expr}{t:eW}{sp:BW}
theorem ya(hs:gp X E)(kx:mO X.K X.H₀ E2 E)(hc:X.calm=true)(hg:Gl X x)(er:Gn X.prog X.w X.K X.mg X.base k x C ns)(hr:bA (k+1) X.A)(ha:WA X (a::as) t)(hdb:(x==("__debug__":Str))=false:=by decide)
  (he:starEach (a::as) X.env=(false,eval a X.env)::starEach as X.env:=by rfl) (hpl:(backTo aZ (starEach as X.env)).any (·.1)=false:=by rfl):
  WS X (.Raise (some (.Call (.Name x np) (a::as) [] aZ)) none pos) (sh C ns E2 t):=by
 obtain⟨fI,fd,ps,ec,F,b⟩:=er.ex
 exact⟨zb hs kx hc hg er.nm ec F hr b ha.h hdb he hpl⟩
theorem BZ{y n xc:Str}{i j:Nat}{py np tj fm jC:Pos}{b0:Stmt}{suite:List Stmt}{h2:Addr->List (Str×D)->fS}{CE:Addr}(hE:∀v s,X.xe v s->False)(hst:X.stack=X.env::X.outer/\X.env.frame=some X.env.locals)(hN:X.N.Nodup)
  (hj:X.N[j]?=some y) (hy:Loc X.env.scope y) (hi:X.N[i]?=some n) (hk:X.env.scope.names.lookup n=some .local)
  (d:xI X.prog X.w X.K X.mg X.base k x ps sp) (hr:bA k X.A) (hg:Gl X x) (ha:WA X (e::es) t) (Mn:Gl X xc) (Md:X.mg xc=some (.ref CE)) (hC:lE X.K CE) (hs:vI X i (b0::suite) h2)
  (hsw:swapsWith (.Call (.Name x p) (e::es) [] pos) (some (.Name y py)) fm.line X.env=pure false:=by rfl) (hf:X.fn y=true\/X.env.scope.names.lookup y=some .local:=by first|exact .inl rfl|exact .inr rfl|assumption)
  (hdb:(x==("__debug__":Str))=false:=by decide) (AH:(xc==("__debug__":Str))=false:=by decide) (he:starEach (e::es) X.env=(false,eval e X.env)::starEach es X.env:=by rfl) (hpl:(backTo pos (starEach es X.env)).any (·.1)=false:=by rfl):
  WS X (.Try [.Assign [.Name y py] (.Call (.Name x p) (e::es) [] pos) fm] [.ExceptHandler (some (.Name xc np)) (some n) (b0::suite) tj] [] [] jC) (yy X.K sp CE i j h2 t):=
 ⟨C9 hE hst hN hj hy hi hk d hr hg ha.h Mn Md hC hs hsw hf hdb AH he hpl⟩
end
theorem Sb{P:Program}{w:World}{K:PySem.W.Frag}{mg:Str->Option Value}{base:Heap}{x qual:Str}{st:Stmt}{f:Addr}{fd:FuncData}{N ps:List Str}{k:Nat}{sp:BW}(F:ff K x qual st f fd)(S:aH N ps (aj st))(len:∀ds M Q E,sp ds M Q E->ds.length=ps.length)
  (dW:∀(bW:Value) (A:Around) (outer:List Env) (s:Shared) (H:Hp) (E:XK) (ds:List D) (M:Mem) (Q:bq) (E2:BU),bA k (A.deeper (PyProof.Rows.envOfC qual (aj st) s.heap.objs.size f bW))->sp ds M Q E2->mO K H E2 E->
   ∃t,BV (JC P w K mg base N qual (aj st) f bW A outer s H E) (bN st) t/\t {nx:=λ _ M'=>fin2 Q .a_ M',rt:=fin2 Q} (eD N ds) M):bw P w K mg base (xK P w) (k+1) f fd ps (pz K sp):=
 L3.OO F S len λ bW A outer s H E ds M Q E2 hr h kx=>by
  obtain⟨t,ht,q⟩:=dW bW A outer s H E ds M Q E2 hr h kx
  exact⟨t,ht.h,q⟩
theorem yK{C:Addr}{ns:List Str}{E2:BU}{t:eW}{D:cJ}{δ:cD}{M:Mem}(h:t δ M λ ds M1=>ds.length=ns.length/\ns.length<=900/\E2 C (xh ns ds) M1):sh C ns E2 t D δ M:=h
theorem Cr{K:PySem.W.Frag}{sp:BW}{CE:Addr}{i j:Nat}{h2:Addr->List (Str×D)->fS}{t:eW}{D:cJ}{δ:cD}{M:Mem}(li:i < δ.length)(h:t δ M λ ds M1=>sp ds M1 (λ d M2=>D.nx (δ.set j (some d)) M2) (λ C fs M2=>lE K C/\vY K C CE=true/\h2 C fs (cJ.but D i) (δ.set i none) M2)):yy K sp CE i j h2 t D δ M:=⟨li,h⟩
end L4
namespace L3
open PySem PySem.Spec PyProof.Rows L2
def ui:List Addr->TA
 |[]=>kW
 |c::cs=>dq (Cc c) (ui cs)
def QY(X:Cx)(i j:Nat)(o w fld:Str)(cH:Addr)(cs:List Addr):TS:=
 Ku (yg (JV (RF X.K) (Kw (dq (Cb (dq (tC (.str o)) kW)) (dq (Cb (dq (tC (.str w)) (dq (QX X.K (ye i) fld) kW))) kW)))
   (GN (λ xs H Q=>(∃i,xs=[.int i]/\Q (.int i) H)\/∃k,xs=[.bl k]/\Q (.int (if k then 1 else 0)) H) (dq (GN (λ xs H Q=>∃(a C dx:Addr) (fs:List (Str×V)) (c:Addr) (b:Bool),xs=[.ref a,.ref c]/\H a=some (XT a C (some dx))/\H dx=some (XD dx fs)/\lC X.K C/\PySem.W.kitOne X.K (.ref C) (.ref c)=some b/\Q (.bl b) H) (dq (ye i) (dq (Cc cH) kW))) kW))) (cX j))
  (Kx (tB (GN (λ xs H Q=>∃(a C dx:Addr) (fs:List (Str×V)) (tp:Addr) (cs:List Addr) (b:Bool),xs=[.ref a,.ref tp]/\H a=some (XT a C (some dx))/\H dx=some (XD dx fs)/\lC X.K C/\H tp=some (.tup (cs.map V.ref))/\PySem.W.kitAny X.K (.ref C) (cs.map Value.ref)=some b/\Q (.bl b) H) (dq (ye i) (dq (Cb (ui cs)) kW)))) yf Fv)
theorem pE:∀(cs:List Addr) {σ:L2.St} {H:Hp} {Q:List V->Hp->Prop},Q (cs.map V.ref) H->ui cs σ H Q
 |[],_,_,_,q=>q
 |c::cs,σ,H,Q,q=>by
  show dq (Cc c) (ui cs) σ H Q
  exact pE cs (Q:=λ xs H2=>Q (.ref c::xs) H2) q
set_option tactic.hygienic true in
theorem KD{X:Cx}{i j:Nat}{o w fld:Str}{C cH:Addr}{cs:List Addr}(ne:i≠j)(Kd:cs.length<=900)(ei:lC X.K C)(eg:JR X.K C fld)(kH:PySem.W.kitOne X.K (.ref C) (.ref cH)=some true)(kA:PySem.W.kitAny X.K (.ref C) (cs.map Value.ref)=some false)
  {a C' dx:Addr} {fs:List (Str×V)} {ds:List (Str×D)} {D:Ends} {D2:cJ} {σ:L2.St} {H:Hp} {δ:cD} {M:Mem} (hσ:σ[i]?=some (some (.ref a))) (h1:H a=some (XT a C' (some dx))) (h2:H dx=some (XD dx fs)) (fr:kQ X.K H ds fs) (sr:bD X.K H δ σ) (rm:RelM X.K H M)
  (hh:∃v,C'=C/\ds=[(fld,v)]/\D2.nx (δ.set j (some (.tup [.str w,v]))) M) (ct:mP X.K H D2 D):QY X i j o w fld cH cs D σ H:=by
 obtain⟨v,rfl,rfl,q⟩:=hh
 obtain⟨u,rfl,hu⟩:∃u,fs=[(fld,u)]/\Dat X.K H v u:=by
  cases fr with
  |cons p r=>cases r with
   |nil=>rename_i q;obtain⟨n,u⟩:=q;obtain⟨e,z⟩:=p;cases e;exact⟨u,rfl,z⟩
 refine⟨(Nat.le_of_ble_eq_true rfl:(1:Nat)<=sizeLine),λ p1 f1=>?_⟩
 have a1:upd H p1 (.tup [V.str o]) a=some (XT a C' (some dx)):=by rw[av (aD h1 f1)];exact h1
 have b1:upd H p1 (.tup [V.str o]) dx=some (XD dx [(fld,u)]):=by rw[av (aD h2 f1)];exact h2
 have t1:ai H (upd H p1 (.tup [V.str o])):=ai.laid f1
 have m1:=rm.laid (o:=.tup [V.str o]) f1
 generalize upd H p1 (.tup [V.str o])=H1 at*
 refine⟨.ref a,hσ,a,C',dx,_,u,rfl,a1,b1,eg,by simp[List.lookup],(Nat.le_of_ble_eq_true rfl:(2:Nat)<=sizeLine),λ p2 f2=>?_⟩
 have a2:upd H1 p2 (.tup [V.str w,u]) a=some (XT a C' (some dx)):=by rw[av (aD a1 f2)];exact a1
 have b2:upd H1 p2 (.tup [V.str w,u]) dx=some (XD dx [(fld,u)]):=by rw[av (aD b1 f2)];exact b1
 have t2:ai H1 (upd H1 p2 (.tup [V.str w,u])):=ai.laid f2
 have m2:=m1.laid (o:=.tup [V.str w,u]) f2
 have e2:upd H1 p2 (.tup [V.str w,u]) p2=some (.tup [V.str w,u]):=aI
 generalize upd H1 p2 (.tup [V.str w,u])=H2 at*
 refine⟨(Nat.le_of_ble_eq_true rfl:(2:Nat)<=sizeLine),λ p3 f3=>?_⟩
 have a3:upd H2 p3 (.lst [V.ref p1,V.ref p2]) a=some (XT a C' (some dx)):=by rw[av (aD a2 f3)];exact a2
 have b3:upd H2 p3 (.lst [V.ref p1,V.ref p2]) dx=some (XD dx [(fld,u)]):=by rw[av (aD b2 f3)];exact b2
 have t3:ai H2 (upd H2 p3 (.lst [V.ref p1,V.ref p2])):=ai.laid f3
 have m3:=m2.laid (o:=.lst [V.ref p1,V.ref p2]) f3
 have e3:upd H2 p3 (.lst [V.ref p1,V.ref p2]) p3=some (.lst [V.ref p1,V.ref p2]):=aI
 have g3:upd H2 p3 (.lst [V.ref p1,V.ref p2]) p2=some (.tup [V.str w,u]):=by rw[av (aD e2 f3)];exact e2
 generalize upd H2 p3 (.lst [V.ref p1,V.ref p2])=H3 at*
 have jj:(σ.set j (some (.ref p2)))[i]?=some (some (.ref a)):=by rw[getElem?_set_ne (B2 ne)];exact hσ
 refine⟨.ref a,hσ,a,C',dx,_,cH,true,rfl,a3,b3,ei,kH,.inr ⟨true,rfl,[V.ref p1,V.ref p2],.ref p2,.inl (.inl (.inl e3)),rfl,.ref a,jj,pE cs ?_⟩⟩
 refine⟨by rw[x8];exact A1 Kd (Nat.le_of_ble_eq_true rfl),λ p4 f4=>?_⟩
 have a4:upd H3 p4 (.tup (cs.map V.ref)) a=some (XT a C' (some dx)):=by rw[av (aD a3 f4)];exact a3
 have b4:upd H3 p4 (.tup (cs.map V.ref)) dx=some (XD dx [(fld,u)]):=by rw[av (aD b3 f4)];exact b3
 have t4:ai H3 (upd H3 p4 (.tup (cs.map V.ref))):=ai.laid f4
 have m4:=m3.laid (o:=.tup (cs.map V.ref)) f4
 have e4:upd H3 p4 (.tup (cs.map V.ref)) p4=some (.tup (cs.map V.ref)):=aI
 have g4:upd H3 p4 (.tup (cs.map V.ref)) p2=some (.tup [V.str w,u]):=by rw[av (aD g3 f4)];exact g3
 generalize upd H3 p4 (.tup (cs.map V.ref))=H4 at*
 refine⟨a,C',dx,_,p4,cs,false,rfl,a4,b4,ei,e4,kA,false,rfl,?_⟩
 have tt:=((t1.trans t2).trans t3).trans t4
 show D.nx (σ.set j (some (V.ref p2))) H4
 refine ct.nx _ H4 _ M ((sr.mono tt).set (aE.mpr ⟨p2,_,rfl,.inl (.inl g4),?_⟩)) m4 tt q
 unfold az
 refine⟨_,_,rfl,aG.mpr rfl,?_⟩
 unfold az
 refine⟨_,_,rfl,Dat.mono tt _ hu,?_⟩
 unfold az
 rfl
end L3
namespace L2
open PySem PySem.Spec PySem.W PySem.Calls PyProof.Rows L5
theorem Au:∀(vs:List Value) (ns:List Int),vs.length=ns.length->(∀(j:Nat) (v:Value) (n:Int),vs[j]?=some v->ns[j]?=some n->∃t:Tok,v=Value.int n t)->IntsAre vs ns
 |[],[],_,_=>.nil
 |[],_::_,h,_=>by cases h
 |_::_,[],h,_=>by cases h
 |v::vs,n::ns,h,k=>by
  obtain⟨t,rfl⟩:=k 0 v n rfl rfl
  exact .cons n t (Au vs ns (by simpa using h) λ j v n a b=>k (j+1) v n (by simpa using a) (by simpa using b))
theorem qB{vs:List Value}{ns:List Int}(h:IntsAre vs ns):Vals (ns.map V.int) vs:=by
 induction h with
 |nil=>exact .nil
 |cons n t _ ih=>exact .cons ⟨t,rfl⟩ ih
theorem qC:∀{ns:List Int} {vs:List Value},Vals (ns.map V.int) vs->IntsAre vs ns
 |[],_,h=>by cases h;exact .nil
 |n::ns,_,h=>by
  obtain⟨u,us,rfl,ru,r⟩:=dP h
  obtain⟨t,rfl⟩:=ru
  exact .cons n t (qC r)
section
variable {X:Cx}
theorem q_(hc:X.calm=true):b_ X (.builtin "sorted") (λ xs H Q=>∃(a:Addr) (kvs:List (Key×V)) (ns:List Int),xs=[.ref a]/\H a=some (.dK kvs)/\kvs.map (·.1)=ns.map Sum.inl/\ns.length < 64/\∀(dD:List Int) (p:Addr),dD.Perm ns->dD.Pairwise (·<=·)->H p=none->Q (.ref p) (upd H p (.lst (dD.map V.int)))):=by
 intro pins s σ H xs us Q I r ⟨a,kvs,ns,e,hd,hk,qE,q⟩
 subst e
 obtain⟨u,rfl,rx⟩:=vals1 r
 cases(show u=Value.ref a from rx)
 obtain⟨z,nm,vs,rel,dd⟩:=Ge I.aL hd
 obtain⟨ep,Rr⟩:=dd.dictAt
 have len:vs.length=ns.length:=by
  rw[<- y9 rel]
  have:=B1 List.length hk
  simpa using this
 refine call_function_entry kind_sorted plain_sorted entry_sorted (args_sorted1 _) ?_
 unfold Builtin.«sorted»
 refine A6 (m:=checkCount "sorted" 1 1 _) (A7 (A6 (kdu_collect (A:=X.A.in1) (kdl_dict (knd:=bG X.prog X.w) (kvs:=vs) (ep:=ep) nm) (show X.A.in1.handled=none from I.ok.hd hc) Rr (by rw[A3];omega) λ h' tk acc PF AK=>?_)))
 have hl:acc.toList.length=ns.length:=by rw[l5,AK.1,len]
 have keys:vs.map (·.1)=ns.map Sum.inl:=by
  rw[<- hk]
  clear hk hd Rr dd AK len q z
  induction rel with
  |nil=>rfl
  |cons p _ ih=>rw[z4,z4,ih,p.1]
 have hI:IntsAre acc.toList ns:=Au _ _ hl λ j v n a b=>by
  obtain⟨k,x,e1,e2⟩:=AK.2 j v (by rw[<- j7];exact a)
  have e3:k=Sum.inl n:=by
   have:=B1 (λ l=>l[j]?) keys
   simp only[n4,e1,b,Option.map_some,Option.some.injEq]at this
   exact this
  subst e3
  rcases bp (show j_ (Sum.inl n) v=true from e2)with⟨i,t,h1,rfl⟩|⟨x,t,h1,rfl⟩
  ·cases h1;exact⟨t,rfl⟩
  ·cases h1
 refine A6 (wpAny_newList ?_ (by rw[hl,A3];omega))
 have Ka:(h'.push (seqObj "list" acc.toList.toArray 0)).get? h'.objs.size=some (seqObj "list" acc.toList.toArray 0):=l6 _ rfl
 refine A6 (y7 (s9 slot_list_sort ⟨_,Ka,rfl⟩ entry_list_sort (list_sort_tree Ka hI (by omega) λ out dD a1 a2 a3=>⟨_,rfl,?_⟩) (args_list_sort _)))
 refine A7 ⟨_,rfl,?_⟩
 obtain⟨c,Ke⟩:=sortedHeap_at (out:=out) Ka
 have I0:Inv X pins σ H {s with heap:=h',toks:=tk}:=I.kept (t':=tk) PF
 have kp:∀b o,h'.get? b=some o->(sortedHeap (h'.push (seqObj "list" acc.toList.toArray 0)) h'.objs.size acc.toList out).get? b=some o:=λ b o e=>by
  rw[sortedHeap_old (z7 (z8 e)) (by rw[size_push'];exact Nat.lt_succ_of_lt (z8 e))]
  exact j2 _ e
 exact⟨.ref h'.objs.size,_,I0.laid (t':=tk) kp (A2 _) (show bb X.prog X.w _ _ _ (.lst (dD.map V.int))from⟨by rw[x8,a2.length_eq,A3];omega,out.toList,c,qB a1,by rw[Array.toArray_toList];exact Ke⟩),rfl,q dD _ a2 a3 (I0.aL.fresh (A2 _))⟩
theorem qZ:b_ X (.builtin "sorted") (λ xs H Q=>∃(a:Addr) (ns:List Int),xs=[.ref a]/\cS X.K H a (ns.map V.int)/\ns.length < 64/\∀(dD:List Int) (p:Addr),dD.Perm ns->dD.Pairwise (·<=·)->H p=none->Q (.ref p) (upd H p (.lst (dD.map V.int)))):=by
 intro pins s σ H xs us Q I r ⟨a,ns,e,hq,qE,q⟩
 subst e
 obtain⟨u,rfl,rx⟩:=vals1 r
 cases(show u=Value.ref a from rx)
 obtain⟨ah,r',pl,hz⟩:=I.list hq
 have hI:=qC r'
 have hl:=r'.length
 rw[x8]at hl
 refine sorted_ints pl.isList hI (by omega) λ out dD a1 a2 a3=>?_
 obtain⟨c,Ke⟩:=sortedAll_at s.heap ah out
 exact⟨.ref (s.heap.objs.size+1),_,I.laid (t':=s.toks) (λ _ _=>sortedAll_old) (Nat.le_succ _) (show bb X.prog X.w _ _ _ (.lst (dD.map V.int))from⟨by rw[x8,a2.length_eq,A3];omega,out.toList,c,qB a1,by rw[Array.toArray_toList];exact Ke⟩),rfl,q dD _ a2 a3 (I.aL.fresh (Nat.le_succ _))⟩
end
end L2
namespace L3
open PySem PySem.Spec L2 L5 PyProof.Rows
def Bg:List D->Mem->bq->Prop:=λ xs M Q=>∃(a:Addr) (ns:List Int),xs=[.ref a]/\((∃kvs,M a=some (.eL false kvs)/\kvs.map (·.1)=ns.map D.int)\/M a=some (.lst (ns.map D.int)))/\ns.length < 64/\∀(dD:List Int) (p:Addr),dD.Perm ns->dD.Pairwise (·<=·)->M p=none->Q (.ref p) (aw M p (.lst (dD.map D.int)))
theorem mj:∀{xs:List Key} {ns:List Int},xs.map iu=ns.map D.int->xs=ns.map Sum.inl
 |[],[],_=>rfl
 |[],_::_,h=>by cases h
 |_::_,[],h=>by cases h
 |x::xs,n::ns,h=>by
  rw[z4,z4,List.cons.injEq]at h
  rw[z4,mj h.2]
  cases x with
  |inl i=>have:=h.1;simp only[iu,D.int.injEq]at this;rw[this]
  |inr i=>have:=h.1;simp[iu]at this
theorem E_{X:Cx}(hc:X.calm=true):cK X (.builtin "sorted") Bg:=⟨_,(q_ hc).or qZ,λ xs ds H M Q2 Q hd hm q k=>by
 obtain⟨a,ns,rfl,hs,qE,q⟩:=q
 obtain⟨x,r,rfl,hx,hr⟩:=af.mp hd
 cases(ao.mp hr)
 cases(aA.mp hx)
 have fin:∀(dD:List Int) (p:Addr),dD.Perm ns->dD.Pairwise (·<=·)->H p=none->Q (.ref p) (upd H p (.lst (dD.map V.int))):=λ dD p a1 a2 hp=>k _ _ (.ref p) _ (aA.mpr rfl) (cw hp (fR dD) hm) (ai.laid hp) (q dD p a1 a2 (hm.free hp))
 rcases hs with⟨kvs,hM,hk⟩|hM
 ·obtain⟨ys,hy,rel⟩:=hm a _ hM
  refine .inl ⟨a,ys,ns,rfl,hy,?_,qE,fin⟩
  refine mj ?_
  rw[<- hk]
  clear hk hy hM q fin
  induction rel with
  |nil=>rfl
  |cons p _ ih=>rw[z4,z4,z4,ih,p.1]
 ·obtain⟨ys,hy,NN⟩:=hm a _ hM
  rw[ck NN]at hy
  exact .inr ⟨a,ns,rfl,cS.of hy,qE,fin⟩⟩
theorem wj{M:Mem}{a:Addr}{kvs:List (D×D)}{Q:bq}(ns:List Int)(h:M a=some (.eL false kvs))(hk:kvs.map (·.1)=ns.map D.int)(qE:ns.length < 64)(q:∀(dD:List Int) (p:Addr),dD.Perm ns->dD.Pairwise (·<=·)->M p=none->Q (.ref p) (aw M p (.lst (dD.map D.int)))):Bg [.ref a] M Q:=⟨a,ns,rfl,.inl ⟨kvs,h,hk⟩,qE,q⟩
end L3
namespace L2
open PySem PySem.Spec PyProof.Rows
def N8(lo:Int)(n:Nat):It:=⟨λ i _=>i < n,λ i H x H'=>H'=H/\x=.int (lo - i),λ i _=>n<=i⟩
theorem vU{P:Program}{w:World}{K:PySem.W.Frag}{tg:Expr}(it:Addr)(lo:Int)(n:Nat):Turn P w K tg (N8 lo n) [it] it (λ i h=>IsRangeIter h it (lo+(i:Nat)*(-1)) ((n:Int) - (i:Nat)) (-1)) where
 mem:=by simp
 obj:=λ i h st b hb=>by
  have e:b=it:=by simpa using hb
  subst e
  exact⟨_,st,λ v z=>by
   have z':Data.fields _=Data.cell v:=z
   cases z'⟩
 keep:=λ i h h' st k=>k it (by simp) _ st
 item:=by
  intro X hP hw hK hc i pins s σ H E I hf st hg
  subst hP hw hK
  obtain⟨f0,f1,f2,f3,f4,f5⟩:=hf it (by simp)
  have W:=Walks.range (prog:=X.prog) (w:=X.w) (I.ok.hd hc) it lo (-1) n
  refine W.item i s _ _ hg st λ v h' tk hv nk kk=>?_
  obtain⟨t,rfl⟩:=hv
  have I1:Inv X pins σ H {s with heap:=h',toks:=tk}:=I.turned (λ b o hb e=>kk b o (by simpa using hb) e) f0 f1 f3 f4 f5
  refine⟨_,rfl,qF (s:={s with heap:=h',toks:=tk}) (n:="range_iterator") nk rfl rfl (by decide) ⟨.int (lo - i),H,I1,⟨t,?_⟩,⟨rfl,rfl⟩,nk,λ b hb=>(hf b hb).1⟩⟩
  rw[Int.mul_neg,Int.mul_one,<- Int.sub_eq_add_neg]
 done:=by
  intro X hP hw hK hc i pins s σ H E I hf st hg
  subst hP hw hK
  obtain⟨f0,f1,f2,f3,f4,f5⟩:=hf it (by simp)
  exact wpAny_pyNext_range_end (I.ok.hd hc) st (by have:n<=i:=hg;omega) λ h' eb=>⟨rfl,I.turned (t':=s.toks) (λ b o hb e=>eb b o hb e) f0 f1 f3 f4 f5⟩
 self:=λ _ _ _ _ _ st h=>wpAny_pyIter_rangeiter st h
section
variable {X:Cx}{tg:Expr}
theorem lT(a b:Int):Builtin.Range.rangeSize a b (-1)=((a - b).toNat:Int):=by
 unfold Builtin.Range.rangeSize
 rw[B4 (by decide)]
 simp only[Int.neg_neg,Int.ediv_one]
 split <;> omega
theorem small_down{a b:Int}(ha: -(2^62)<=a)(Rt:a < 2^62)(hb: -(2^62)<=b)(AI:b < 2^62):Builtin.Range.small a b (-1)=true:=by
 unfold Builtin.Range.small
 rw[lT]
 have e:(((a - b).toNat:Nat):Int)=if a - b<=0 then 0 else a - b:=by split <;> omega
 rw[e]
 simp only[Builtin.Range.rangeFitsLong,u4,Bool.or_eq_true,n5,beq_iff_eq,show ¬(-1:Int) > 0 by decide,B0]
 split <;> omega
theorem EX{pins:List (Addr×Obj)}{σ:St}{H:Hp}{s:Shared}{R:It->Hp->Prop}{E:Value->Shared->Prop}{lo hi:Int}{t u v:Tok}{tk:Nat}(I:Inv X pins σ H s)(h1: -(2^62)<=lo)(h2:lo < 2^62)(h3: -(2^62)<=hi)(h4:hi < 2^62)
  (q:R (N8 lo (lo - hi).toNat) H):wpAny (model X.prog X.w) X.A (pyIter (.ref s.heap.objs.size)) (QC X pins σ tg R) E {s with heap:=s.heap.push {cls:=.type "range",data:=.fields #[.int lo t,.int hi u,.int (-1) v]},toks:=tk}:=by
 refine wpAny_pyIter_range (IsRange.new ..) (small_down h1 h2 h3 h4) ?_
 have I1:Inv X pins σ H {s with heap:=s.heap.push {cls:=.type "range",data:=.fields #[.int lo t,.int hi u,.int (-1) v]},toks:=tk}:=I.kept λ b o e=>j2 _ e
 refine⟨(s.heap.push {cls:=.type "range",data:=.fields #[.int lo t,.int hi u,.int (-1) v]}).objs.size,[(s.heap.push {cls:=.type "range",data:=.fields #[.int lo t,.int hi u,.int (-1) v]}).objs.size],_,_,H,rfl,
  I1.kept (t':=tk) λ b o e=>j2 _ e,vU _ lo (lo - hi).toNat,?_,λ b hb=>?_,q⟩
 ·have e1:lo+((0:Nat):Int)*(-1)=lo:=by simp
  have e2:(((lo - hi).toNat:Nat):Int) - ((0:Nat):Int)=Builtin.Range.rangeSize lo hi (-1):=by rw[lT];omega
  show IsRangeIter _ _ (lo+((0:Nat):Int)*(-1)) ((((lo - hi).toNat:Nat):Int) - ((0:Nat):Int)) (-1)
  rw[e1,e2]
  exact l6 _ rfl
 ·have e:b=(s.heap.push {cls:=.type "range",data:=.fields #[.int lo t,.int hi u,.int (-1) v]}).objs.size:=by simpa using hb
  subst e
  exact I1.iX (A2 _) (I1.aL.fresh (A2 _))
def LP(ta:TA):TI:=λ σ H R=>ta σ H λ vs H1=>∃i j:Int,vs=[.int i,.int j,.int (-1)]/\(-1000000000<=i/\i<=1000000000/\-1000000000<=j/\j<=1000000000)/\R (N8 i (i - j).toNat) H1
theorem DA{a b c:Expr}{ta:TA}{p pos:Pos}(hg:Gl X "range")(hm:X.mg "range"=none)(ha:PA X [a,b,c] ta)(hs:starEach [a,b,c] X.env=[(false,eval a X.env),(false,eval b X.env),(false,eval c X.env)]:=by rfl)(hs2:starEach [b,c] X.env=[(false,eval b X.env),(false,eval c X.env)]:=by rfl):
  PI X tg (.Call (.Name "range" p) [a,b,c] [] pos) (LP ta):=by
 intro pins s σ H R I h
 refine Call_ (eK I hg hm boot_range (c4 (cg (ha pos pins s σ H _ I h) λ us s1 ⟨vs,H1,I1,r1,q1⟩=>?_) (by rw[hs,hs2]) (by rw[hs2];rfl)))
 obtain⟨i,j,e,⟨q1,q2,q3,q4⟩,q⟩:=q1
 subst e
 cases r1 with
 |cons r rr=>
  cases rr with
  |cons r' rr=>
   cases rr with
   |cons R' rr=>
    cases rr
    obtain⟨t,rfl⟩:=r
    obtain⟨t',rfl⟩:=r'
    obtain⟨UQ,rfl⟩:=R'
    exact call_range_3 (by decide) (EX I1 (by omega) (by omega) (by omega) (by omega) q) (Or.inl (PyProof.noPylong_small (by omega)))
end
end L2
namespace L3
open PySem PySem.Spec L2 L5 PyProof.Rows
def iL(lo:Int)(n:Nat):List D:=(List.range n).map λ i=>D.int (lo - (i:Nat))
theorem iw(lo:Int)(n:Nat):(iL lo n).length=n:=by simp[iL]
theorem mB{lo:Int}{n i:Nat}(h:i < n):(iL lo n)[i]?=some (.int (lo - (i:Nat))):=by simp[iL,h]
theorem A_{lo:Int}{n i:Nat}{d:D}(h:(iL lo n)[i]?=some d):i < n/\d=.int (lo - (i:Nat)):=by
 have hi:i < n:=by have:=(g9.mp h).1;rw[iw]at this;exact this
 rw[mB hi]at h
 exact⟨hi,(w9 h).symm⟩
theorem wW{K:PySem.W.Frag}{H1:Hp}{lo:Int}{n:Nat}:oZ K H1 (N8 lo n) (.fix (iL lo n)):=λ H M ds t hm e=>by
 cases e
 rw[iw]
 refine⟨λ i hi=>hi,λ i hi=>Nat.le_of_eq hi.symm,λ i x H' hi y=>?_⟩
 obtain⟨e,rfl⟩:=y
 subst e
 exact⟨ai.refl _,hm,_,mB hi,aq.mpr rfl⟩
section
variable {X:Cx}{tg:Expr}{ta:eW}{a b c:Expr}{p pos:Pos}
def Af(ta:eW):i':=λ δ M R=>ta δ M λ ds M1=>∃i j:Int,ds=[.int i,.int j,.int (-1)]/\(-1000000000<=i/\i<=1000000000/\-1000000000<=j/\j<=1000000000)/\R (.fix (iL i (i - j).toNat)) M1
theorem wu(hg:Gl X "range")(hm:X.mg "range"=none)(ha:QA X [a,b,c] ta)(hs:starEach [a,b,c] X.env=[(false,eval a X.env),(false,eval b X.env),(false,eval c X.env)]:=by rfl)(hs2:starEach [b,c] X.env=[(false,eval b X.env),(false,eval c X.env)]:=by rfl):QI X tg (.Call (.Name "range" p) [a,b,c] [] pos) (Af ta):=uK (DA hg hm ha hs hs2) λ σ H R ⟨δ,M,R2,hs,hm,q,k⟩=>by
 refine⟨δ,M,_,hs,hm,q,λ xs H1 ds M1 hd bU t1 q1=>?_⟩
 obtain⟨i,j,rfl,hb,q1⟩:=q1
 obtain⟨x,r,rfl,hx,hr⟩:=af.mp hd
 obtain⟨y,r2,rfl,hy,qD⟩:=af.mp hr
 obtain⟨z,r3,rfl,hz,SM⟩:=af.mp qD
 cases(ao.mp SM)
 cases(aq.mp hx)
 cases(aq.mp hy)
 cases(aq.mp hz)
 exact⟨i,j,rfl,hb,k _ H1 _ M1 wW bU t1 q1⟩
end
end L3
namespace L4
open PySem PySem.Spec L2 L3
theorem vR{X:Cx}{tg:Expr}{ta:eW}{a b c:Expr}{p pos:Pos}(hg:Gl X "range")(hm:X.mg "range"=none)(ha:WA X [a,b,c] ta)(hs:starEach [a,b,c] X.env=[(false,eval a X.env),(false,eval b X.env),(false,eval c X.env)]:=by rfl)(hs2:starEach [b,c] X.env=[(false,eval b X.env),(false,eval c X.env)]:=by rfl):WI X tg (.Call (.Name "range" p) [a,b,c] [] pos) (Af ta):=⟨wu (hg:=hg) (hm:=hm) ha.h (hs:=hs) (hs2:=hs2)⟩
theorem CU{ta:eW}{δ:cD}{M:Mem}{R:Src->Mem->Prop}(h:ta δ M λ ds M1=>∃i j:Int,ds=[.int i,.int j,.int (-1)]/\(-1000000000<=i/\i<=1000000000/\-1000000000<=j/\j<=1000000000)/\R (.fix (iL i (i - j).toNat)) M1):Af ta δ M R:=h
end L4
namespace L4
open PySem L2 L3
def Ja:Option (Option Value)->Bool
 |some none=>true|_=>false
theorem Ep:∀{o:Option (Option Value)},Ja o=true->o=some none
 |some none,_=>rfl
 |some (some _),h=>by cases h
 |none,h=>by cases h
structure gy(K:PySem.W.Frag)(mg:Str->Option Value)(x q:Str)(st:Stmt)(C fI:Addr)(ps ns:List Str):Prop where
 m:mg x=some (.ref C)
 F:∃fd,ff K "__init__" q st fI fd
 ec:t_ K C fI
 ei:lC K C
 cat:lE K C
 no:(ns.all λ f=>Ja (PySem.W.findIn K (.ref C) f))=true
section
variable {K:PySem.W.Frag}{mg:Str->Option Value}{x q:Str}{st:Stmt}{C fI:Addr}{ps ns:List Str}
theorem gy.Q0 (c:gy K mg x q st C fI ps ns){f:Str}(h:f∈ns):PySem.W.findIn K (.ref C) f=some none:=Ep (List.all_eq_true.mp c.no f h)
theorem gy.eg (c:gy K mg x q st C fI ps ns){f:Str}(h:f∈ns):JR K C f:=⟨c.ei.ga,c.ei.gt,c.Q0 h,c.ei.ba,c.ei.hd⟩
end
theorem xI.of {P:Program}{w:World}{K:PySem.W.Frag}{mg:Str->Option Value}{base:Heap}{k:Nat}{x qual:Str}{ps:List Str}{sp:BW}{st:Stmt}{f:Addr}{fd:FuncData}(F:ff K x qual st f fd)(G:bw P w K mg base (xK P w) k f fd ps (pz K sp))(hm:mg x=some (.ref f))(b:Binds K fd ps []):xI P w K mg base k x ps sp:=⟨f,fd,G,hm,F.kp,b⟩
theorem Q5{A:Type}{P:List A->Prop}{n:Nat}(h:∀a t,t.length=n->P (a::t)):∀us:List A,us.length=n+1->P us
 |[],e=>nomatch e
 |a::t,e=>h a t (Nat.succ.inj e)
theorem Q6{A:Type}{P:List A->Prop}(h:∀a,P [a]):∀us:List A,us.length=1->P us:=Q5 λ a t e=>by rw[eq_nil_of_length_eq_zero e];exact h a
theorem ln2{A:Type}{P:List A->Prop}(h:∀a b,P [a,b]):∀us:List A,us.length=2->P us:=Q5 λ a=>Q6 (P:=λ t=>P (a::t)) (h a)
theorem RM{us:List V}{n:Str}(h:us.length=[n].length):∃u,us=[u]:=Q6 (P:=λ us=>∃u,us=[u]) (λ a=>⟨a,rfl⟩) us h
end L4
namespace KK
open PySem L3 L4 L5
open L2 hiding bh ny
local macro_rules|`(tactic|walk_at "mem")=>`(tactic|first|assumption|exact ar|(rw[aB (by assumption)];assumption)|(rw[aB (by assumption),aB (by assumption)];assumption)|(rw[aB (by assumption)];exact ar))
local macro_rules|`(tactic|walk_at "rd1")=>`(tactic|first|(with_reducible first|refine G' ?_|refine Hl ?_|refine CA ?_|refine Ha ?_|refine Hs ?_|refine CT ?_|refine uA ?_|refine G9 ?_|refine Ct ?_|refine KW ?_|refine KQ ?_)|((with_reducible refine' G6 ?k1 ?_);(case k1=>rfl))|(with_reducible first|refine OB ?_|refine Ht ?_|refine KU ?_|refine Hb ?_|refine C1 ?_|refine Hc ?_|refine CV ?_|refine G7 ?_|refine Hh ?_|refine G8 ?_|refine Cs ?_|refine CW ?_|refine yU ?_|refine Hm ?_|refine Cy ?_|refine CY ?_|refine CZ ?_)|((with_reducible refine' C0 ?k1 ?_);(case k1=>walk_at "mem"))|(with_reducible first|refine G5 ?_|refine Cu ?_|refine KZ ?_|refine OA ?_|refine KS ?_|refine wo ?_|refine Cz ?_|refine K0 ?_)|((with_reducible refine Hf ?k1 ?_);(case k1=>first|assumption|decide))|((with_reducible refine Hr ?k1 ?k2 ?_);(case k1=>first|assumption|decide);(case k2=>first|assumption|decide|omega))|((with_reducible refine gH ?k1 ?_);(case k1=>exact Bs (by decide) (by decide)))|(with_reducible first|refine CH ?_|refine KY ?_|refine yW ?_|refine yS ?_|refine yT ?_|refine yI ?_|refine CQ ?_|refine CS ?_|refine CP ?_|refine CB ?_|refine Cq ?_|refine Hg ?_|refine Hd ?_|refine CI ?_)|((with_reducible refine' dy ?k1 ?k2 ?_);(case k1=>walk_at "mem");(case k2=>rfl))|((with_reducible refine' dw ?k2 ?_);(case k2=>rfl))|((with_reducible refine' CJ ?k1 ?_);(case k1=>walk_at "mem"))|((with_reducible refine' G_ ?k1 ?k2 ?_);(case k1=>walk_at "mem");(case k2=>rfl))|(with_reducible first|refine yQ ?_|refine yR ?_|refine CK ?_|refine CL ?_))
local macro_rules|`(tactic|walk_at "rd")=>`(tactic|repeat(walk_at "rd1"))
local macro_rules|`(tactic|walk_at "rx")=>`(tactic|repeat(first|walk_at "rd1"|((with_reducible refine' KR ?k1 ?_);(case k1=>exact Nat.le_of_ble_eq_true rfl))))
def top(i:Nat):Stmt:=PySem.Challenge.pw_lastloser_k43_picks_refused.main.body.getD i (.Pass ⟨0,0,0,0⟩)
def qt(i:Nat):Stmt:=match top i with
 | .ClassDef _ _ _ b _ _ _ _ _ _ _=>b.getD 0 (.Pass ⟨0,0,0,0⟩)
 |_=>.Pass ⟨0,0,0,0⟩
structure jr(K:PySem.W.Frag)(mg:Str->Option Value):Prop where
 ValueError:mg "ValueError"=none
 all:mg "all"=none
 bool:mg "bool"=none
 dict:mg "dict"=none
 enumerate:mg "enumerate"=none
 int:mg "int"=none
 isinstance:mg "isinstance"=none
 len:mg "len"=none
 list:mg "list"=none
 max:mg "max"=none
 min:mg "min"=none
 range:mg "range"=none
 sorted:mg "sorted"=none
 str:mg "str"=none
 sum:mg "sum"=none
 tuple:mg "tuple"=none
 oj:eZ K "bool"
 FV:eZ K "int"
 Av:eZ K "list"
 FU:eZ K "str"
 vc:eZ K "tuple"
 iH:mg "HeapError"=some (.ref 24)
 oB:Gp K 24
 By:gy K mg "NoText" "NoText.__init__" (qt 2) 44 41 ["self","row"] [Str.ofString "row"]
 Fc:gy K mg "Twice" "Twice.__init__" (qt 3) 63 60 ["self","name"] [Str.ofString "name"]
 Bz:gy K mg "NoName" "NoName.__init__" (qt 4) 82 79 ["self","name"] [Str.ofString "name"]
 xA:gy K mg "TooMany" "TooMany.__init__" (qt 5) 101 98 ["self"] []
 BA:gy K mg "NoGame" "NoGame.__init__" (qt 6) 120 117 ["self","word","heap"] [Str.ofString "word",Str.ofString "heap"]
 xB:gy K mg "NoTable" "NoTable.__init__" (qt 7) 139 136 ["self","word","at"] [Str.ofString "word",Str.ofString "at"]
 Fb:gy K mg "Wrong" "Wrong.__init__" (qt 8) 158 155 ["self","counts"] [Str.ofString "counts"]
 xC:gy K mg "NoPaper" "NoPaper.__init__" (qt 9) 177 174 ["self","at"] [Str.ofString "at"]
 bY:gy K mg "NoPick" "NoPick.__init__" (qt 10) 196 193 ["self","heap"] [Str.ofString "heap"]
 Fd:gy K mg "NoRow" "NoRow.__init__" (qt 11) 215 212 ["self"] []
 kH:PySem.W.kitOne K (.ref 196) (.ref 24)=some true
 kA:PySem.W.kitAny K (.ref 196) [.ref 44,.ref 63,.ref 82,.ref 101,.ref 120,.ref 139,.ref 158,.ref 177,.ref 215]=some false
 sN:vY K 196 196=true
def pL:fU:=λ ds M Q=>∃ns:List Int,ds=[.fl (ns.map D.int)]/\∀M',Q (.bl true) M'
section
variable {P:Program}{w:World}{K:PySem.W.Frag}{mg:Str->Option Value}{base:Heap}
theorem ft:aH ["_law_flow_here","_law_many","_law_cell","_law_digit"] ["_law_flow_here","_law_many"] (aj (top 19)):=⟨rfl,rfl,rfl,by decide+kernel,rfl,by decide+kernel,by decide+kernel⟩
theorem DQ{f:Addr}{fd:FuncData}(F:ff K "_law_pick" "_law_pick" (top 19) f fd)(T:jr K mg):bw P w K mg base eP 1 f fd ["_law_flow_here","_law_many"] (cE K jG):=by
 refine l_ F ft (λ ds M Q h=>?_) (λ bW A outer s H E ds M Q hr h=>?_)
 ·obtain⟨a,c,n,rfl,_⟩:=h
  rfl
 ·obtain⟨a,c,n,rfl,⟨ns,p,b,sd,ct,hf,hc,eR,hp,hb,Ez,oo⟩,Az,L',k⟩:=h
  refine⟨_,(ag (bZ (rQ (bj (gb hr.units) (bE bh (ax 0) au (λ _ _=>rfl)) au (bf _)) (mR (bj Iz (bE bh (ax 0) au (λ _ _=>rfl)) (aR iP (by rfl) T.len (by decide+kernel) (aa (bE bh (ax 0) au (λ _ _=>rfl)) ae)) (bf _)))).pt
 (ag (aP (i:=2) ft.nd rfl (Or.inl rfl) (bE bh (bE bh (ax 0) au (λ _ _=>rfl)) (bE bh (ax 0) au (λ _ _=>rfl)) (λ _ _=>rfl)))
 (ag (fg (bI bM (bE bh (ax 0) au (λ _ _=>rfl)) au) (fh (ax 0) au jL))
 (ak (bZ (bj OR (ax 2) (bI Lz au au) (bf _))
 (ak (fg (ax 2) (fh (ax 0) au jL)))
 (ak (fg (bI iF (bI bM (bI bM (bI ij (bE bh (ax 0) au (λ _ _=>rfl)) au) (bI iF (ax 2) au)) au) au) (fh (ax 0) au jL)))))))
 bx)
 (ag (bZ (bj DY (bE bh (ax 0) au (λ _ _=>rfl)) au (bf _))
 (ag (aP (i:=3) ft.nd rfl (Or.inl rfl) (bI iF (bE bh (ax 0) au (λ _ _=>rfl)) (ax 1)))
 (ag (fg (bI nO (bE bh (ax 0) au (λ _ _=>rfl)) (ax 1)) (fh (ax 0) au jL))
 (ak (aM (ax 3)))))
 bx)
 (ag (fg (bI bM (bE bh (ax 0) au (λ _ _=>rfl)) au) (fh (ax 0) au jL))
 (ag (fg (bI iF (bI bM (bI bM (bI ij (bE bh (ax 0) au (λ _ _=>rfl)) au) au) (bE bh (ax 0) au (λ _ _=>rfl))) au) (fh (ax 0) au jL))
 (ak (aM (bI iF (bI nO (bI iF (bI ij (bI bM (bI iF (bE bh (ax 0) au (λ _ _=>rfl)) au) au) (bI bM (bI nO (bE bh (ax 0) au (λ _ _=>rfl)) au) au)) au) au) (ax 1)))))))),?_⟩
  refine ic (λ δ' M'=>∃(p b sd ct:Int) (v:Option D),δ'=[some (.ref a),some (.int n),v,none]/\M'=aw M a (.lst (F' c p b sd ct))/\0<=p/\0<=b/\0<=sd/\sd < 2147483647) (λ N hN=>?_) ?_
  ·walk_at "rd"
   refine bB (λ Mu=>?_) (λ Mu=>?_)
   ·walk_at "rd"
    refine bB (λ hpl=>?_) (λ hpl=>?_)
    ·obtain⟨x,hx⟩:∃x:Int,e_ (ns.map D.int) p=some (.int x):=by
      have hl:p.toNat < ns.length:=by rw[x8]at hpl;omega
      refine⟨ns[p.toNat],?_⟩
      have e:((p.toNat:Nat):Int)=p:=by omega
      have q:e_ (ns.map D.int) ((p.toNat:Nat):Int)=some (.int ns[p.toNat]):=bC (by simp[hl])
      rw[e]at q
      exact q
     walk_at "rd"
     refine dy hc hx ?_
     walk_at "rd"
     refine Oz ⟨by decide,by decide,by decide⟩ ?_
     walk_at "rd"
     refine bB (λ Jj=>?_) (λ Jj=>?_)
     ·walk_at "rd"
      rw[dQ]
      refine hN _ _ ⟨p+1,x,sd,ct,_,rfl,rfl,by omega,?_,Ez,oo⟩
      have Jj:(10:Int)^(18:Int).toNat<=x:=Jj
      have e:(10:Int)^(18:Int).toNat=1000000000000000000:=by decide
      omega
     ·walk_at "rd"
      rw[dQ]
      refine hN _ _ ⟨p+1,b,_,ct,_,rfl,rfl,by omega,hb,w6 _ (by decide),m6 _ (by decide)⟩
    ·walk_at "rd"
     exact hN _ _ ⟨p,b,sd,ct,none,rfl,(lM hf).symm,hp,hb,Ez,oo⟩
   ·walk_at "rd"
    exact hN _ _ ⟨p,b,sd,ct,none,rfl,(lM hf).symm,hp,hb,Ez,oo⟩
  ·rintro δ' M' ⟨p,b,sd,ct,v,rfl,rfl,hp,hb,Ez,oo⟩
   walk_at "rd"
   refine bB (λ Mu=>?_) (λ Mu=>?_)
   ·walk_at "rd"
    rw[dQ]
    refine ay (k _ _ (w6 _ (by omega)) (m6 _ Az) ⟨ns,p,_,sd,ct,ar,by rw[aB eR];exact hc,eR,hp,Int.ediv_nonneg hb (by omega),Ez,oo⟩)
   ·walk_at "rd"
    refine gH (Bt ?_ ?_) ?_
    ·have:=w6 ((sd*48271+12820163+(ct+1)) % 2147483647) (show(65521:Int)≠0 by decide)
     omega
    ·have:=m6 ((sd*48271+12820163+(ct+1)) % 2147483647) (show(0:Int) < 65521 by decide)
     omega
    walk_at "rd"
    rw[dQ,dQ]
    exact ay (k _ _ (w6 _ (by omega)) (m6 _ Az) ⟨ns,p,b,_,_,ar,by rw[aB eR];exact hc,eR,hp,hb,w6 _ (by decide),m6 _ (by decide)⟩)
theorem pO:aH ["_law_script"] ["_law_script"] (aj (top 18)):=⟨rfl,rfl,rfl,by decide+kernel,rfl,by decide+kernel,by decide+kernel⟩
theorem DW{f:Addr}{fd:FuncData}(F:ff K "_law_flow" "_law_flow" (top 18) f fd)(T:jr K mg):bw P w K mg base eP 1 f fd ["_law_script"] (cE K yq):=by
 refine l_ F pO (λ ds M Q h=>?_) (λ bW A outer s H E ds M Q hr h=>?_)
 ·obtain⟨a,rfl,_⟩:=h
  rfl
 ·obtain⟨ns,rfl,k⟩:=h
  refine⟨_,(ak (aM (fj (aa (mZ JE (by rfl) T.list (by decide+kernel) (aa (ax 0) ae)) (aa au (aa au (aa au (aa au ae)))))))),?_⟩
  walk_at "rd"
  refine yO λ c hc=>?_
  walk_at "rd"
  refine⟨small (by show 5<=10000;decide),λ fl NL=>?_⟩
  have eR:c≠fl:=λ z=>by subst z;rw[ar]at NL;cases NL
  exact ay (k fl c _ ⟨ns,0,0,1,0,ar,by rw[aB eR];exact ar,eR,by decide,by decide,by decide,by decide⟩)
end
def gh:List Str:=[Str.ofString "row",Str.ofString "to",Str.ofString "take",Str.ofString "none",Str.ofString "one",Str.ofString "two",Str.ofString "as",Str.ofString "heap"]
def jW:List Str:=[Str.ofString "rows",Str.ofString "tow",Str.ofString "takes",Str.ofString "nones",Str.ofString "ones",Str.ofString "twos",Str.ofString "ass",Str.ofString "heaps",Str.ofString "on",Str.ofString "t",Str.ofString "ro",Str.ofString "a"]
structure Lw(z:Str):Prop where
 pos:1<=z.length
 len:z.length<=5
 low:∀c∈z.cps.toList,97<=c/\c<=122
structure Wd(z:Str):Prop extends Lw z where
 free:z∉gh
def Nm(z:Str):Prop:=Wd z\/∃(w:Str) (c:Nat),Wd w/\49<=c/\c<=57/\z=w++⟨#[c]⟩
def LJ(z:Str):Bool:=decide (1<=z.length)&&decide (z.length<=5)&&z.cps.toList.all λ c=>decide (97<=c)&&decide (c<=122)
theorem uQ{z:Str}(h:LJ z=true):Lw z:=by
 unfold LJ at h
 simp only[u4,n5,List.all_eq_true]at h
 exact⟨h.1.1,h.1.2,h.2⟩
theorem D4:∀z∈jW,LJ z=true:=by decide+kernel
theorem B':∀z∈gh,LJ (lx z none (some 4)++Str.ofString "q")=true/\lx z none (some 4)++Str.ofString "q"∉gh/\z.length<=4:=by decide+kernel
theorem E5(x y:Str):(x++y).cps.toList=x.cps.toList++y.cps.toList:=by
 show(x.cps++y.cps).toList=_
 simp
theorem Nm.ok {z:Str}(h:Nm z):PyData.strOk z=true:=by
 have:∀c∈z.cps.toList,c < 0x110000:=by
  rcases h with h|⟨w,c,h,_,_,rfl⟩
  ·exact λ c hc=>m7 (h.low c hc).2 (by decide)
  ·intro d hd
   rw[E5]at hd
   rcases x9.mp hd with z|z
   ·exact m7 (h.low d z).2 (by decide)
   ·have:d=c:=by simpa using z
    omega
 unfold PyData.strOk
 rw[<- Array.all_toList,List.all_eq_true]
 exact λ c hc=>y2 (this c hc)
theorem join_ones:∀cs:List Nat,Txt.join (Str.ofString "") (cs.map λ c=>(⟨#[c]⟩:Str))=⟨cs.toArray⟩:=by
 intro cs
 show Builtin.Str.glued (Str.ofString "") _=_
 rw[StrLaws.glued_eq_join,show Str.ofString ""=⟨#[]⟩ by decide+kernel]
 induction cs with
 |nil=>rfl
 |cons c cs ih=>
  rw[z4,PyProof.Rows.join_nil_cons,ih]
  show Str.mk (#[c]++cs.toArray)=_
  congr 1
  simp
def MZ(acc:List D)(i:Nat):Prop:=∃cs:List Nat,acc=(cs.map λ c=>(⟨#[c]⟩:Str)).map D.str/\cs.length=i/\∀c∈cs,97<=c/\c<=122
theorem MZ.snoc {acc:List D}{i:Nat}(h:MZ acc i){c:Nat}(hc:97<=c/\c<=122):MZ (acc++[.str ⟨#[c]⟩]) (i+1):=by
 obtain⟨cs,rfl,h1,h2⟩:=h
 refine⟨cs++[c],by simp,by simp[h1],λ d hd=>?_⟩
 rcases x9.mp hd with z|z
 ·exact h2 d z
 ·rw[m9.mp z];exact hc
theorem Ad{acc:List D}{n:Nat}(h:MZ acc n)(h1:1<=n)(hn:n<=5){M:Mem}{Q:bq}(q:∀z:Str,Lw z->Q (.str z) M):kJ (.str (Str.ofString "")) acc M Q:=by
 obtain⟨cs,rfl,h2,h3⟩:=h
 show(match dS ((cs.map λ c=>(⟨#[c]⟩:Str)).map D.str)with|some ys=>(ys.map (·.length)).sum+ys.length*(Str.ofString "").length<=16777216/\Q (.str (Txt.join (Str.ofString "") ys)) M|none=>False)
 rw[lP]
 have e0:(Str.ofString "").length=0:=by decide+kernel
 have e1:(((cs.map λ c=>(⟨#[c]⟩:Str))).map (·.length)).sum=cs.length:=by
  clear h2 h3
  induction cs with
  |nil=>rfl
  |cons c cs ih=>simp only[z4,sum_cons,q9]at*;rw[ih];show 1+cs.length=_;omega
 refine⟨by rw[e0,e1];omega,?_⟩
 rw[join_ones]
 have el:(⟨cs.toArray⟩:Str).length=cs.length:=by show cs.toArray.size=_;simp
 exact q _ ⟨by rw[el];omega,by rw[el];omega,λ c hc=>h3 c (by simpa using hc)⟩
theorem vG{α:Type}{xs:List α}{d:Int}{c:α}(h:e_ xs d=some c):c∈xs:=by
 unfold e_ at h
 cases e:uZ xs.length d with
 |none=>rw[e]at h;cases h
 |some j=>rw[e]at h;exact k7 h
theorem IH{c:Nat}{d:Int}(h:e_ (Str.ofString "abcdefghijklmnopqrstuvwxyz").cps.toList d=some c):97<=c/\c<=122:=by
 have all:∀c∈(Str.ofString "abcdefghijklmnopqrstuvwxyz").cps.toList,97<=c/\c<=122:=by decide+kernel
 exact all c (vG h)
theorem AQ{c:Nat}{d:Int}(h:e_ (Str.ofString "123456789").cps.toList d=some c):49<=c/\c<=57:=by
 have all:∀c∈(Str.ofString "123456789").cps.toList,49<=c/\c<=57:=by decide+kernel
 exact all c (vG h)
def KJ:fU:=λ ds M Q=>∃f c,ds=[.ref f]/\Flow M f c/\∀(z:Str) (M':Mem),Nm z->Fl f c M M'->Q (.str z) M'
section
variable {P:Program}{w:World}{K:PySem.W.Frag}{mg:Str->Option Value}{base:Heap}
theorem cm:aH ["_law_flow_here","_law_letters","_law_near","_law_name_here"] ["_law_flow_here"] (aj (top 20)):=⟨rfl,rfl,rfl,by decide+kernel,rfl,by decide+kernel,by decide+kernel⟩
theorem DS{f:Addr}{fd:FuncData}(F:ff K "_law_name" "_law_name" (top 20) f fd)(T:jr K mg)(aJ:cO P w K mg base 1 "_law_pick" ["_law_flow_here","_law_many"] jG):bw P w K mg base eP 2 f fd ["_law_flow_here"] (cE K KJ):=by
 refine l_ F cm (λ ds M Q h=>?_) (λ bW A outer s H E ds M Q hr h=>?_)
 ·obtain⟨a,cc,rfl,_⟩:=h
  rfl
 ·obtain⟨a,cc,rfl,hF,k⟩:=h
  refine⟨_,(ag (aP (i:=1) cm.nd rfl (Or.inr rfl) iA)
 (ag (aP (i:=2) cm.nd rfl (Or.inl rfl) (fj (ub (zs:=[Str.ofString "rows",Str.ofString "tow",Str.ofString "takes",Str.ofString "nones",Str.ofString "ones",Str.ofString "twos",Str.ofString "ass",Str.ofString "heaps",Str.ofString "on",Str.ofString "t",Str.ofString "ro",Str.ofString "a"]) (by kernel_rfl))))
 (ag (aP (i:=3) cm.nd rfl (Or.inl rfl) (Gw PySem.F.plainAttrs_str PySem.F.slot_str_join PySem.F.type_str_join IF yd iA (tgs:=["_law_k"]) (fr:=[1,0]) ⟨bz (by kernel_rfl),rfl,(λ _ _ h=>h),(bH rfl T.range (aa (bI bM au (bc aJ (hr.mono (by decide)) (by rfl) (aa (ax 0) (aa au ae)))) ae)),(aU (λ _ _ _ _ _=>(aS (i:=0) (show(["_law_k","_law_letters","_law_flow_here"]:List Str).Nodup by decide+kernel) rfl (Or.inl rfl))) (by decide)),(λ _ _ _ _ _=>bo),(λ _ _ _ _ _=>(bE bh (ax 1) (bc aJ (hr.mono (by decide)) (by rfl) (aa (ax 2) (aa au ae))) (λ _ _=>rfl)))⟩))
 (ag (bZ (bj (gb hr.units) (bc aJ (hr.mono (by decide)) (by rfl) (aa (ax 0) (aa au ae))) au (bf _))
 (ak (aP (i:=3) cm.nd rfl (Or.inl rfl) (bE bh (ax 2) (bc aJ (hr.mono (by decide)) (by rfl) (aa (ax 0) (aa au ae))) (λ _ _=>rfl))))
 bx)
 (ag (bZ (bj (zM hr.units) (ax 3) (iz (ub (zs:=[Str.ofString "row",Str.ofString "to",Str.ofString "take",Str.ofString "none",Str.ofString "one",Str.ofString "two",Str.ofString "as",Str.ofString "heap"]) (by kernel_rfl))) rfl)
 (ak (aP (i:=3) cm.nd rfl (Or.inl rfl) (bI bM (mX yw (ax 3) mT (mS au)) iA)))
 bx)
 (ak (aM (bI bM (ax 3) (bE bh (fj (aa iA (aa iA (aa (bE bh iA (bc aJ (hr.mono (by decide)) (by rfl) (aa (ax 0) (aa au ae))) (λ _ _=>rfl)) ae)))) (bc aJ (hr.mono (by decide)) (by rfl) (aa (ax 0) (aa au ae))) (λ _ _=>rfl)))))))))),?_⟩
  walk_at "rd"
  refine⟨by decide,λ q hq=>?_⟩
  have J9:q≠a:=λ z=>by obtain⟨o,e⟩:=hF.there;rw[<- z,hq]at e;cases e
  have F0:Fl a cc M (aw M q (.lst (jW.map D.str))):=Fl.put hF hq
  have Jl:(aw M q (.lst (jW.map D.str))) q=some (.lst (jW.map D.str)):=ar
  have eM:aw M q (.lst (jW.map D.str))=aw M q (.lst ([Str.ofString "rows",Str.ofString "tow",Str.ofString "takes",Str.ofString "nones",Str.ofString "ones",Str.ofString "twos",Str.ofString "ass",Str.ofString "heaps",Str.ofString "on",Str.ofString "t",Str.ofString "ro",Str.ofString "a"].map D.str)):=rfl
  rw[<- eM]
  clear eM
  generalize aw M q (.lst (jW.map D.str))=M1 at F0 Jl ⊢
  walk_at "rd"
  refine⟨rfl,?_⟩
  walk_at "rd"
  refine⟨a,cc,5,rfl,F0.bF,by decide,by decide,λ m o h0 h1 Jm=>?_⟩
  have F1:Fl a cc M1 _:=Fl.pick Jm
  walk_at "rd"
  refine⟨cV (by omega) (by omega),?_⟩
  refine fF (λ i acc M'=>MZ acc i/\Fl a cc M1 M') ⟨⟨[],rfl,rfl,λ c z=>by cases z⟩,F1⟩ (λ i acc M' hi h=>?_) (λ i d' acc M' hd h=>?_) (λ acc M' h=>?_)
  ·obtain⟨⟨cs,rfl,h2,_⟩,_⟩:=h
   rw[bu]at hi
   rw[x8,x8]
   exact small (by omega)
  ·walk_at "rd"
   refine⟨a,cc,26,rfl,h.2.bF,by decide,by decide,λ d2 o2 h2 h3 Mv=>?_⟩
   obtain⟨c,hc⟩:=rB (xs:=(Str.ofString "abcdefghijklmnopqrstuvwxyz").cps.toList) h2 (by
    have e:(Str.ofString "abcdefghijklmnopqrstuvwxyz").cps.toList.length=26:=by decide+kernel
    rw[e];exact h3)
   refine sx (by decide+kernel) hc ?_
   exact⟨h.1.snoc (IH hc),h.2.trans (Fl.pick Mv)⟩
  ·obtain⟨Qb,NT⟩:=h
   rw[bu]at Qb
   refine Ad Qb (by omega) (by omega) λ z hz=>?_
   have F2:=F0.trans NT
   have Jl:=NT.mv q _ J9 Jl
   clear Qb NT
   with_reducible refine uA ?_
   with_reducible refine ic (λ δ' M2=>∃z:Str,δ'=[some (.ref a),some (.str (Str.ofString "abcdefghijklmnopqrstuvwxyz")),some (.ref q),some (.str z)]/\Lw z/\Fl a cc M M2) (λ N hN=>?_) ?_
   ·walk_at "rd"
    refine⟨a,cc,6,rfl,F2.bF,by decide,by decide,λ d3 o3 h4 h5 rJ=>?_⟩
    walk_at "rd"
    refine bB (λ _=>?_) (λ _=>?_)
    ·walk_at "rd"
     refine⟨a,cc,12,rfl,rJ,by decide,by decide,λ d4 o4 h6 h7 P0=>?_⟩
     obtain⟨y,hy,Pd⟩:=rA (zs:=jW) h6 (by show d4 < 12;exact h7)
     refine dy (by rw[aB J9,aB J9];exact Jl) Pd ?_
     walk_at "rd"
     exact hN _ _ ⟨y,rfl,uQ (D4 y hy),(F2.trans (Fl.pick rJ)).trans (Fl.pick P0)⟩
    ·walk_at "rd"
     exact hN _ _ ⟨z,rfl,hz,F2.trans (Fl.pick rJ)⟩
   ·rintro δ' M2 ⟨z,rfl,hz,F2⟩
    with_reducible refine ic (λ δ' M3=>∃z:Str,δ'=[some (.ref a),some (.str (Str.ofString "abcdefghijklmnopqrstuvwxyz")),some (.ref q),some (.str z)]/\Wd z/\Fl a cc M M3) (λ N hN=>?_) ?_
    ·walk_at "rd"
     refine⟨by decide,?_⟩
     refine CM (qv z gh) ?_
     refine uC (λ wZ=>?_) (λ wZ=>?_)
     ·have wZ:z∈gh:=by simpa using wZ
      obtain⟨t1,t2,t3⟩:=B' z wZ
      walk_at "rd"
      refine Cv (small (by omega)) ?_
      walk_at "rd"
      have hl:=(uQ t1).len
      refine pT (small (by rw[len_app]at hl;omega)) ?_
      walk_at "rd"
      exact hN _ _ ⟨_,rfl,⟨uQ t1,t2⟩,F2⟩
     ·have wZ:z∉gh:=by simpa using wZ
      walk_at "rd"
      exact hN _ _ ⟨z,rfl,⟨hz,wZ⟩,F2⟩
    ·rintro δ' M3 ⟨z,rfl,hz,F3⟩
     walk_at "rd"
     refine⟨a,cc,9,rfl,F3.bF,by decide,by decide,λ d5 o5 h8 h9 BS=>?_⟩
     obtain⟨c,hc⟩:=rB (xs:=(Str.ofString "123456789").cps.toList) h8 (by
      have e:(Str.ofString "123456789").cps.toList.length=9:=by decide+kernel
      rw[e];exact h9)
     refine sx (by decide+kernel) hc ?_
     walk_at "rd"
     refine⟨small (by show 3<=10000;decide),λ q2 EA=>?_⟩
     have F5:=F3.trans (Fl.pick BS)
     have Pq:q2≠a:=λ z=>by
      subst z
      obtain⟨o,e⟩:=BS.there
      rw[EA]at e
      cases e
     walk_at "rd"
     refine⟨a,cc,3,rfl,BS.put EA,by decide,by decide,λ d6 o6 TN TM PZ=>?_⟩
     obtain⟨y,hy,Pd⟩:=rA (zs:=[Str.ofString "",Str.ofString "",⟨#[c]⟩]) TN (by show d6 < 3;exact TM)
     have hl:=hz.len
     have em:z++Str.ofString ""=z:=by
      rw[show Str.ofString ""=⟨#[]⟩ by decide+kernel]
      show Str.mk (z.cps++#[])=z
      simp
     have Q8:Nm (z++y)/\y.length<=1:=by
      have e:(Str.ofString "").length=0:=by decide+kernel
      simp only[z5,not_mem_nil,or_false]at hy
      rcases hy with rfl|rfl|rfl
      ·exact⟨by rw[em];exact .inl hz,by omega⟩
      ·exact⟨by rw[em];exact .inl hz,by omega⟩
      ·exact⟨.inr ⟨z,c,hz,(AQ hc).1,(AQ hc).2,rfl⟩,by show 1<=1;decide⟩
     have U2:=Q8.2
     refine dy (by rw[aB Pq];exact ar) Pd ?_
     refine pT (small (by omega)) ?_
     exact ay (k _ _ Q8.1 ((F5.trans (Fl.put BS EA)).trans (Fl.pick PZ)))
end
section
variable {P:Program}{w:World}{K:PySem.W.Frag}{mg:Str->Option Value}{base:Heap}
theorem sf:aH ["_law_counts_here"] ["_law_counts_here"] (aj (top 24)):=⟨rfl,rfl,rfl,by decide+kernel,rfl,by decide+kernel,by decide+kernel⟩
theorem Iv{f:Addr}{fd:FuncData}(F:ff K "_law_key" "_law_key" (top 24) f fd)(T:jr K mg):bw P w K mg base eP 1 f fd ["_law_counts_here"] (cE K yo):=by
 refine l_ F sf (λ ds M Q h=>?_) (λ bW A outer s H E ds M Q hr h=>?_)
 ·obtain⟨a,rfl,_⟩:=h
  rfl
 ·obtain⟨as,rfl,hz,k⟩:=h
  refine⟨_,(ak (aM (iz (aa (aR (rj rfl) (by rfl) T.sum (by decide+kernel) (aa (ax 0) ae)) (aa (dH cf bQ (by rfl) T.tuple (by decide+kernel) (tgs:=["_law_n"]) (fr:=[]) ⟨bz (by kernel_rfl),rfl,(λ _ _ h=>h),(bT (ax 0)),(aU (λ _ _ _ _ _=>(aS (i:=0) (show(["_law_n"]:List Str).Nodup by decide+kernel) rfl (Or.inl rfl))) (by decide)),(λ _ _ _ _ _=>bo),(λ _ _ _ _ _=>(bI FN au (ax 0)))⟩) ae))))),?_⟩
  walk_at "rd"
  refine nE ?_
  walk_at "rd"
  refine fF (λ i acc M'=>M'=M/\acc=((as.map λ a=>0 - a).take i).map D.int) ⟨rfl,by simp⟩ (λ i acc M' hi h=>?_) (λ i d acc M' hd h=>?_) (λ acc M' h=>?_)
  ·obtain⟨_,rfl⟩:=h
   rw[x8,u5]
   rw[x8]at hi
   exact small (by omega)
  ·obtain⟨rfl,rfl⟩:=h
   rw[n4]at hd
   cases e:as[i]? with
   |none=>rw[e]at hd;cases hd
   |some a=>
    rw[e]at hd
    cases hd
    walk_at "rd"
    refine⟨rfl,?_⟩
    rw[take_snoc (a:=0 - a) (by simp[e]),y0]
    rfl
  ·obtain⟨rfl,rfl⟩:=h
   walk_at "rd"
   refine⟨by show 2<=sizeLine;decide,ay ?_⟩
   have e:(as.map λ a=>0 - a).take (as.map D.int).length=as.map λ a=>0 - a:=by rw[x8];exact take_of_length_le (by simp)
   rw[e]
   exact k
end
section
variable {P:Program}{w:World}{K:PySem.W.Frag}{mg:Str->Option Value}{base:Heap}
theorem iT:aH ["_law_sums"] ["_law_sums"] (aj (top 25)):=⟨rfl,rfl,rfl,by decide+kernel,rfl,by decide+kernel,by decide+kernel⟩
theorem zH{f:Addr}{fd:FuncData}(F:ff K "_law_in_order" "_law_in_order" (top 25) f fd)(T:jr K mg)(xo:cO P w K mg base 1 "_law_key" ["_law_counts_here"] yo):bw P w K mg base eP 4 f fd ["_law_sums"] (cE K um):=by
 refine l_ F iT (λ ds M Q h=>?_) (λ bW A outer s H E ds M Q hr h=>?_)
 ·obtain⟨a,rs,rfl,_⟩:=h
  rfl
 ·obtain⟨x,rs,rfl,hx,qE,hz,k⟩:=h
  refine⟨_,(ak (aM (mZ cf (by rfl) T.tuple (by decide+kernel) (aa (rR xo (hr.mono (by decide)) (by rfl) T.sorted (by rfl) T.dict (by rfl) (mY (tgs:=["_law_counts_here"]) (fr:=[]) ⟨bz (by kernel_rfl),rfl,(λ _ _ h=>h),(bT (ax 0)),(aU (λ _ _ _ _ _=>(aS (i:=0) (show(["_law_counts_here"]:List Str).Nodup by decide+kernel) rfl (Or.inl rfl))) (by decide)),(λ _ _ _ _ _=>bo),(λ _ _ _ _ _=>(iz (aa (ax 0) (aa rS ae))))⟩)) ae)))),?_⟩
  have go:∀(N:bq),(∀(p:Addr) (out:List (List Int)) (M':Mem),(∀b o,M b=some o->M' b=some o)->M' p=some (.lst (out.map row))->(∀r∈out,r∈rs)->out.length<=rs.length->N (.ref p) M')->∀p,M p=none->oJ yo (.ref p) (aw M p (.lst (rs.map pairD))) N:=by
   intro N hN p hp
   have h0:=qf (λ b o e=>e) hp (.lst (rs.map pairD))
   refine⟨p,rs,true,λ hZ M'=>M'=aw M p (.lst (rs.map pairD))/\hZ.length<=(once rs).length/\∀i k,hZ[i]?=some k->Fq true M' k (ND ((once rs).getD i [])),λ i=>ND ((once rs).getD i []),rfl,ar,qE,⟨rfl,A4 _,λ i k e=>by simp at e⟩,?_,?_⟩
   ·rintro hZ M' e ⟨rfl,h2,h3⟩ he
    rw[n4]at he
    cases er:(once rs)[hZ.length]? with
    |none=>rw[er]at he;cases he
    |some r=>
     rw[er]at he
     cases he
     have fX:hZ.length < (once rs).length:=(g9.mp er).1
     refine⟨r,rfl,hz r (qg (k7 er)),rfl,?_,λ i k e=>?_⟩
     ·rw[l9,j6];omega
     ·by_cases hi:i < hZ.length
      ·rw[c8 hi]at e
       exact h3 i k e
      ·rw[c6 (by omega)]at e
       have PH:i - hZ.length=0:=by
        have:=(g9.mp e).1
        simp at this
        omega
       rw[PH]at e
       have e:D.tup [.int r.sum,row (r.map λ a=>0 - a)]=k:=by simpa using e
       have Tb:i=hZ.length:=by omega
       subst Tb
       show k=.tup [.int (ND ((once rs).getD hZ.length [])).1,.tup ((ND ((once rs).getD hZ.length [])).2.map D.int)]
       rw[<- e,c7,er]
       rfl
   ·rintro hZ M' ⟨rfl,h2,h3⟩ hl
    refine⟨h3,λ p2 outD gA ho=>?_⟩
    obtain⟨out,rfl,o1,o2⟩:=Ic (rs:=once rs) ho
    exact hN p2 out _ (qf h0 gA _) ar (λ r hr=>qg (o1 r hr)) (by rw[o2];exact zX rs)
  have fin:∀(p:Addr) (out:List (List Int)) (M':Mem),(∀b o,M b=some o->M' b=some o)->M' p=some (.lst (out.map row))->(∀r∈out,r∈rs)->out.length<=rs.length->oH [.ref p] M' (fin2 Q):=λ p out M' h1 h2 h3 h4=>lZ h2 (back h1 (k out h3 h4))
  rcases hx with rfl|⟨l,rfl,hl⟩
  ·walk_at "rd"
   refine fF (λ i acc M'=>M'=M/\acc=(rs.take i).map pairD) ⟨rfl,by simp⟩ (λ i acc M' hi h=>?_) (λ i d acc M' hd h=>?_) (λ acc M' h=>?_)
   ·obtain⟨_,rfl⟩:=h
    rw[x8,u5]
    exact small (by omega)
   ·obtain⟨rfl,rfl⟩:=h
    rw[n4]at hd
    cases e:rs[i]? with
    |none=>rw[e]at hd;cases hd
    |some r=>
     rw[e]at hd
     cases hd
     walk_at "rd"
     refine⟨by show 2<=sizeLine;decide,rfl,?_⟩
     rw[take_snoc e,y0]
     rfl
   ·obtain⟨rfl,rfl⟩:=h
    rw[x8,r9]
    intro p hp
    exact go _ fin p hp
  ·walk_at "rd"
   refine Bu (ds:=rs.map row) (λ i acc M'=>M'=M/\acc=(rs.take i).map pairD) ⟨rfl,by simp⟩ (λ i acc M' hi h=>?_) (λ i acc M' hi h=>?_) (λ i d acc M' hd h=>?_) (λ acc M' h=>?_)
   ·obtain⟨rfl,_⟩:=h
    exact hl
   ·obtain⟨_,rfl⟩:=h
    rw[x8,u5]
    exact small (by omega)
   ·obtain⟨rfl,rfl⟩:=h
    rw[n4]at hd
    cases e:rs[i]? with
    |none=>rw[e]at hd;cases hd
    |some r=>
     rw[e]at hd
     cases hd
     walk_at "rd"
     refine⟨by show 2<=sizeLine;decide,rfl,?_⟩
     rw[take_snoc e,y0]
     rfl
   ·obtain⟨rfl,rfl⟩:=h
    rw[x8,r9]
    intro p hp
    exact go _ fin p hp
end
section
variable {P:Program}{w:World}{K:PySem.W.Frag}{mg:Str->Option Value}{base:Heap}
theorem k_:aH ["_law_heaps","_law_many"] ["_law_heaps","_law_many"] (aj (top 23)):=⟨rfl,rfl,rfl,by decide+kernel,rfl,by decide+kernel,by decide+kernel⟩
theorem wH{f:Addr}{fd:FuncData}(F:ff K "_law_counts" "_law_counts" (top 23) f fd)(T:jr K mg):bw P w K mg base eP 1 f fd ["_law_heaps","_law_many"] (cE K pM):=by
 refine l_ F k_ (λ ds M Q h=>?_) (λ bW A outer s H E ds M Q hr h=>?_)
 ·obtain⟨a,b,c,rfl,_⟩:=h
  rfl
 ·obtain⟨a,ns,n,rfl,hM,hz,k⟩:=h
  refine⟨_,(ak (aM (dH cf bQ (by rfl) T.tuple (by decide+kernel) (tgs:=["_law_h"]) (fr:=[0]) ⟨bz (by kernel_rfl),rfl,(λ _ _ h=>h),(bH rfl T.range (aa (ax 1) ae)),(aU (λ _ _ _ _ _=>(aS (i:=0) (show(["_law_h","_law_heaps"]:List Str).Nodup by decide+kernel) rfl (Or.inl rfl))) (by decide)),(λ _ _ _ _ _=>bo),(λ _ _ _ _ _=>(yb i7 PySem.F.slot_list_count PySem.F.type_list_count (D' hr.units) (ax 1) (aa (ax 0) ae)))⟩))),?_⟩
  walk_at "rd"
  refine⟨cV (by omega) (by omega),?_⟩
  rw[n6]
  refine cC (xs:=List.range n) (enc:=KP) (λ h=>D.int ((ns.count (h:Int):Nat):Int)) (by simp;omega) (λ i x N hx hN=>?_) ?_
  ·walk_at "rd"
   refine⟨⟨rfl,_,hM⟩,?_⟩
   walk_at "rd"
   refine wq hM ?_
   rw[Int.zero_add]
   exact hN
  ·refine ay ?_
   unfold row iY at k
   rw[A0]at k
   exact k
end
theorem vD:∀j∈List.range 26,LJ (iZ j)=true/\iZ j∉gh:=by decide+kernel
theorem E9{j:Nat}(h:j < 26):Nm (iZ j):=.inl ⟨uQ (vD j (mem_range.mpr h)).1,(vD j (mem_range.mpr h)).2⟩
def pK:fU:=λ ds M Q=>∃(f c:Addr) (n:Nat),ds=[.ref f,.int n]/\Flow M f c/\n<=12/\∀(p:Addr) (zs:List Str) (M':Mem),zs.length=n->M p=none->M' p=some (.lst (zs.map D.str))->Fl f c M M'->(∀z∈zs,Nm z)->zs.Nodup->Q (.ref p) M'
section
variable {P:Program}{w:World}{K:PySem.W.Frag}{mg:Str->Option Value}{base:Heap}
theorem bL:aH ["_law_flow_here","_law_many","_law_names_here","_law_k","_law_name_here","_law_spare"] ["_law_flow_here","_law_many"] (aj (top 21)):=⟨rfl,rfl,rfl,by decide+kernel,rfl,by decide+kernel,by decide+kernel⟩
theorem zG{f:Addr}{fd:FuncData}(F:ff K "_law_names" "_law_names" (top 21) f fd)(T:jr K mg)(tJ:cO P w K mg base 2 "_law_name" ["_law_flow_here"] KJ):bw P w K mg base eP 3 f fd ["_law_flow_here","_law_many"] (cE K pK):=by
 refine l_ F bL (λ ds M Q h=>?_) (λ bW A outer s H E ds M Q hr h=>?_)
 ·obtain⟨a,cc,b,rfl,_⟩:=h
  rfl
 ·obtain⟨a,cc,n,rfl,hF,hz,k⟩:=h
  refine⟨_,(ag (aP (i:=2) bL.nd rfl (Or.inl rfl) (fj ae))
 (ag (dj x3 rfl (bH rfl T.range (aa (ax 1) ae)) (cb (i:=3) bL.nd rfl (Or.inl rfl))
 (ag (aP (i:=4) bL.nd rfl (Or.inl rfl) (bc tJ (hr.mono (by decide)) (by rfl) (aa (ax 0) ae)))
 (ag (aP (i:=5) bL.nd rfl (Or.inl rfl) au)
 (ag (x' x3 (bj (zM hr.units) (ax 4) (ax 2) rfl)
 (ag (aP (i:=4) bL.nd rfl (Or.inl rfl) (bI ij (bE bh iA (bI iF (ax 5) au) (λ _ _=>rfl)) (bI bM au (bI nO (ax 5) au))))
 (ak (aP (i:=5) bL.nd rfl (Or.inl rfl) (bI bM (ax 5) au)))))
 (ak (jb (yb i7 i4 i6 gN (ax 2) (aa (ax 4) ae))))))))
 (ak (aM (ax 2))))),?_⟩
  walk_at "rd"
  refine⟨by decide,λ p hp=>?_⟩
  have FX:=(hF.ne hp).1
  walk_at "rd"
  refine⟨cV (by omega) (by omega),?_⟩
  rw[n6]
  refine dO (λ i δ M'=>∃(v1 v2 v3:Option D) (zs:List Str),δ=[some (.ref a),some (.int n),some (.ref p),v1,v2,v3]/\zs.length=i/\M' p=some (.lst (zs.map D.str))/\Fl a cc M M'/\(∀z∈zs,Nm z)/\zs.Nodup) ⟨none,none,none,[],rfl,rfl,ar,Fl.put hF hp,λ z h=>(by cases h),.nil⟩ (λ i d δ M' hd h=>?_) (λ δ M' h=>?_)
  ·obtain⟨v1,v2,v3,zs,rfl,h2,h3,F1,L9,L_⟩:=h
   obtain⟨hi,rfl⟩:=de hd
   walk_at "rd"
   refine⟨a,cc,rfl,F1.bF,λ z M1 Sv F2=>?_⟩
   have F3:=F1.trans F2
   have h3:=F2.mv p _ FX h3
   walk_at "rd"
   refine yH ⟨λ m δ M'=>M'=M1/\∃(z:Str) (sp:Nat),δ=[some (.ref a),some (.int n),some (.ref p),some (.int (0+(i:Nat))),some (.str z),some (.int sp)]/\m=zs.length+2 - sp/\sp<=zs.length+1/\Nm z/\(0 < sp->z=iZ (sp - 1))/\∀j,j+1 < sp->iZ j∈zs,⟨_,rfl,z,0,rfl,rfl,A4 _,Sv,λ q=>absurd q (by omega),λ j q=>absurd q (by omega)⟩,?_⟩
   rintro m δ M' ⟨rfl,z,sp,rfl,rfl,Aw,Su,Sx,Sw⟩
   walk_at "rd"
   refine CN h3 (qv z zs) ?_
   refine uC (λ wZ=>?_) (λ wZ=>?_)
   ·have wZ:z∈zs:=by simpa using wZ
    have all:∀j,j < sp->iZ j∈zs:=λ j hj=>by
     by_cases e:j+1 < sp
     ·exact Sw j e
     ·have:j=sp - 1:=by omega
      rw[this,<- Sx (by omega)]
      exact wZ
    have FW:sp<=zs.length:=Bw (by omega) all
    refine⟨λ δ' M2=>M2=M'/\δ'=[some (.ref a),some (.int n),some (.ref p),some (.int (0+(i:Nat))),some (.str (iZ sp)),some (.int ((sp+1:Nat):Int))],?_,?_⟩
    ·rintro δ' M2 ⟨rfl,rfl⟩
     exact⟨zs.length+2 - (sp+1),by omega,rfl,iZ sp,sp+1,rfl,rfl,by omega,E9 (by omega),λ _=>rfl,λ j hj=>all j (by omega)⟩
    ·walk_at "rd"
     have em:(sp:Int) % 26=(sp:Int):=Int.emod_eq_of_lt (by omega) (by omega)
     have ed:(sp:Int) / 26=0:=Int.ediv_eq_zero_of_lt (by omega) (by omega)
     have bl:rp.length=26:=by decide+kernel
     have hc:e_ (Str.ofString "zyxwvutsrqponmlkjihgfedcba").cps.toList ((sp:Int) % 26)=some (rp.getD sp 0):=by
      rw[em]
      refine bC ?_
      show rp[sp]?=_
      rw[c7]
      have:sp < rp.length:=by omega
      simp[this]
     refine sx (by decide+kernel) hc ?_
     walk_at "rd"
     rw[ed]
     refine yL (sT _) ?_
     walk_at "rd"
     exact⟨rfl,rfl⟩
   ·walk_at "rd"
    refine⟨⟨rfl,_,h3⟩,?_⟩
    walk_at "rd"
    refine nF h3 (by rw[x8];exact m7 (show zs.length<=12 by omega) (by decide)) ?_
    walk_at "rd"
    exact⟨_,_,_,zs++[z],rfl,by simp[h2],by rw[ar,y0];rfl,F3.own hF hp,(λ y hy=>by
     rcases x9.mp hy with q|q
     ·exact L9 y q
     ·rw[m9.mp q];exact Su),nodup_append.mpr ⟨L_,by simp,λ x hx y hy e=>(by simpa using wZ:z∉zs) ((e.trans (m9.mp hy))▸hx)⟩⟩
  ·obtain⟨v1,v2,v3,zs,rfl,h2,h3,F1,L9,L_⟩:=h
   rw[bu]at h2
   walk_at "rd"
   exact ay (k p zs _ h2 hp h3 F1 L9 L_)
end
section
variable {P:Program}{w:World}{K:PySem.W.Frag}{mg:Str->Option Value}{base:Heap}
theorem nv:aH ["_law_found","_law_due"] ["_law_found","_law_due"] (aj (top 30)):=⟨rfl,rfl,rfl,by decide+kernel,rfl,by decide+kernel,by decide+kernel⟩
theorem Iw{f:Addr}{fd:FuncData}(F:ff K "_law_alike" "_law_alike" (top 30) f fd)(T:jr K mg)(S3:mg "_law_alike"=some (.ref f))(Mu:Binds K fd ["_law_found","_law_due"] []):∀k,bw P w K mg base eP (k+1) f fd ["_law_found","_law_due"] (cE K (yr k)):=by
 intro k
 induction k with
 |zero=>exact ER Cg
 |succ k ih=>
 have fB:=bP.of F ih S3 Mu
 rw[show k+1+1=k+1+1 by omega]
 clear ih
 refine l_ F nv (λ ds M Q h=>?_) (λ bW A outer s H E ds M Q hr h=>?_)
 ·obtain⟨x,y,rfl,_⟩:=h
  rfl
 ·obtain⟨x,y,rfl,hs,k⟩:=h
  refine⟨_,(ag (bZ (bj uM (ax 1) ju (bf _))
 (ak (aM (lI uM (ax 0) ju (bf _))))
 bx)
 (ag (bZ (xZ (h_ (aR (eU T.oj) (by rfl) T.isinstance (by decide+kernel) (aa (ax 1) (aa (iS (n:="bool") (by rfl) T.bool (by decide+kernel)) ae)))) (rP (h_ (aR (eU T.oj) (by rfl) T.isinstance (by decide+kernel) (aa (ax 0) (aa (iS (n:="bool") (by rfl) T.bool (by decide+kernel)) ae)))))).pt
 (ak (aM (w_and (aR (eU T.oj) (by rfl) T.isinstance (by decide+kernel) (aa (ax 1) (aa (iS (n:="bool") (by rfl) T.bool (by decide+kernel)) ae))) (w_and (aR (eU T.oj) (by rfl) T.isinstance (by decide+kernel) (aa (ax 0) (aa (iS (n:="bool") (by rfl) T.bool (by decide+kernel)) ae))) (uc (lI (gb hr.units) (ax 0) (ax 1) (bf _)))))))
 bx)
 (ag (bZ (h_ (aR (eU T.FV) (by rfl) T.isinstance (by decide+kernel) (aa (ax 1) (aa (iS (n:="int") (by rfl) T.int (by decide+kernel)) ae))))
 (ak (aM (w_and (aR (eU T.FV) (by rfl) T.isinstance (by decide+kernel) (aa (ax 0) (aa (iS (n:="int") (by rfl) T.int (by decide+kernel)) ae))) (uc (lI (gb hr.units) (ax 0) (ax 1) (bf _))))))
 bx)
 (ag (bZ (h_ (aR (eU T.FU) (by rfl) T.isinstance (by decide+kernel) (aa (ax 1) (aa (iS (n:="str") (by rfl) T.str (by decide+kernel)) ae))))
 (ak (aM (w_and (aR (eU T.FU) (by rfl) T.isinstance (by decide+kernel) (aa (ax 0) (aa (iS (n:="str") (by rfl) T.str (by decide+kernel)) ae))) (uc (lI (gb hr.units) (ax 0) (ax 1) (bf _))))))
 bx)
 (ag (bZ (xZ (bj (uL hr.units) (aR (eU T.vc) (by rfl) T.isinstance (by decide+kernel) (aa (ax 1) (aa (iS (n:="tuple") (by rfl) T.tuple (by decide+kernel)) ae))) (aR (eU T.vc) (by rfl) T.isinstance (by decide+kernel) (aa (ax 0) (aa (iS (n:="tuple") (by rfl) T.tuple (by decide+kernel)) ae))) (bf _)) (rP (bj (uL hr.units) (aR (eU T.Av) (by rfl) T.isinstance (by decide+kernel) (aa (ax 1) (aa (iS (n:="list") (by rfl) T.list (by decide+kernel)) ae))) (aR (eU T.Av) (by rfl) T.isinstance (by decide+kernel) (aa (ax 0) (aa (iS (n:="list") (by rfl) T.list (by decide+kernel)) ae))) (bf _)))).pt
 (ak (aM rS))
 bx)
 (ak (aM (w_and (lI (gb hr.units) (aR iP (by rfl) T.len (by decide+kernel) (aa (ax 0) ae)) (aR iP (by rfl) T.len (by decide+kernel) (aa (ax 1) ae)) (bf _)) (uc (mW (Gk rfl) ug (by rfl) T.all (by decide+kernel) (tgs:=["_law_k"]) (fr:=[0,1]) ⟨bz (by kernel_rfl),rfl,(λ _ _ h=>h),(bH rfl T.range (aa (aR iP (by rfl) T.len (by decide+kernel) (aa (ax 1) ae)) ae)),(aU (λ _ _ _ _ _=>(aS (i:=0) (show(["_law_k","_law_found","_law_due"]:List Str).Nodup by decide+kernel) rfl (Or.inl rfl))) (by decide)),(λ _ _ _ _ _=>bo),(λ _ _ _ _ _=>(bc fB (hr.mono (by omega)) (by rfl) (aa (bE bh (ax 1) (ax 0) (λ _ _=>rfl)) (aa (bE bh (ax 2) (ax 0) (λ _ _=>rfl)) ae))))⟩)))))))))),?_⟩
  rcases hs with⟨rfl,hx⟩|⟨ds,es,rfl,rfl,hl,hz,hs⟩|⟨p,q,ds,es,rfl,rfl,hp,hq,hl,hz,hs⟩
  ·cases x with
   |a_=>
    walk_at "rx"
    refine jN ?_
    walk_at "rx"
    refine jN ?_
    walk_at "rx"
    exact ay k
   |bl b=>
    walk_at "rx"
    refine fJ (by simp[jA]) ?_
    walk_at "rx"
    refine aY (n:="bool") rfl (b:=true) (by decide) ?_
    walk_at "rx"
    refine aY (n:="bool") rfl (b:=true) (by decide) ?_
    walk_at "rx"
    refine aY (n:="bool") rfl (b:=true) (by decide) ?_
    walk_at "rx"
    rw[y2 (rfl:b=b)]
    exact ay k
   |int i=>
    walk_at "rx"
    refine fJ (by simp[jA]) ?_
    walk_at "rx"
    refine aY (n:="int") rfl (b:=false) (by decide) ?_
    walk_at "rx"
    refine aY (n:="int") rfl (b:=false) (by decide) ?_
    walk_at "rx"
    refine aY (n:="int") rfl (b:=true) (by decide) ?_
    walk_at "rx"
    refine aY (n:="int") rfl (b:=true) (by decide) ?_
    walk_at "rx"
    rw[y2 (rfl:i=i)]
    exact ay k
   |str z=>
    walk_at "rx"
    refine fJ (by simp[jA]) ?_
    walk_at "rx"
    refine aY (n:="str") rfl (b:=false) (by decide) ?_
    walk_at "rx"
    refine aY (n:="str") rfl (b:=false) (by decide) ?_
    walk_at "rx"
    refine aY (n:="str") rfl (b:=false) (by decide) ?_
    walk_at "rx"
    refine aY (n:="str") rfl (b:=true) (by decide) ?_
    walk_at "rx"
    refine aY (n:="str") rfl (b:=true) (by decide) ?_
    walk_at "rx"
    rw[y2 (rfl:z=z)]
    exact ay k
   |_=>cases hx
  ·walk_at "rx"
   refine fJ (by simp[jA]) ?_
   walk_at "rx"
   refine aY (n:="tuple") rfl (b:=false) (by decide) ?_
   walk_at "rx"
   refine aY (n:="tuple") rfl (b:=false) (by decide) ?_
   walk_at "rx"
   refine aY (n:="tuple") rfl (b:=false) (by decide) ?_
   walk_at "rx"
   refine aY (n:="tuple") rfl (b:=false) (by decide) ?_
   walk_at "rx"
   refine aY (n:="tuple") rfl (b:=true) (by decide) ?_
   walk_at "rx"
   refine aY (n:="tuple") rfl (b:=true) (by decide) ?_
   walk_at "rx"
   refine jd (λ h=>absurd rfl h) (λ _=>?_)
   walk_at "rx"
   refine aY (n:="tuple") rfl (b:=false) (by decide) ?_
   walk_at "rx"
   refine aY (n:="tuple") rfl (b:=false) (by decide) ?_
   walk_at "rx"
   refine jd (λ h=>absurd rfl h) (λ _=>?_)
   walk_at "rx"
   rw[hl]
   refine bB (λ _=>?_) (λ hl=>absurd rfl hl)
   walk_at "rx"
   refine⟨cV (by omega) (by omega),?_⟩
   rw[n6]
   refine fF (λ i acc M'=>M'=M/\acc=(List.replicate i true).map D.bl) ⟨rfl,rfl⟩ (λ i acc M' hi h=>?_) (λ i d acc M' hd h=>?_) (λ acc M' h=>?_)
   ·obtain⟨_,rfl⟩:=h
    rw[bu]at hi
    simp only[x8,j8]
    exact small (by omega)
   ·obtain⟨rfl,rfl⟩:=h
    obtain⟨hi,rfl⟩:=de hd
    walk_at "rx"
    refine dw (jo (by omega)) ?_
    walk_at "rx"
    refine dw (jo hi) ?_
    refine⟨_,_,rfl,hs i _ _ (i5 (by omega)) (i5 hi),rfl,?_⟩
    rw[replicate_succ',y0]
    rfl
   ·obtain⟨rfl,rfl⟩:=h
    unfold mF
    rw[dZ]
    show fin2 Q (.bl ((List.replicate _ true).all id)) _
    rw[oV]
    exact ay k
  ·have tp:jA M (.ref p)=some "list":=by show(aO M p).map (λ _=>"list")=_;unfold aO;rw[hp];rfl
   have tq:jA M (.ref q)=some "list":=by show(aO M q).map (λ _=>"list")=_;unfold aO;rw[hq];rfl
   walk_at "rx"
   refine fJ (by rw[tq];simp) ?_
   walk_at "rx"
   refine aY tq (b:=false) (by decide) ?_
   walk_at "rx"
   refine aY tp (b:=false) (by decide) ?_
   walk_at "rx"
   refine aY tq (b:=false) (by decide) ?_
   walk_at "rx"
   refine aY tq (b:=false) (by decide) ?_
   walk_at "rx"
   refine aY tq (b:=false) (by decide) ?_
   walk_at "rx"
   refine aY tp (b:=false) (by decide) ?_
   walk_at "rx"
   refine jd (λ h=>absurd rfl h) (λ _=>?_)
   walk_at "rx"
   refine aY tq (b:=true) (by decide) ?_
   walk_at "rx"
   refine aY tp (b:=true) (by decide) ?_
   walk_at "rx"
   refine jd (λ h=>absurd rfl h) (λ _=>?_)
   walk_at "rx"
   rw[hl]
   refine bB (λ _=>?_) (λ hl=>absurd rfl hl)
   walk_at "rx"
   refine⟨cV (by omega) (by omega),?_⟩
   rw[n6]
   refine fF (λ i acc M'=>M'=M/\acc=(List.replicate i true).map D.bl) ⟨rfl,rfl⟩ (λ i acc M' hi h=>?_) (λ i d acc M' hd h=>?_) (λ acc M' h=>?_)
   ·obtain⟨_,rfl⟩:=h
    rw[bu]at hi
    simp only[x8,j8]
    exact small (by omega)
   ·obtain⟨rfl,rfl⟩:=h
    obtain⟨hi,rfl⟩:=de hd
    walk_at "rx"
    refine dy hp (jo (by omega)) ?_
    walk_at "rx"
    refine dy hq (jo hi) ?_
    refine⟨_,_,rfl,hs i _ _ (i5 (by omega)) (i5 hi),rfl,?_⟩
    rw[replicate_succ',y0]
    rfl
   ·obtain⟨rfl,rfl⟩:=h
    unfold mF
    rw[dZ]
    show fin2 Q (.bl ((List.replicate _ true).all id)) _
    rw[oV]
    exact ay k
end
def dot(as bs:List Int):Int:=(List.zipWith (·*·) as bs).sum
def pe(aW:List (List (List Int))):Nat->List Int
 |0=>[]
 |i+1=>pe aW i++[il 0 ((aW.getD i []).map λ o=>1+dot o (pe aW i))]
theorem nJ(aW:List (List (List Int))):∀i,(pe aW i).length=i
 |0=>rfl
 |i+1=>by show(pe aW i++[_]).length=_;rw[l9,nJ aW i];rfl
structure oY(aW:List (List (List Int))):Prop where
 kT:aW.length<=12
 opts:∀i,i < aW.length->(aW.getD i []).length<=63/\∀o∈aW.getD i [],(∀x∈o,0<=x)/\o.sum<=4/\o.length<=1000
theorem D9{b:Int}:∀{ns:List Int},0<=b->(∀x∈ns,x<=b)->il 0 ns<=b:=λ{ns} hb h=>by
 cases ns with
 |nil=>exact hb
 |cons n ns=>
  rcases(foldl_max ns n).2.2 with e|e
  ·show ns.foldl max n<=b
   rw[e];exact h n (l7 ..)
  ·exact h _ (k4 _ e)
theorem D_{ns:List Int}{x:Int}(h:x∈ns):x<=il 0 ns:=by
 cases ns with
 |nil=>cases h
 |cons n ns=>
  show x<=ns.foldl max n
  rcases z5.mp h with rfl|h
  ·exact(foldl_max ns x).1
  ·exact(foldl_max ns n).2.1 x h
theorem zS{ns:List Int}(h:∀x∈ns,0<=x):0<=il 0 ns:=by
 cases ns with
 |nil=>exact Int.le_refl _
 |cons n ns=>exact Int.le_trans (h n (l7 ..)) (D_ (l7 ..))
theorem vm(as:List Int):dot as []=0:=by unfold dot;rw[zipWith_nil_right];rfl
theorem qN(a b:Int)(as bs:List Int):dot (a::as) (b::bs)=a*b+dot as bs:=by unfold dot;rw[zipWith_cons_cons,sum_cons]
theorem vk:∀{as bs:List Int},(∀x∈as,0<=x)->(∀x∈bs,0<=x)->0<=dot as bs
 |[],bs,_,_=>by unfold dot;simp
 |a::as,[],_,_=>by rw[vm];exact Int.le_refl _
 |a::as,b::bs,h,q=>by
  rw[qN]
  have:=vk (as:=as) (bs:=bs) (λ x hx=>h x (k4 _ hx)) (λ x hx=>q x (k4 _ hx))
  have:=Int.mul_nonneg (h a (l7 ..)) (q b (l7 ..))
  omega
theorem Ba{B:Int}(hB:0<=B):∀{as bs:List Int},(∀x∈as,0<=x)->(∀x∈bs,x<=B)->dot as bs<=as.sum*B
 |[],bs,_,_=>by unfold dot;simp
 |a::as,[],h,_=>by
  rw[vm]
  refine Int.mul_nonneg ?_ hB
  have:∀l:List Int,(∀x∈l,0<=x)->0<=l.sum:=λ l=>by
   induction l with
   |nil=>intro _;simp
   |cons x l ih=>intro h;rw[sum_cons];have:=ih λ y hy=>h y (k4 _ hy);have:=h x (l7 ..);omega
  exact this _ h
 |a::as,b::bs,h,q=>by
  rw[qN,sum_cons,Int.add_mul]
  have h1:=Ba hB (as:=as) (bs:=bs) (λ x hx=>h x (k4 _ hx)) (λ x hx=>q x (k4 _ hx))
  have h2:=Int.mul_le_mul_of_nonneg_left (q b (l7 ..)) (h a (l7 ..))
  omega
theorem FH{aW:List (List (List Int))}(G:oY aW):∀i,i<=aW.length->∀x∈pe aW i,0<=x/\x<=5^i
 |0,_,x,hx=>by cases hx
 |i+1,hi,x,hx=>by
  have ih:=FH G i (by omega)
  have U6:(0:Int) < 5^i:=Int.pow_pos (by decide)
  have e5:(5:Int)^(i+1)=5*5^i:=by rw[Int.pow_succ,Int.mul_comm]
  have hx:x∈pe aW i++[il 0 ((aW.getD i []).map λ o=>1+dot o (pe aW i))]:=hx
  rcases x9.mp hx with q|q
  ·have:=ih x q
   omega
  ·have e:x=il 0 ((aW.getD i []).map λ o=>1+dot o (pe aW i)):=by simpa using q
   have ho:=(G.opts i (by omega)).2
   subst e
   constructor
   ·refine zS λ y hy=>?_
    obtain⟨o,rH,rfl⟩:=z9.mp hy
    have:=vk (ho o rH).1 λ z hz=>(ih z hz).1
    omega
   ·refine D9 (by omega) λ y hy=>?_
    obtain⟨o,rH,rfl⟩:=z9.mp hy
    have h1:=Ba (B:=5^i) (by omega) (ho o rH).1 λ z hz=>(ih z hz).2
    have h2:=(ho o rH).2.1
    have h3:o.sum*5^i<=4*5^i:=Int.mul_le_mul_of_nonneg_right h2 (by omega)
    omega
theorem OM{i:Nat}(h:i<=12):(5:Int)^i<=1000000000:=by
 have:∀j:Fin 13,(5:Int)^(j:Nat)<=1000000000:=by decide
 exact this ⟨i,by omega⟩
theorem zp{aW:List (List (List Int))}(G:oY aW){i:Nat}(hi:i<=aW.length):∀x∈pe aW i,0<=x/\x<=1000000000:=λ x hx=>by
 have h:=FH G i hi x hx
 have:=OM (i:=i) (by have:=G.kT;omega)
 omega
def gM(os:List (List Int)):D:=.tup (os.map row)
def ym:fU:=λ ds M Q=>∃(q:Addr) (aW:List (List (List Int))),ds=[.ref q]/\M q=some (.lst (aW.map gM))/\oY aW/\∀(p:Addr) (M':Mem),M p=none->M' p=some (.lst ((pe aW aW.length).map D.int))->Ext M M'->Q (.ref p) M'
theorem Bb(o ps:List Int):((o.take ps.length).zipIdx).map (λ p=>D.int (p.1*ps.getD p.2 0))=(List.zipWith (·*·) o ps).map D.int:=by
 refine ext_getElem? λ i=>?_
 rw[n4,n4,getElem?_zipIdx,getElem?_zipWith,getElem?_take]
 by_cases hi:i < ps.length
 ·rw[B3 hi,i5 hi]
  cases o[i]? with
  |none=>rfl
  |some x=>simp[c7,hi]
 ·rw[B4 hi,j9 (show ps.length<=i by omega)]
  cases o[i]? <;> rfl
section
variable {P:Program}{w:World}{K:PySem.W.Frag}{mg:Str->Option Value}{base:Heap}
theorem cp:aH ["_law_options_here","_law_found","_law_sums","_law_lengths_here"] ["_law_options_here"] (aj (top 22)):=⟨rfl,rfl,rfl,by decide+kernel,rfl,by decide+kernel,by decide+kernel⟩
theorem DT{f:Addr}{fd:FuncData}(F:ff K "_law_lengths" "_law_lengths" (top 22) f fd)(T:jr K mg):bw P w K mg base eP 1 f fd ["_law_options_here"] (cE K ym):=by
 refine l_ F cp (λ ds M Q h=>?_) (λ bW A outer s H E ds M Q hr h=>?_)
 ·obtain⟨q,aW,rfl,_⟩:=h
  rfl
 ·obtain⟨q,aW,rfl,hq,G,k⟩:=h
  have hfew:=G.kT
  refine⟨_,(ag (aP (i:=1) cp.nd rfl (Or.inr rfl) (fj ae))
 (ag (dj x3 rfl (bT (ax 0)) (cb (i:=2) cp.nd rfl (Or.inl rfl))
 (ag (js (i:=3) cp.nd rfl (Or.inl rfl) (tgs:=["_law_counts_here"]) (fr:=[1]) ⟨bz (by kernel_rfl),rfl,(λ _ _ h=>h),(bT (ax 2)),(aU (λ _ _ _ _ _=>(aS (i:=0) (show(["_law_counts_here","_law_found"]:List Str).Nodup by decide+kernel) rfl (Or.inl rfl))) (by decide)),(λ _ _ _ _ _=>bo),(λ _ _ _ _ _=>(mW (rj rfl) uf (by rfl) T.sum (by decide+kernel) (tgs:=["_law_h","_law_n"]) (fr:=[1]) ⟨bz (by kernel_rfl),rfl,(λ _ _ h=>h),(mV rfl T.enumerate (aa (mX yw (ax 0) mT (mS (aR iP (by rfl) T.len (by decide+kernel) (aa (ax 1) ae)))) ae)),(pq (λ _ _ _ _ _=>(sJ rfl (fv (aS (i:=0) (show(["_law_h","_law_n","_law_found"]:List Str).Nodup by decide+kernel) rfl (Or.inl rfl)) (fv (aS (i:=1) (show(["_law_h","_law_n","_law_found"]:List Str).Nodup by decide+kernel) rfl (Or.inl rfl)) nL)))) (by decide) (by decide)),(λ _ _ _ _ _=>bo),(λ _ _ _ _ _=>(bI ij (ax 1) (bE bh (ax 2) (ax 0) (λ _ _=>rfl))))⟩))⟩)
 (ak (jb (yb i7 i4 i6 gN (ax 1) (aa (Gx rfl (by rfl) T.max (tgs:=["_law_play"]) (fr:=[]) ⟨bz (by kernel_rfl),rfl,(λ _ _ h=>h),(bT (ax 3)),(aU (λ _ _ _ _ _=>(aS (i:=0) (show(["_law_play"]:List Str).Nodup by decide+kernel) rfl (Or.inl rfl))) (by decide)),(λ _ _ _ _ _=>bo),(λ _ _ _ _ _=>(bI bM (ax 0) au))⟩) ae))))))
 (ak (aM (ax 1))))),?_⟩
  walk_at "rd"
  refine⟨by decide,λ p hp=>?_⟩
  have BN:q≠p:=λ z=>by subst z;rw[hq]at hp;cases hp
  have e0:Ext M (aw M p (.lst [])):=qf (λ b o e=>e) hp _
  have NJ:=e0 _ _ hq
  walk_at "rd"
  refine My (ds:=aW.map gM) (λ i δ M'=>∃(v1 v2:Option D),δ=[some (.ref q),some (.ref p),v1,v2]/\M' p=some (.lst ((pe aW i).map D.int))/\Ext M M') ⟨none,none,rfl,ar,e0⟩ (λ i δ M' hi h=>?_) (λ i d δ M' hd h=>?_) (λ δ M' h=>?_)
  ·obtain⟨v1,v2,rfl,h3,hM⟩:=h
   exact hM _ _ hq
  ·obtain⟨v1,v2,rfl,h3,hM⟩:=h
   rw[n4]at hd
   have hi:i < aW.length:=by
    refine r6 λ z=>?_
    rw[j9 z]at hd
    cases hd
   have fQ:d=gM (aW.getD i []):=by
    rw[i5 hi]at hd
    rw[c7,i5 hi]
    exact(w9 hd).symm
   subst fQ
   obtain⟨ho,SN⟩:=G.opts i hi
   have Pr:=zp G (i:=i) (by omega)
   have hpl:=nJ aW i
   have step:pe aW (i+1)=pe aW i++[il 0 ((aW.getD i []).map λ o=>1+dot o (pe aW i))]:=rfl
   generalize aW.getD i []=os at*
   generalize pe aW i=ps at*
   unfold gM
   walk_at "rd"
   refine cC (xs:=os) (enc:=row) (λ o=>D.int (dot o ps)) (by omega) (λ j o N ho hN=>?_) ?_
   ·have LZ:=(SN o (k7 ho)).2.2
    walk_at "rd"
    refine yJ (by omega) ?_
    rw[n6,x8,<- map_take]
    walk_at "rd"
    refine E7 (xs:=o.take ps.length) (enc:=D.int) (λ p=>D.int (p.1*ps.getD p.2 0)) (by rw[u5];omega) (λ l x N2 hx NP=>?_) ?_
    ·have hl:=(g9.mp hx).1
     rw[u5]at hl
     walk_at "rd"
     refine dy h3 (rC (i:=l) (by omega)) ?_
     have hb:=Pr (ps.getD l 0) (by rw[c7,i5 (by omega)];exact u6 _)
     exact gH (Bs (by omega) (by omega)) NP
    ·rw[Bb]
     exact uw hN
   ·intro r hr
    have PX:=qf hM hr (.lst (os.map λ o=>D.int (dot o ps)))
    have SO:p≠r:=λ z=>by subst z;rw[h3]at hr;cases hr
    have P':aw M' r (.lst (os.map λ o=>D.int (dot o ps))) p=some (.lst (ps.map D.int)):=by rw[aB SO];exact h3
    walk_at "rd"
    refine⟨⟨rfl,_,P'⟩,?_⟩
    walk_at "rd"
    refine mH (xs:=os) (λ o=>D.int (dot o ps)) (λ o=>D.int (1+dot o ps)) (by omega) ar (λ j o N _ hN=>?_) ?_
    ·walk_at "rd"
     rw[Int.add_comm]
     exact hN
    ·refine⟨os.map λ o=>1+dot o ps,by rw[A0];rfl,?_⟩
     walk_at "rd"
     refine nF P' (by rw[x8,hpl];exact m7 (show i<=1000 by omega) (by decide)) ?_
     walk_at "rd"
     refine⟨_,_,rfl,?_,Ext.own PX hp⟩
     rw[ar,step,y0]
     rfl
  ·obtain⟨v1,v2,rfl,h3,hM⟩:=h
   rw[x8]at h3
   walk_at "rd"
   exact ay (k p M' hp h3 hM)
end
def yl:fU:=λ ds M Q=>∃(a c o:Addr) (aW:List (List Row)) (n:Nat) (dp:Int),ds=[.ref a,.ref o,.int n,.int dp]/\Flow M a c/\o≠a/\M o=some (.lst (aW.map gM))/\aW.length<=n/\n<=12/\(∀i os,aW[i]?=some os->os.length<=20/\∀r∈os,hW n i r)/\∀(os:List Row) (M':Mem),os.length<=20->(∀r∈os,hW n aW.length r)->Fl a c M M'->Q (gM os) M'
theorem DI{aW:List (List Row)}{n:Nat}(hl:aW.length<=n)(hn:n<=12)(h:∀i os,aW[i]?=some os->os.length<=20/\∀r∈os,hW n i r):oY aW:=by
 refine⟨by omega,λ i hi=>?_⟩
 obtain⟨h1,h2⟩:=h i _ (i5 hi)
 have e:aW.getD i []=aW[i]:=by rw[c7,i5 hi];rfl
 rw[e]
 exact⟨by omega,λ o ho=>⟨(h2 o ho).pos,(h2 o ho).sum,by rw[(h2 o ho).len];omega⟩⟩
theorem Ext.fl {M M':Mem}{f c:Addr}(h:Ext M M')(F:Flow M f c):Fl f c M M':=by
 obtain⟨ns,p,b,sd,ct,h1,h2,h3⟩:=F.ex
 exact⟨⟨ns,p,b,sd,ct,h _ _ h1,h _ _ h2,h3⟩,λ b o _ e=>h b o e⟩
section
variable {P:Program}{w:World}{K:PySem.W.Frag}{mg:Str->Option Value}{base:Heap}
theorem aV:aH ["_law_flow_here","_law_ahead","_law_many","_law_deep","_law_at","_law_form","_law_rows","_law_lengths_here","_law_sums","_law_k"] ["_law_flow_here","_law_ahead","_law_many","_law_deep"] (aj (top 26)):=⟨rfl,rfl,rfl,by decide+kernel,rfl,by decide+kernel,by decide+kernel⟩
theorem DR{f:Addr}{fd:FuncData}(F:ff K "_law_options" "_law_options" (top 26) f fd)(T:jr K mg)(aJ:cO P w K mg base 1 "_law_pick" ["_law_flow_here","_law_many"] jG)(lq:cO P w K mg base 1 "_law_lengths" ["_law_options_here"] ym)(oG:cO P w K mg base 1 "_law_counts" ["_law_heaps","_law_many"] pM)(kG:cO P w K mg base 4 "_law_in_order" ["_law_sums"] um):bw P w K mg base eP 5 f fd ["_law_flow_here","_law_ahead","_law_many","_law_deep"] (cE K yl):=by
 refine l_ F aV (λ ds M Q h=>?_) (λ bW A outer s H E ds M Q hr h=>?_)
 ·obtain⟨a,cc,o,aW,n,dp,rfl,_⟩:=h
  rfl
 ·obtain⟨a,cc,o,aW,n,dp,rfl,hF,J',NQ,hl,hn,iW,k⟩:=h
  refine⟨_,(ag (aP (i:=4) aV.nd rfl (Or.inr rfl) (aR iP (by rfl) T.len (by decide+kernel) (aa (ax 1) ae)))
 (ag (aP (i:=5) aV.nd rfl (Or.inl rfl) (bc aJ (hr.mono (by decide)) (by rfl) (aa (ax 0) (aa au ae))))
 (ag (aP (i:=6) aV.nd rfl (Or.inl rfl) (fj ae))
 (ag (bZ (bj (gb hr.units) (ax 5) au (bf _))
 (ak (aM (iz ae)))
 bx)
 (ag (bZ (rQ (bj (gb hr.units) (ax 5) au (bf _)) (mR (bj DY (ax 4) au (bf _)))).pt
 (ak (aM (bE bh (ax 1) (bc aJ (hr.mono (by decide)) (by rfl) (aa (ax 0) (aa (ax 4) ae))) (λ _ _=>rfl))))
 bx)
 (ag (bZ (bj Iz (ax 5) au (bf _))
 (ag (aP (i:=6) aV.nd rfl (Or.inl rfl) (bI bM (fj (aa (fj ae) ae)) (mY (tgs:=["_law_h"]) (fr:=[]) ⟨bz (by kernel_rfl),rfl,(λ _ _ h=>h),(bH rfl T.range (aa (ax 4) ae)),(aU (λ _ _ _ _ _=>(aS (i:=0) (show(["_law_h"]:List Str).Nodup by decide+kernel) rfl (Or.inl rfl))) (by decide)),(λ _ _ _ _ _=>bo),(λ _ _ _ _ _=>(fj (aa (ax 0) ae)))⟩)))
 (ak (aP (i:=6) aV.nd rfl (Or.inl rfl) (mX yw (ax 6) mT (mS (bI bM au (bc aJ (hr.mono (by decide)) (by rfl) (aa (ax 0) (aa (bI bM (ax 4) au) ae)))))))))
 (ak (dj x3 rfl (bH rfl T.range (aa (bI bM au (bc aJ (hr.mono (by decide)) (by rfl) (aa (ax 0) (aa au ae)))) ae)) (cb (i:=9) aV.nd rfl (Or.inl rfl))
 (ak (jb (yb i7 i4 i6 gN (ax 6) (aa (mY (tgs:=["_law_j"]) (fr:=[0,4]) ⟨bz (by kernel_rfl),rfl,(λ _ _ h=>h),(bH rfl T.range (aa (bI ij (aR (MQ rfl) (by rfl) T.min (by decide+kernel) (aa (ax 4) (aa au ae))) (bc aJ (hr.mono (by decide)) (by rfl) (aa (ax 0) (aa au ae)))) ae)),(aU (λ _ _ _ _ _=>(aS (i:=0) (show(["_law_j","_law_flow_here","_law_at"]:List Str).Nodup by decide+kernel) rfl (Or.inl rfl))) (by decide)),(λ _ _ _ _ _=>bo),(λ _ _ _ _ _=>(bc aJ (hr.mono (by decide)) (by rfl) (aa (ax 1) (aa (ax 2) ae))))⟩) ae)))))))
 (ag (aP (i:=7) aV.nd rfl (Or.inr rfl) (bc lq (hr.mono (by decide)) (by rfl) (aa (ax 1) ae)))
 (ag (js (i:=8) aV.nd rfl (Or.inl rfl) (tgs:=["_law_row"]) (fr:=[2,3,7]) ⟨bz (by kernel_rfl),rfl,(λ _ _ h=>h),(bT (ax 6)),(aU (λ _ _ _ _ _=>(aS (i:=0) (show(["_law_row","_law_many","_law_deep","_law_lengths_here"]:List Str).Nodup by decide+kernel) rfl (Or.inl rfl))) (by decide)),(λ _ _ _ _ _=>(mU (bj Iz (mW (rj rfl) uf (by rfl) T.sum (by decide+kernel) (tgs:=["_law_h"]) (fr:=[3]) ⟨bz (by kernel_rfl),rfl,(λ _ _ h=>h),(bT (ax 0)),(aU (λ _ _ _ _ _=>(aS (i:=0) (show(["_law_h","_law_lengths_here"]:List Str).Nodup by decide+kernel) rfl (Or.inl rfl))) (by decide)),(λ _ _ _ _ _=>bo),(λ _ _ _ _ _=>(bE bh (ax 1) (ax 0) (λ _ _=>rfl)))⟩) (ax 2) (bf _)))),(λ _ _ _ _ _=>(bc oG (hr.mono (by decide)) (by rfl) (aa (ax 0) (aa (ax 1) ae))))⟩)
 (ak (aM (bc kG (hr.mono (by decide)) (by rfl) (aa (ax 8) ae)))))))))))),?_⟩
  walk_at "rd"
  rw[x8]
  refine⟨a,cc,8,rfl,hF,by decide,by decide,λ d1 o1 d0 d8 Jm=>?_⟩
  have F1:Fl a cc M _:=Fl.pick Jm
  generalize aw M a o1=M1 at*
  walk_at "rd"
  refine⟨by decide,λ p hp=>?_⟩
  have F2:=F1.trans (Fl.put (o:=.lst []) F1.bF hp)
  have FX:=(F1.bF.ne hp).1
  have SQ:M p=none:=by
   cases z:M p with
   |none=>rfl
   |some u=>rw[F1.mv p u FX z]at hp;cases hp
  have xP:aw M1 p (.lst []) p=some (.lst (([]:List Addr).map D.ref)):=ar
  generalize aw M1 p (.lst [])=M2 at*
  walk_at "rd"
  refine bB (λ e=>?_) (λ e=>?_)
  ·walk_at "rd"
   exact⟨A4 _,ay (k [] _ (by decide) (λ r h=>by cases h) F2)⟩
  ·walk_at "rd1"
   with_reducible refine ic (λ δ' M'=>δ'=[some (.ref a),some (.ref o),some (.int n),some (.int dp),some (.int (aW.length:Nat)),some (.int d1),some (.ref p),none,none,none]/\M'=M2) (λ N hN=>?_) ?_
   ·walk_at "rd"
    refine bB (λ e1=>?_) (λ e1=>?_)
    ·walk_at "rd"
     refine bB (λ e2=>?_) (λ e2=>?_)
     ·walk_at "rd"
      refine⟨a,cc,aW.length,rfl,F2.bF,by omega,by omega,λ d2 o2 RA Uk rJ=>?_⟩
      have F3:=F2.trans (Fl.pick rJ)
      obtain⟨j,rfl⟩:∃j:Nat,d2=(j:Int):=⟨d2.toNat,by omega⟩
      have hj:j < aW.length:=by omega
      obtain⟨g1,g2⟩:=iW j _ (i5 hj)
      refine dy (F3.mv o _ J' NQ) (bC (by rw[n4,i5 hj];rfl)) ?_
      walk_at "rd"
      exact ay (k _ _ g1 (λ r hr=>(g2 r hr).mono (by omega)) F3)
     ·walk_at "rd"
      exact hN _ _ ⟨rfl,rfl⟩
    ·walk_at "rd"
     exact hN _ _ ⟨rfl,rfl⟩
   ·rintro δ' M' ⟨rfl,rfl⟩
    with_reducible refine ic (λ δ' M'=>∃(v6:Addr) (qs:List Addr) (v9:Option D),δ'=[some (.ref a),some (.ref o),some (.int n),some (.int dp),some (.int (aW.length:Nat)),some (.int d1),some (.ref v6),none,none,v9]/\M' v6=some (.lst (qs.map D.ref))/\qs.length<=20/\cN a aW.length M' qs/\Fl a cc M M') (λ N hN=>?_) ?_
    ·walk_at "rd"
     refine bB (λ e1=>?_) (λ e1=>?_)
     ·walk_at "rd"
      refine⟨A4 _,λ p0 iV=>?_⟩
      have TQ:=(F2.bF.ne iV).1
      have F3:=F2.trans (Fl.put (o:=.lst []) F2.bF iV)
      have g0:aw M' p0 (.lst []) p0=some (.lst (([]:List Int).map D.int)):=ar
      generalize aw M' p0 (.lst [])=M3 at*
      walk_at "rd"
      refine⟨by show 1<=sizeLine;decide,λ p1 Pt=>?_⟩
      have F4:=F3.trans (Fl.put (o:=.lst [.ref p0]) F3.bF Pt)
      have Vb:=(F3.bF.ne Pt).1
      have g1:aw M3 p1 (.lst [.ref p0]) p1=some (.lst [.ref p0]):=ar
      have g0:aw M3 p1 (.lst [.ref p0]) p0=some (.lst (([]:List Int).map D.int)):=by rw[aB (gc g0 Pt)];exact g0
      generalize aw M3 p1 (.lst [.ref p0])=M4 at*
      walk_at "rd"
      refine⟨cV (by omega) (by omega),?_⟩
      rw[n6]
      refine tN (xs:=List.range aW.length) (enc:=KP) D.ref (λ qs M'=>Fl a cc M M'/\cN a aW.length M' (p0::qs)/\M' p1=some (.lst [.ref p0])) (by simp;omega) ⟨F4,cN.add cN.nil TQ g0 (by decide) (λ x h=>by cases h),g1⟩ (λ i x ys M' N hx hy h hN=>?_) (λ qs M' hl h=>?_)
      ·obtain⟨G1,G2,G3⟩:=h
       have hi:=(g9.mp hx).1
       have Pf:x=i:=by rw[l0 (by simpa using hi)]at hx;exact(w9 hx).symm
       subst Pf
       rw[p5]at hi
       walk_at "rd"
       refine⟨by show 1<=sizeLine;decide,λ q hq=>hN q _ ⟨G1.trans (Fl.put G1.bF hq),?_,by rw[aB (gc G3 hq)];exact G3⟩⟩
       refine cN.add (qs:=p0::ys) (G2.new hq) (G1.bF.ne hq).1 (hs:=[(x:Int)]) ?_ (by show 1<=4;decide) λ y hy=>?_
       ·rw[ar,G0]
        rfl
       ·rw[m9.mp hy]
        omega
      ·obtain⟨G1,G2,G3⟩:=h
       rw[p5]at hl
       intro p2 gA
       have G1:=G1.trans (Fl.put (o:=.lst (qs.map D.ref)) G1.bF gA)
       have G2:=G2.new gA (o:=.lst (qs.map D.ref))
       have G3:aw M' p2 (.lst (qs.map D.ref)) p1=some (.lst [.ref p0]):=by rw[aB (gc G3 gA)];exact G3
       walk_at "rd"
       refine yV G3 ar (by rw[x8,j6];exact small (by omega)) λ p3 EC=>?_
       generalize aw M' p2 (.lst (qs.map D.ref))=M5 at*
       have RK:=G1.trans (Fl.put (o:=.lst ([.ref p0]++qs.map D.ref)) G1.bF EC)
       have G2:=G2.new EC (o:=.lst ([.ref p0]++qs.map D.ref))
       have G4:aw M5 p3 (.lst ([.ref p0]++qs.map D.ref)) p3=some (.lst ((p0::qs).map D.ref)):=ar
       have TH:=(G1.bF.ne EC).1
       generalize aw M5 p3 (.lst ([.ref p0]++qs.map D.ref))=M6 at*
       walk_at "rd"
       refine⟨a,cc,aW.length+1,rfl,RK.bF,by omega,by omega,λ d2 o2 RA Uk rJ=>?_⟩
       have G1:=RK.trans (Fl.pick rJ)
       have G2:=G2.keep (Fl.pick rJ).mv
       have G4:=(Fl.pick rJ).mv _ _ TH G4
       generalize aw M6 a o2=M7 at*
       walk_at "rd"
       refine wm G4 (by omega) λ p4 J_=>?_
       walk_at "rd"
       exact hN _ _ ⟨p4,(p0::qs).take (1+d2).toNat,none,rfl,by rw[ar,map_take],by rw[u5,q9];omega,(G2.take _).new J_,G1.trans (Fl.put G1.bF J_)⟩
     ·walk_at "rd"
      refine⟨a,cc,4,rfl,F2.bF,by decide,by decide,λ d2 o2 RA Vd rJ=>?_⟩
      have F3:=F2.trans (Fl.pick rJ)
      have PV:aw M' a o2 p=some (.lst (([]:List Addr).map D.ref)):=by rw[aB FX];exact xP
      generalize aw M' a o2=M3 at*
      walk_at "rd"
      refine⟨cV (by omega) (by omega),?_⟩
      refine dO (λ j δ M'=>∃(v9:Option D) (qs:List Addr),δ=[some (.ref a),some (.ref o),some (.int n),some (.int dp),some (.int (aW.length:Nat)),some (.int d1),some (.ref p),none,none,v9]/\M' p=some (.lst (qs.map D.ref))/\qs.length=j/\cN a aW.length M' qs/\Fl a cc M M') ⟨none,[],rfl,PV,rfl,cN.nil,F3⟩ (λ j d δ M' hd h=>?_) (λ δ M' h=>?_)
      ·obtain⟨v9,qs,rfl,h3,Rf,hR,F4⟩:=h
       obtain⟨hj,rfl⟩:=de hd
       walk_at "rd"
       refine⟨⟨rfl,_,h3⟩,?_⟩
       walk_at "rd"
       refine⟨a,cc,3,rfl,F4.bF,by decide,by decide,λ d o h0 h1 BS=>?_⟩
       have F5:=F4.trans (Fl.pick BS)
       have hR:=hR.keep (Fl.pick BS).mv
       have h3:=(Fl.pick BS).mv _ _ FX h3
       generalize aw M' a o=M5 at*
       have Pz:(if(1:Int) < (aW.length:Int)then(1:Int)else(aW.length:Int))=if 1<=aW.length then 1 else 0:=by
        split <;> split <;> omega
       rw[Pz]
       refine gH (Bt (by split <;> omega) (by split <;> omega)) ?_
       have hle:(if 1<=aW.length then(1:Int)else 0)*d<=2/\0<=(if 1<=aW.length then(1:Int)else 0)*d/\(aW.length=0->(if 1<=aW.length then(1:Int)else 0)*d=0):=by
        split
        ·rw[Int.one_mul];exact⟨by omega,h0,λ z=>by omega⟩
        ·rw[Int.zero_mul];exact⟨by omega,by omega,λ _=>rfl⟩
       generalize(if 1<=aW.length then(1:Int)else 0)*d=c2 at hle ⊢
       obtain⟨c1,c0,cn⟩:=hle
       refine⟨cV (by omega) (by omega),?_⟩
       refine tN (xs:=List.range c2.toNat) (enc:=KP) D.int (λ ns M'=>Fl a cc M M'/\M' p=some (.lst (qs.map D.ref))/\cN a aW.length M' qs/\∀x∈ns,0<=x/\x < (aW.length:Int)) (by simp;omega) ⟨F5,h3,hR,λ x h=>by cases h⟩ (λ jj x ys M' N hx hy h hN=>?_) (λ ns M' hl h=>?_)
       ·obtain⟨F2,h3,hR,h2⟩:=h
        have hi:=(g9.mp hx).1
        rw[p5]at hi
        have hn:aW.length≠0:=λ z=>by have:=cn z;omega
        walk_at "rd"
        refine⟨a,cc,aW.length,rfl,F2.bF,by omega,by omega,λ d2 o2 NT P' Mv=>hN _ _ ⟨F2.trans (Fl.pick Mv),(Fl.pick Mv).mv _ _ FX h3,hR.keep (Fl.pick Mv).mv,λ x hx=>?_⟩⟩
        rcases x9.mp hx with q|q
        ·exact h2 x q
        ·have:x=d2:=by simpa using q
         omega
       ·obtain⟨F2,h3,hR,h2⟩:=h
        rw[p5]at hl
        intro p2 gA
        have BO:=gc h3 gA
        have TJ:=(F2.bF.ne gA).1
        have hR:=hR.new gA (o:=.lst (ns.map D.int))
        have F3:=F2.trans (Fl.put (o:=.lst (ns.map D.int)) F2.bF gA)
        have h3:aw M' p2 (.lst (ns.map D.int)) p=some (.lst (qs.map D.ref)):=by rw[aB BO];exact h3
        have h4:aw M' p2 (.lst (ns.map D.int)) p2=some (.lst (ns.map D.int)):=ar
        generalize aw M' p2 (.lst (ns.map D.int))=M8 at*
        walk_at "rd"
        refine nF h3 (by rw[x8];exact m7 (show qs.length<=12 by omega) (by decide)) ?_
        walk_at "rd"
        refine⟨_,qs++[p2],rfl,by rw[ar,y0];rfl,by rw[l9,j6];omega,(hR.put h3).add TJ (by rw[aB (B2 BO)];exact h4) (by omega) h2,?_⟩
        exact Fl.own F3 hF SQ
      ·obtain⟨v9,qs,rfl,h3,Rf,hR,F4⟩:=h
       rw[bu]at Rf
       exact hN _ _ ⟨p,qs,v9,rfl,h3,by omega,hR,F4⟩
    ·rintro δ' M' ⟨p,qs,v9,rfl,xP,U5,hR,F3⟩
     walk_at "rd"
     refine⟨o,aW,rfl,F3.mv o _ J' NQ,DI hl hn iW,λ l M4 U_ Ts hE=>?_⟩
     have F4:=F3.trans (hE.fl F3.bF)
     have hR:=hR.keep (M':=M4) λ b u _ e=>hE b u e
     have xP:=hE _ _ xP
     walk_at "rd"
     refine Bu (ds:=qs.map D.ref) (λ i acc M'=>M'=M4/\∃os:List Row,acc=os.map row/\os.length<=i/\∀r∈os,hW n aW.length r) ⟨rfl,[],rfl,A2 _,λ r h=>by cases h⟩ (λ i acc M' hi h=>?_) (λ i acc M' hi h=>?_) (λ i d acc M' hd h=>?_) (λ acc M' h=>?_)
     ·obtain⟨rfl,_⟩:=h
      exact xP
     ·obtain⟨rfl,os,rfl,o1,_⟩:=h
      rw[x8]at hi ⊢
      exact small (by omega)
     ·obtain⟨rfl,os,rfl,o1,o2⟩:=h
      rw[n4]at hd
      cases e:qs[i]? with
      |none=>rw[e]at hd;cases hd
      |some q=>
       rw[e]at hd
       cases hd
       obtain⟨J9,hs,Jl,hh,hx⟩:=hR q (k7 e)
       walk_at "rd"
       refine mH (xs:=hs) D.int (λ x=>D.int ((pe aW aW.length).getD x.toNat 0)) (by omega) Jl (λ j x N Eu hN=>?_) ?_
       ·have U3:=hx x (k7 Eu)
        obtain⟨m,rfl⟩:∃m:Nat,x=(m:Int):=⟨x.toNat,by omega⟩
        walk_at "rd"
        refine dy Ts (rC (by rw[nJ];omega)) ?_
        rw[n6]at hN
        exact hN
       ·rw[show(hs.map λ x=>D.int ((pe aW aW.length).getD x.toNat 0))=(hs.map λ x=>(pe aW aW.length).getD x.toNat 0).map D.int by rw[A0];rfl]
        refine uw ?_
        walk_at "rd"
        refine bB (λ _=>?_) (λ _=>?_)
        ·walk_at "rd"
         refine⟨q,hs,n,rfl,Jl,by omega,rfl,os++[iY hs n],by rw[y0];rfl,by rw[l9,j6];omega,λ r hr=>?_⟩
         rcases x9.mp hr with z|z
         ·exact o2 r z
         ·rw[m9.mp z];exact zE hh hx
        ·exact⟨rfl,os,rfl,by omega,o2⟩
     ·obtain⟨rfl,os,rfl,o1,o2⟩:=h
      rw[x8]at o1
      intro p2 gA
      walk_at "rd"
      refine⟨_,os,rfl,.inr ⟨p2,rfl,ar⟩,by omega,λ r hr=>by rw[(o2 r hr).len];omega,λ out ho LZ=>?_⟩
      exact ay (k out _ (by omega) (λ r hr=>o2 r (ho r hr)) (F4.trans (Fl.put F4.bF gA)))
end
structure QD(g:List br):Prop where
 nm:∀h∈g,Nm h.1
 nd:(g.map (·.1)).Nodup
theorem D1{zs:List Str}{aW:List (List Row)}(h:zs.length=aW.length)(h1:∀z∈zs,Nm z)(h2:zs.Nodup):QD (zs.zip aW):=
 ⟨λ p hp=>h1 _ (of_mem_zip hp).1,by rw[map_fst_zip (by omega)];exact h2⟩
def yp:fU:=λ ds M Q=>∃(a c:Addr) (m:Nat) (dp:Int),ds=[.ref a,.int m,.int dp]/\Flow M a c/\1<=m/\m<=12/\∀(n:Nat) (g:List br) (M':Mem),n<=12->gr n g->QD g->Fl a c M M'->Q (aX g) M'
theorem EN{n:Nat}{zs:List Str}{aW:List (List Row)}(hn:n<=12)(hz:zs.length=n)(ho:aW.length=n)(h:∀i os,aW[i]?=some os->os.length<=20/\∀r∈os,hW n i r):gr n (zs.zip aW):=by
 refine⟨by rw[length_zip];omega,hn,λ i hi=>?_⟩
 have e:(zs.zip aW).getD i iV=(zs[i]'(by omega),aW[i]'(by omega)):=by
  rw[c7,i5 (by rw[length_zip];omega)]
  simp
 rw[e]
 have:=h i _ (i5 (by omega))
 exact⟨by have:=this.1;show(aW[i]'_).length<=63;omega,this.2⟩
theorem xU{zs:List Str}{aW:List (List Row)}{n:Nat}(hz:zs.length=n)(ho:aW.length=n):(List.range n).map (λ i=>bK (zs.getD i (Str.ofString ""),aW.getD i []))=(zs.zip aW).map bK:=by
 refine ext_getElem? λ i=>?_
 by_cases hi:i < n
 ·rw[n4,n4,l0 hi,i5 (by rw[length_zip];omega)]
  simp[c7,hz,ho,hi]
 ·rw[j9 (by simpa using hi),j9 (by rw[x8,length_zip];omega)]
theorem DH{aW:List (List Row)}{os:List Row}{n:Nat}(h:∀i os,aW[i]?=some os->os.length<=20/\∀r∈os,hW n i r)(h1:os.length<=20)(h2:∀r∈os,hW n aW.length r):∀i FL,(aW++[os])[i]?=some FL->FL.length<=20/\∀r∈FL,hW n i r:=λ i FL e=>by
 by_cases fX:i < aW.length
 ·rw[c8 fX]at e
  exact h i FL e
 ·rw[c6 (by omega)]at e
  have PH:i - aW.length=0:=by
   have:=(g9.mp e).1
   simp at this
   omega
  rw[PH]at e
  have e:os=FL:=by simpa using e
  subst e
  have:i=aW.length:=by omega
  subst this
  exact⟨h1,h2⟩
section
variable {P:Program}{w:World}{K:PySem.W.Frag}{mg:Str->Option Value}{base:Heap}
theorem cR:aH ["_law_flow_here","_law_most","_law_deep","_law_many","_law_names_here","_law_options_here","_law_h"] ["_law_flow_here","_law_most","_law_deep"] (aj (top 27)):=⟨rfl,rfl,rfl,by decide+kernel,rfl,by decide+kernel,by decide+kernel⟩
theorem DV{f:Addr}{fd:FuncData}(F:ff K "_law_game" "_law_game" (top 27) f fd)(T:jr K mg)(aJ:cO P w K mg base 1 "_law_pick" ["_law_flow_here","_law_many"] jG)(qR:cO P w K mg base 3 "_law_names" ["_law_flow_here","_law_many"] pK)(lp:cO P w K mg base 5 "_law_options" ["_law_flow_here","_law_ahead","_law_many","_law_deep"] yl):bw P w K mg base eP 6 f fd ["_law_flow_here","_law_most","_law_deep"] (cE K yp):=by
 refine l_ F cR (λ ds M Q h=>?_) (λ bW A outer s H E ds M Q hr h=>?_)
 ·obtain⟨a,cc,m,dp,rfl,_⟩:=h
  rfl
 ·obtain⟨a,cc,m,dp,rfl,hF,bU,hm,k⟩:=h
  refine⟨_,(ag (aP (i:=3) cR.nd rfl (Or.inl rfl) (bI bM au (bc aJ (hr.mono (by decide)) (by rfl) (aa (ax 0) (aa (ax 1) ae)))))
 (ag (aP (i:=4) cR.nd rfl (Or.inr rfl) (bc qR (hr.mono (by decide)) (by rfl) (aa (ax 0) (aa (ax 3) ae))))
 (ag (aP (i:=5) cR.nd rfl (Or.inr rfl) (fj ae))
 (ag (dj x3 rfl (bH rfl T.range (aa (ax 3) ae)) (cb (i:=6) cR.nd rfl (Or.inl rfl))
 (ak (jb (yb i7 i4 i6 gN (ax 5) (aa (bc lp (hr.mono (by decide)) (by rfl) (aa (ax 0) (aa (ax 5) (aa (ax 3) (aa (ax 2) ae))))) ae)))))
 (ak (aM (dH cf bQ (by rfl) T.tuple (by decide+kernel) (tgs:=["_law_h"]) (fr:=[4,5]) ⟨bz (by kernel_rfl),rfl,(λ _ _ h=>h),(bH rfl T.range (aa (ax 3) ae)),(aU (λ _ _ _ _ _=>(aS (i:=0) (show(["_law_h","_law_names_here","_law_options_here"]:List Str).Nodup by decide+kernel) rfl (Or.inl rfl))) (by decide)),(λ _ _ _ _ _=>bo),(λ _ _ _ _ _=>(iz (aa (bE bh (ax 1) (ax 0) (λ _ _=>rfl)) (aa (bE bh (ax 2) (ax 0) (λ _ _=>rfl)) ae))))⟩))))))),?_⟩
  walk_at "rd"
  refine⟨a,cc,m,rfl,hF,by omega,by omega,λ d o h0 h1 Jm=>?_⟩
  have F1:Fl a cc M _:=Fl.pick Jm
  generalize aw M a o=M1 at*
  obtain⟨n,en⟩:∃n:Nat,1+d=(n:Int):=⟨(1+d).toNat,by omega⟩
  walk_at "rd"
  rw[en]
  refine⟨a,cc,n,rfl,F1.bF,by omega,λ p zs M2 hz hp xP F2 L9 L_=>?_⟩
  have F3:=F1.trans F2
  have FX:=(F1.bF.ne hp).1
  walk_at "rd"
  refine⟨by decide,λ o LX=>?_⟩
  have J':=(F3.bF.ne LX).1
  have F4:=F3.trans (Fl.put (o:=.lst []) F3.bF LX)
  have Rg:=gc xP LX
  have xP:aw M2 o (.lst []) p=some (.lst (zs.map D.str)):=by rw[aB Rg];exact xP
  have NQ:aw M2 o (.lst []) o=some (.lst (([]:List (List Row)).map gM)):=ar
  have SR:M o=none:=by
   cases z:M o with
   |none=>rfl
   |some u=>rw[F3.mv o u J' z]at LX;cases LX
  generalize aw M2 o (.lst [])=M3 at*
  walk_at "rd"
  refine⟨cV (by omega) (by omega),?_⟩
  rw[n6]
  refine dO (λ j δ M'=>∃(v6:Option D) (aW:List (List Row)),δ=[some (.ref a),some (.int m),some (.int dp),some (.int n),some (.ref p),some (.ref o),v6]/\M' p=some (.lst (zs.map D.str))/\M' o=some (.lst (aW.map gM))/\aW.length=j/\(∀i os,aW[i]?=some os->os.length<=20/\∀r∈os,hW n i r)/\Fl a cc M M') ⟨none,[],rfl,xP,NQ,rfl,λ i os h=>by simp at h,F4⟩ (λ j d δ M' hd h=>?_) (λ δ M' h=>?_)
  ·obtain⟨v6,aW,rfl,h1,h2,h3,h4,h5⟩:=h
   obtain⟨hj,rfl⟩:=de hd
   walk_at "rd"
   refine⟨⟨rfl,_,h2⟩,?_⟩
   walk_at "rd"
   refine⟨a,cc,o,aW,n,dp,rfl,h5.bF,J',h2,by omega,by omega,h4,λ os M5 g1 g2 g3=>?_⟩
   have h2:=g3.mv _ _ J' h2
   have h1:=g3.mv _ _ FX h1
   walk_at "rd"
   refine nF h2 (by rw[x8];exact m7 (show aW.length<=12 by omega) (by decide)) ?_
   walk_at "rd"
   refine⟨_,aW++[os],rfl,by rw[aB Rg];exact h1,by rw[ar,y0];rfl,by rw[l9,j6,h3],DH h4 g1 g2,Fl.own (h5.trans g3) hF SR⟩
  ·obtain⟨v6,aW,rfl,h1,h2,h3,h4,h5⟩:=h
   rw[bu]at h3
   walk_at "rd"
   refine⟨cV (by omega) (by omega),?_⟩
   rw[n6]
   refine cC (xs:=List.range n) (enc:=KP) (λ i=>bK (zs.getD i (Str.ofString ""),aW.getD i [])) (by simp;omega) (λ i x N hx hN=>?_) ?_
   ·have hi:=(g9.mp hx).1
    have Pf:x=i:=by rw[l0 (by simpa using hi)]at hx;exact(w9 hx).symm
    subst Pf
    rw[p5]at hi
    walk_at "rd"
    refine dy h1 (d:=.str (zs.getD x (Str.ofString ""))) (by rw[Int.zero_add];exact bC (by rw[n4,i5 (by omega),c7,i5 (by omega)];rfl)) ?_
    walk_at "rd"
    refine dy h2 (d:=gM (aW.getD x [])) (by rw[Int.zero_add];exact bC (by rw[n4,i5 (by omega),c7,i5 (by omega)];rfl)) ?_
    walk_at "rd"
    exact⟨by show 2<=sizeLine;decide,hN⟩
   ·rw[xU hz h3]
    walk_at "rd"
    exact ay (k n _ _ (by omega) (EN (by omega) hz h3 h4) (D1 (hz.trans h3.symm) L9 L_) h5)
end
def jR(as:Row)(some:List Nat):Row:=some.map λ h=>as.getD h 0
def cv(some:List Nat):D:=.tup (some.map λ(h:Nat)=>D.int (h:Int))
theorem Dw(as:Row)(some:List Nat):(jR as some).length=some.length:=by unfold jR;rw[x8]
def rZ:fU:=λ ds M Q=>∃(as:Row) (some:List Nat),ds=[row as,cv some]/\(∀h∈some,h < as.length)/\some.length<=1000/\Q (row (jR as some)) M
def uo:fU:=λ ds M Q=>∃(as:Row) (some:List Nat),ds=[row as,cv some]/\(∀h∈some,h < as.length)/\some.length<=1000/\as.length<=1000/\Q (.bl (decide ((jR as some).sum=as.sum))) M
def HY(hp:br)(some:List Nat):br:=(hp.1,hp.2.map λ o=>jR o some)
def uk:fU:=λ ds M Q=>∃(hp:br) (some:List Nat),ds=[bK hp,cv some]/\(∀o∈hp.2,∀h∈some,h < o.length)/\some.length<=1000/\hp.2.length<=1000/\Q (bK (HY hp some)) M
section
variable {P:Program}{w:World}{K:PySem.W.Frag}{mg:Str->Option Value}{base:Heap}
theorem kY:aH ["counts","some"] ["counts","some"] (aj (top 13)):=⟨rfl,rfl,rfl,by decide+kernel,rfl,by decide+kernel,by decide+kernel⟩
theorem DP{f:Addr}{fd:FuncData}(F:ff K "picked_sum" "picked_sum" (top 13) f fd)(T:jr K mg):bw P w K mg base eP 1 f fd ["counts","some"] (cE K rZ):=by
 refine l_ F kY (λ ds M Q h=>?_) (λ bW A outer s H E ds M Q hr h=>?_)
 ·obtain⟨as,so,rfl,_⟩:=h
  rfl
 ·obtain⟨as,so,rfl,hs,hl,k⟩:=h
  refine⟨_,(ak (aM (dH cf bQ (by rfl) T.tuple (by decide+kernel) (tgs:=["heap"]) (fr:=[0]) ⟨bz (by kernel_rfl),rfl,(λ _ _ h=>h),(bT (ax 1)),(aU (λ _ _ _ _ _=>(aS (i:=0) (show(["heap","counts"]:List Str).Nodup by decide+kernel) rfl (Or.inl rfl))) (by decide)),(λ _ _ _ _ _=>bo),(λ _ _ _ _ _=>(bE bh (ax 1) (ax 0) (λ _ _=>rfl)))⟩))),?_⟩
  unfold row cv
  walk_at "rx"
  refine cC (xs:=so) (enc:=λ(h:Nat)=>D.int (h:Int)) (λ h=>D.int (as.getD h 0)) (by omega) (λ j o N ho hN=>?_) ?_
  ·have hj:=hs o (k7 ho)
   walk_at "rx"
   refine dw (d:=D.int (as.getD o 0)) (bC (by rw[n4,i5 hj,c7,i5 hj];rfl)) ?_
   exact hN
  ·walk_at "rx"
   refine ay ?_
   have e:row (jR as so)=.tup (so.map λ h=>D.int (as.getD h 0)):=by unfold row jR;rw[A0];rfl
   rw[e]at k
   exact k
theorem pP:aH ["counts","some"] ["counts","some"] (aj (top 14)):=⟨rfl,rfl,rfl,by decide+kernel,rfl,by decide+kernel,by decide+kernel⟩
theorem zJ{f:Addr}{fd:FuncData}(F:ff K "is_among" "is_among" (top 14) f fd)(T:jr K mg)(eN:cO P w K mg base 1 "picked_sum" ["counts","some"] rZ):bw P w K mg base eP 2 f fd ["counts","some"] (cE K uo):=by
 refine l_ F pP (λ ds M Q h=>?_) (λ bW A outer s H E ds M Q hr h=>?_)
 ·obtain⟨as,so,rfl,_⟩:=h
  rfl
 ·obtain⟨as,so,rfl,hs,hl,ha,k⟩:=h
  refine⟨_,(ak (aM (lI (gb hr.units) (aR (rj rfl) (by rfl) T.sum (by decide+kernel) (aa (bc eN (hr.mono (by decide)) (by rfl) (aa (ax 0) (aa (ax 1) ae))) ae)) (aR (rj rfl) (by rfl) T.sum (by decide+kernel) (aa (ax 0) ae)) (bf _)))),?_⟩
  walk_at "rx"
  refine⟨as,so,rfl,hs,hl,?_⟩
  walk_at "rx"
  refine nE ?_
  walk_at "rx"
  refine nE ?_
  walk_at "rx"
  exact ay k
theorem jJ:aH ["heap","some"] ["heap","some"] (aj (top 15)):=⟨rfl,rfl,rfl,by decide+kernel,rfl,by decide+kernel,by decide+kernel⟩
theorem zF{f:Addr}{fd:FuncData}(F:ff K "picked_heap" "picked_heap" (top 15) f fd)(T:jr K mg)(eN:cO P w K mg base 1 "picked_sum" ["counts","some"] rZ):bw P w K mg base eP 2 f fd ["heap","some"] (cE K uk):=by
 refine l_ F jJ (λ ds M Q h=>?_) (λ bW A outer s H E ds M Q hr h=>?_)
 ·obtain⟨hp,so,rfl,_⟩:=h
  rfl
 ·obtain⟨⟨nm,os⟩,so,rfl,hs,hl,ho,k⟩:=h
  refine⟨_,(ak (aM (iz (aa (bE bh (ax 0) au (λ _ _=>rfl)) (aa (dH cf bQ (by rfl) T.tuple (by decide+kernel) (tgs:=["option"]) (fr:=[1]) ⟨bz (by kernel_rfl),rfl,(λ _ _ h=>h),(bT (bE bh (ax 0) au (λ _ _=>rfl))),(aU (λ _ _ _ _ _=>(aS (i:=0) (show(["option","some"]:List Str).Nodup by decide+kernel) rfl (Or.inl rfl))) (by decide)),(λ _ _ _ _ _=>bo),(λ _ _ _ _ _=>(bc eN (hr.mono (by decide)) (by rfl) (aa (ax 0) (aa (ax 1) ae))))⟩) ae))))),?_⟩
  unfold bK
  walk_at "rx"
  refine cC (xs:=os) (enc:=row) (λ o=>row (jR o so)) (A1 ho (by decide)) (λ j o N hj hN=>?_) ?_
  ·walk_at "rx"
   exact⟨o,so,rfl,hs o (k7 hj),hl,hN⟩
  ·walk_at "rx"
   refine ay ?_
   unfold bK HY at k
   rw[A0]at k
   exact k
end
structure eO(n:Nat)(so:List Nat):Prop where
 lt:∀h∈so,h < n
 up:so.Pairwise (· < ·)
theorem eO.len {n:Nat}{so:List Nat}(s:eO n so):so.length<=n:=by
 have h1:so.Nodup:=s.up.imp λ h e=>by omega
 have h2:=List.Nodup.length_le_of_subset h1 (λ x hx=>mem_range.mpr (s.lt x hx))
 rw[p5]at h2
 exact h2
def pH:fU:=λ ds M Q=>∃(a c:Addr) (n:Nat),ds=[.ref a,.int n]/\Flow M a c/\n<=12/\∀(so:List Nat) (M':Mem),eO n so->Fl a c M M'->Q (cv so) M'
section
variable {P:Program}{w:World}{K:PySem.W.Frag}{mg:Str->Option Value}{base:Heap}
theorem jK:aH ["_law_flow_here","_law_many"] ["_law_flow_here","_law_many"] (aj (top 28)):=⟨rfl,rfl,rfl,by decide+kernel,rfl,by decide+kernel,by decide+kernel⟩
theorem DO{f:Addr}{fd:FuncData}(F:ff K "_law_some_of" "_law_some_of" (top 28) f fd)(T:jr K mg)(aJ:cO P w K mg base 1 "_law_pick" ["_law_flow_here","_law_many"] jG):bw P w K mg base eP 2 f fd ["_law_flow_here","_law_many"] (cE K pH):=by
 refine l_ F jK (λ ds M Q h=>?_) (λ bW A outer s H E ds M Q hr h=>?_)
 ·obtain⟨a,c,n,rfl,_⟩:=h
  rfl
 ·obtain⟨a,cc,n,rfl,hF,hn,k⟩:=h
  refine⟨_,(ak (aM (dH cf bQ (by rfl) T.tuple (by decide+kernel) (tgs:=["_law_h"]) (fr:=[0]) ⟨bz (by kernel_rfl),rfl,(λ _ _ h=>h),(bH rfl T.range (aa (ax 1) ae)),(aU (λ _ _ _ _ _=>(aS (i:=0) (show(["_law_h","_law_flow_here"]:List Str).Nodup by decide+kernel) rfl (Or.inl rfl))) (by decide)),(λ _ _ _ _ _=>(mU (bj (gb hr.units) (bc aJ (hr.mono (by decide)) (by rfl) (aa (ax 1) (aa au ae))) au (bf _)))),(λ _ _ _ _ _=>(ax 0))⟩))),?_⟩
  walk_at "rx"
  refine⟨cV (by omega) (by omega),?_⟩
  refine fF (ds:=eI 0 (n:Int).toNat) (λ i acc M2=>∃so:List Nat,acc=so.map (λ(h:Nat)=>D.int (h:Int))/\eO i so/\Fl a cc M M2) ⟨[],rfl,⟨λ h z=>(by cases z),.nil⟩,⟨hF,λ b o _ e=>e⟩⟩ (λ i acc M2 hi h=>?_) (λ i d acc M2 hd h=>?_) (λ acc M2 h=>?_)
  ·obtain⟨so,rfl,hs,_⟩:=h
   rw[bu]at hi
   rw[x8]
   have:=hs.len
   exact small (by omega)
  ·obtain⟨so,rfl,hs,F2⟩:=h
   obtain⟨hi,rfl⟩:=de hd
   walk_at "rx"
   refine⟨a,cc,2,rfl,F2.bF,by decide,by decide,λ d1 o1 _ _ Tt=>?_⟩
   have F9:=F2.trans (Fl.pick Tt)
   walk_at "rx"
   refine bB (λ _=>?_) (λ _=>?_)
   ·walk_at "rx"
    refine⟨so++[i],by rw[y0];simp,⟨λ h hh=>?_,?_⟩,F9⟩
    ·rcases x9.mp hh with z|z
     ·have:=hs.lt h z;omega
     ·have:h=i:=by simpa using z
      omega
    ·refine pairwise_append.mpr ⟨hs.up,pairwise_singleton _ _,λ x hx y hy=>?_⟩
     have:y=i:=by simpa using hy
     have:=hs.lt x hx
     omega
   ·exact⟨so,rfl,⟨λ h hh=>Nat.lt_succ_of_lt (hs.lt h hh),hs.up⟩,F9⟩
  ·obtain⟨so,rfl,hs,F2⟩:=h
   rw[bu,n6]at hs
   walk_at "rx"
   exact ay (k so _ hs F2)
end
section
variable {P:Program}{w:World}{K:PySem.W.Frag}{mg:Str->Option Value}{base:Heap}
theorem wb:aH ["self","heap"] ["self","heap"] (aj (qt 10)):=⟨rfl,rfl,rfl,by decide+kernel,rfl,by decide+kernel,by decide+kernel⟩
theorem wI{fd:FuncData}(F:ff K "__init__" "NoPick.__init__" (qt 10) 193 fd)(T:jr K mg):bw P w K mg base eP 1 193 fd ["self","heap"] (Oo 196 [Str.ofString "heap"]):=by
 refine F.ok wb (λ vs H Q E h=>?_) (λ bW A outer s H vs Q E hr h=>?_)
 ·obtain⟨e,t,us,rfl,hl,_⟩:=h
  rw[q9,hl]
  rfl
 ·obtain⟨e,t,us,rfl,hl,he,k⟩:=h
  obtain⟨u,rfl⟩:=RM hl
  refine⟨_,jQ (uI (zB (by rfl) T.iH T.oB (aK (pv 0) (aK (pv 1) cu)))) (nH (Lk (pv 0) (pv 1))),?_⟩
  refine⟨.ref e,rfl,u,rfl,e,_,_,t,[u],rfl,he,T.bY.ec,by simp,λ t1=>?_⟩
  refine⟨u,rfl,.ref e,rfl,e,_,_,t1,rfl,T.bY.ec,T.bY.Q0 (by simp),.inl ⟨aI,λ dx hd ne=>?_⟩⟩
  have z:=k t1 dx (by rw[av ne]at hd;exact hd) ne
  rw[m_]
  exact z
theorem xi(T:jr K mg):Gn P w K mg base 1 "NoPick" 196 [Str.ofString "heap"]:=by
 obtain⟨fd,F⟩:=T.bY.F
 exact⟨T.bY.m,_,fd,_,T.bY.ec,wI F T,F.binds λ _ _ _ _ _ _=>ln2 λ _ _=>rfl⟩
end
def xM(g:List br)(so:List Nat):List br:=so.map λ h=>HY (g.getD h iV) so
theorem gS{n:Nat}{g:List br}(G:gr n g){h:Nat}(hh:h < n):(g.map bK)[h]?=some (bK (g.getD h iV)):=by
 have hl:h < g.length:=by rw[G.len];exact hh
 rw[n4,i5 hl,c7,i5 hl]
 rfl
def iE(g:List br)(so:List Nat)(h:Nat):Bool:=(g.getD h iV).2.all λ o=>decide ((jR o so).sum=o.sum)
def pI:BW:=λ ds M Q E=>∃(n:Nat) (g:List br) (so:List Nat),ds=[aX g,cv so]/\gr n g/\eO n so/\((∀h∈so,iE g so h=true)->∀M',Ext M M'->Q (aX (xM g so)) M')/\
 ∀(pre:List Nat) (h:Nat) (post:List Nat),so=pre++h::post->(∀x∈pre,iE g so x=true)->iE g so h=false->∀M',Ext M M'->E 196 [(Str.ofString "heap",.int h)] M'
theorem dZ{α:Type}(p:α->Bool):∀xs:List α,hU (xs.map λ x=>D.bl (p x))=some (xs.map p)
 |[]=>rfl
 |x::xs=>by rw[z4,z4];unfold hU;rw[dZ p xs];rfl
theorem C2{α:Type}{xs:List α}{p:α->Bool}{M:Mem}{Q:bq}(q:Q (.bl (xs.all p)) M):mF (xs.map λ x=>D.bl (p x)) M Q:=by
 unfold mF
 rw[dZ]
 have e:(xs.map p).all id=xs.all p:=by rw[List.all_map];rfl
 rw[<- e]at q
 exact q
section
variable {P:Program}{w:World}{K:PySem.W.Frag}{mg:Str->Option Value}{base:Heap}
theorem lV:aH ["game","some","heap"] ["game","some"] (aj (top 16)):=⟨rfl,rfl,rfl,by decide+kernel,rfl,by decide+kernel,by decide+kernel⟩
theorem wF{f:Addr}{fd:FuncData}(F:ff K "picked" "picked" (top 16) f fd)(T:jr K mg)(tM:cO P w K mg base 2 "is_among" ["counts","some"] uo)(lh:cO P w K mg base 2 "picked_heap" ["heap","some"] uk):bw P w K mg base (xK P w) 3 f fd ["game","some"] (pz K pI):=by
 have AW:=xi (P:=P) (w:=w) (base:=base) T
 refine Sb F lV (λ ds M Q E h=>?_) (λ bW A outer s H E ds M Q E2 hr h kx=>?_)
 ·obtain⟨n,g,so,rfl,_⟩:=h
  rfl
 ·obtain⟨n,g,so,rfl,G,S,kq,ke⟩:=h
  have SJ:bA 2 (A.deeper (PyProof.Rows.envOfC "picked" (aj (top 16)) s.heap.objs.size f bW)):=hr.mono (by decide)
  refine⟨_,(ag (dj Bl rfl (bT (ax 1)) (cb (i:=2) lV.nd rfl (Or.inl rfl))
 (ak (bZ (Gu (x_ (h_ (mW (Gk rfl) ug (by rfl) T.all (by decide+kernel) (tgs:=["option"]) (fr:=[1]) ⟨bz (by kernel_rfl),rfl,(λ _ _ h=>h),(bT (bE bh (bE bh (ax 0) (ax 2) (λ _ _=>rfl)) au (λ _ _=>rfl))),(aU (λ _ _ _ _ _=>(aS (i:=0) (show(["option","some"]:List Str).Nodup by decide+kernel) rfl (Or.inl rfl))) (by decide)),(λ _ _ _ _ _=>bo),(λ _ _ _ _ _=>(bc tM (hr.mono (by decide)) (by rfl) (aa (ax 0) (aa (ax 1) ae))))⟩))))
 (ak (ya xr kx rfl (by rfl) AW SJ (aa (ax 2) ae)))
 bx)))
 (ak (aM (Kq (dH cf bQ (by rfl) T.tuple (by decide+kernel) (tgs:=["heap"]) (fr:=[1,0]) ⟨bz (by kernel_rfl),rfl,(λ _ _ h=>h),(bT (ax 1)),(aU (λ _ _ _ _ _=>(aS (i:=0) (show(["heap","some","game"]:List Str).Nodup by decide+kernel) rfl (Or.inl rfl))) (by decide)),(λ _ _ _ _ _=>bo),(λ _ _ _ _ _=>(bc lh (hr.mono (by decide)) (by rfl) (aa (bE bh (ax 2) (ax 0) (λ _ _=>rfl)) (aa (ax 1) ae))))⟩))))),?_⟩
  have FW:=S.len
  have hfew:=G.kT
  unfold cv
  walk_at "rx"
  refine dO (λ i δ M'=>∃v:Option D,δ=[some (aX g),some (cv so),v]/\Ext M M'/\∀x∈so.take i,iE g so x=true) ⟨none,rfl,λ b o e=>e,λ x z=>by simp at z⟩ (λ i d δ M' hd h=>?_) (λ δ M' h=>?_)
  ·obtain⟨v,rfl,hE,hp⟩:=h
   rw[n4]at hd
   cases e:so[i]? with
   |none=>rw[e]at hd;cases hd
   |some h=>
    rw[e]at hd
    cases hd
    have hh:=S.lt h (k7 e)
    obtain⟨ho,qD⟩:=G.opts h hh
    unfold aX
    walk_at "rx"
    refine dw (d:=bK (g.getD h iV)) (bC (gS G hh)) ?_
    have ek:iE g so h=(g.getD h iV).2.all λ o=>decide ((jR o so).sum=o.sum):=rfl
    generalize g.getD h iV=hp at*
    obtain⟨nm,os⟩:=hp
    unfold bK
    walk_at "rx"
    have Po:∀o∈os,∀x∈so,x < o.length:=λ o z x y=>by rw[(qD o z).len];exact S.lt x y
    refine cC (xs:=os) (enc:=row) (λ o=>D.bl (decide ((jR o so).sum=o.sum))) (A1 ho (by decide)) (λ j o N hj hN=>?_) ?_
    ·have hm:=k7 hj
     walk_at "rx"
     exact⟨o,so,rfl,Po o hm,by omega,by rw[(qD o hm).len];omega,hN⟩
    ·refine C2 ?_
     have ek:iE g so h=os.all λ o=>decide ((jR o so).sum=o.sum):=ek
     rw[<- ek]
     cases hb:iE g so h with
     |false=>
      dsimp only
      rw[B3 (show(!false)=true from rfl)]
      refine yK ?_
      walk_at "rx"
      refine⟨rfl,by decide,?_⟩
      have hi:=(g9.mp e)
      refine ke (so.take i) h (so.drop (i+1)) ?_ hp hb M' hE
      rw[<- hi.2]
      exact(take_append_drop i so).symm.trans (by rw[g8 hi.1])
     |true=>
      walk_at "rx"
      refine⟨some (.int h),rfl,hE,λ x hx=>?_⟩
      rw[take_succ,e]at hx
      rcases x9.mp hx with z|z
      ·exact hp x z
      ·have:x=h:=by simpa using z
       rw[this];exact hb
  ·obtain⟨v,rfl,hE,hp⟩:=h
   rw[x8,r9]at hp
   walk_at "rx"
   unfold cv
   walk_at "rx"
   refine cC (xs:=so) (enc:=λ(h:Nat)=>D.int (h:Int)) (λ h=>bK (HY (g.getD h iV) so)) (by omega) (λ j h N hj hN=>?_) ?_
   ·have hh:=S.lt h (k7 hj)
    obtain⟨ho,qD⟩:=G.opts h hh
    unfold aX
    walk_at "rx"
    refine dw (d:=bK (g.getD h iV)) (bC (gS G hh)) ?_
    walk_at "rx"
    exact⟨g.getD h iV,so,rfl,λ o z x y=>by rw[(qD o z).len];exact S.lt x y,by omega,A1 ho (by decide),hN⟩
   ·walk_at "rx"
    have z:=kq hp _ hE
    unfold aX xM at z
    rw[A0]at z
    exact ay z
end
def nq:fU:=λ ds M Q=>∃(n:Nat) (g:List br) (so:List Nat),ds=[aX g,cv so]/\gr n g/\eO n so/\((∀h∈so,iE g so h=true)->∀M',Ext M M'->Q (aX (xM g so)) M')/\
 ∀(pre:List Nat) (h:Nat) (post:List Nat),so=pre++h::post->(∀x∈pre,iE g so x=true)->iE g so h=false->∀M',Ext M M'->Q (.tup [.str (Str.ofString "pick"),.int h]) M'
section
variable {P:Program}{w:World}{K:PySem.W.Frag}{mg:Str->Option Value}{base:Heap}
theorem cq:aH ["_law_game_here","_law_some","_law_told","_law_found","e"] ["_law_game_here","_law_some"] (aj (top 33)):=⟨rfl,rfl,rfl,by decide+kernel,rfl,by decide+kernel,by decide+kernel⟩
theorem zI{f:Addr}{fd:FuncData}(F:ff K "_law_asked" "_law_asked" (top 33) f fd)(T:jr K mg)(Bf:xI P w K mg base 3 "picked" ["game","some"] pI):bw P w K mg base eP 4 f fd ["_law_game_here","_law_some"] (cE K nq):=by
 refine l_ F cq (λ ds M Q h=>?_) (λ bW A outer s H E ds M Q hr h=>?_)
 ·obtain⟨n,g,so,rfl,_⟩:=h
  rfl
 ·obtain⟨n,g,so,rfl,G,S,kq,ke⟩:=h
  refine⟨_,(ag (aP (i:=2) cq.nd rfl (Or.inl rfl) ju) (ag (aP (i:=3) cq.nd rfl (Or.inl rfl) ju)
   (ag (BZ (i:=4) (j:=3) (h2:=λ C fs D δ M=>∃v,C=196/\fs=[(Str.ofString "heap",v)]/\D.nx (δ.set 2 (some (.tup [.str (Str.ofString "pick"),v]))) M) (λ _ _ z=>z) ⟨rfl,rfl⟩ cq.nd rfl (Or.inl rfl) rfl rfl Bf (hr.mono (by decide)) (by rfl) (aa (ax 0) (aa (ax 1) ae)) (by rfl) T.bY.m T.bY.cat
    ⟨λ a=>QY _ 4 2 (Str.ofString "other") (Str.ofString "pick") (Str.ofString "heap") 24 [44,63,82,101,120,139,158,177,215],λ a=>jQ (zl (i:=2) cq.nd rfl (Or.inl rfl) (FJ L2.bh (zx (aK (nM (aK sL cu)) (aK (nM (aK sL (aK (Ll (pv 4)) cu))) cu))) (ig xx (by rfl) T.int (by decide+kernel) (aK (gL xw (by rfl) T.isinstance (by decide+kernel) (aK (pv 4) (aK (dJ (by rfl) T.iH) cu))) cu)) (λ _ _=>rfl)))
     (nH (FE (zh (gL tV (by rfl) T.isinstance (by decide+kernel) (aK (pv 4) (aK (nM (aK (dJ (by rfl) T.By.m) (aK (dJ (by rfl) T.Fc.m) (aK (dJ (by rfl) T.Bz.m) (aK (dJ (by rfl) T.xA.m) (aK (dJ (by rfl) T.BA.m) (aK (dJ (by rfl) T.xB.m) (aK (dJ (by rfl) T.Fb.m) (aK (dJ (by rfl) T.xC.m) (aK (dJ (by rfl) T.Fd.m) cu)))))))))) cu)))) wy uH)),?suite⟩)
    (ag (bZ (bj uM (ax 2) ju (bf _))
 (ak (aM (ax 3)))
 bx) (ak (aM (ax 2))))))),?_⟩
  ·exact λ a C dx fs ds D D2 σ H' δ M' hσ h1 h2 fr sr rm hh ct=>KD (by decide) (Nat.le_of_ble_eq_true rfl) T.bY.ei (T.bY.eg (by simp)) T.kH T.kA hσ h1 h2 fr sr rm hh ct
  ·walk_at "rx"
   refine Cr (Nat.lt_succ_self 4) ?_
   walk_at "rx"
   refine⟨n,g,so,rfl,G,S,λ aL M' hM=>?_,λ pre h post e1 e2 e3 M' hM=>⟨T.bY.cat,T.sN,.int h,rfl,rfl,?_⟩⟩
   ·walk_at "rx"
    exact ay (kq aL M' hM)
   ·dsimp only[cJ.but]
    walk_at "rx"
    exact ay (ke pre h post e1 e2 e3 M' hM)
end
def lS:fU:=λ ds M Q=>∃(n:Nat) (g:List br) (so:List Nat),ds=[aX g,cv so]/\gr n g/\eO n so/\∀M',Ext M M'->Q (aX (xM g so)) M'
section
variable {P:Program}{w:World}{K:PySem.W.Frag}{mg:Str->Option Value}{base:Heap}
theorem kZ:aH ["_law_game_here","_law_some"] ["_law_game_here","_law_some"] (aj (top 29)):=⟨rfl,rfl,rfl,by decide+kernel,rfl,by decide+kernel,by decide+kernel⟩
theorem sQ{f:Addr}{fd:FuncData}(F:ff K "_law_picked" "_law_picked" (top 29) f fd)(T:jr K mg):bw P w K mg base eP 1 f fd ["_law_game_here","_law_some"] (cE K lS):=by
 refine l_ F kZ (λ ds M Q h=>?_) (λ bW A outer s H E ds M Q hr h=>?_)
 ·obtain⟨n,g,so,rfl,_⟩:=h
  rfl
 ·obtain⟨n,g,so,rfl,G,S,k⟩:=h
  have FW:=S.len
  have hfew:=G.kT
  refine⟨_,(ak (aM (dH cf bQ (by rfl) T.tuple (by decide+kernel) (tgs:=["_law_h"]) (fr:=[0,1]) ⟨bz (by kernel_rfl),rfl,(λ _ _ h=>h),(bT (ax 1)),(aU (λ _ _ _ _ _=>(aS (i:=0) (show(["_law_h","_law_game_here","_law_some"]:List Str).Nodup by decide+kernel) rfl (Or.inl rfl))) (by decide)),(λ _ _ _ _ _=>bo),(λ _ _ _ _ _=>(iz (aa (bE bh (bE bh (ax 1) (ax 0) (λ _ _=>rfl)) au (λ _ _=>rfl)) (aa (dH cf bQ (by rfl) T.tuple (by decide+kernel) (tgs:=["_law_counts_here"]) (fr:=[2]) ⟨bz (by kernel_rfl),rfl,(λ _ _ h=>h),(bT (bE bh (bE bh (ax 1) (ax 0) (λ _ _=>rfl)) au (λ _ _=>rfl))),(aU (λ _ _ _ _ _=>(aS (i:=0) (show(["_law_counts_here","_law_some"]:List Str).Nodup by decide+kernel) rfl (Or.inr rfl))) (by decide)),(λ _ _ _ _ _=>bo),(λ _ _ _ _ _=>(dH cf bQ (by rfl) T.tuple (by decide+kernel) (tgs:=["_law_g"]) (fr:=[0]) ⟨bz (by kernel_rfl),rfl,(λ _ _ h=>h),(bT (ax 1)),(aU (λ _ _ _ _ _=>(aS (i:=0) (show(["_law_g","_law_counts_here"]:List Str).Nodup by decide+kernel) rfl (Or.inl rfl))) (by decide)),(λ _ _ _ _ _=>bo),(λ _ _ _ _ _=>(bE bh (ax 1) (ax 0) (λ _ _=>rfl)))⟩))⟩) ae))))⟩))),?_⟩
  unfold cv
  walk_at "rx"
  refine cC (xs:=so) (enc:=λ(h:Nat)=>D.int (h:Int)) (λ h=>bK (HY (g.getD h iV) so)) (by omega) (λ j h N hj hN=>?_) ?_
  ·have hh:=S.lt h (k7 hj)
   obtain⟨ho,qD⟩:=G.opts h hh
   have ga:=gS G hh
   generalize g.getD h iV=hp at*
   obtain⟨nm,os⟩:=hp
   unfold aX
   walk_at "rx"
   refine dw (bC ga) ?_
   unfold bK
   walk_at "rx"
   refine dw (bC ga) ?_
   unfold bK
   walk_at "rx"
   have Po:∀o∈os,∀x∈so,x < o.length:=λ o z x y=>by rw[(qD o z).len];exact S.lt x y
   refine cC (xs:=os) (enc:=row) (λ o=>row (jR o so)) (A1 ho (by decide)) (λ l o N2 hl NP=>?_) ?_
   ·have hx:=Po o (k7 hl)
    walk_at "rx"
    refine cC (xs:=so) (enc:=λ(h:Nat)=>D.int (h:Int)) (λ h=>D.int (o.getD h 0)) (by omega) (λ m x N3 hm Tr=>?_) ?_
    ·have hj:=hx x (k7 hm)
     unfold row
     walk_at "rx"
     exact dw (d:=D.int (o.getD x 0)) (bC (by rw[n4,i5 hj,c7,i5 hj];rfl)) Tr
    ·have e:row (jR o so)=.tup (so.map λ h=>D.int (o.getD h 0)):=by unfold row jR;rw[A0];rfl
     rw[e]at NP
     exact NP
   ·walk_at "rx"
    unfold bK HY at hN
    rw[A0]at hN
    exact hN
  ·walk_at "rx"
   have z:=k _ (λ b o e=>e)
   unfold aX xM at z
   rw[A0]at z
   exact ay z
end
theorem Ce(o:Row):((List.range o.length).map λ h=>o.getD h 0)=o:=by
 refine ext_getElem? λ i=>?_
 by_cases hi:i < o.length
 ·rw[n4,l0 hi]
  simp[hi,c7]
 ·rw[j9 (by simpa using hi),j9 (by omega)]
theorem yh{xs ys:List Int}(h:xs.Perm ys):xs.sum=ys.sum:=by
 induction h with
 |nil=>rfl
 |cons x _ ih=>rw[sum_cons,sum_cons,ih]
 |swap x y l=>simp only[sum_cons];omega
 |trans _ _ a b=>rw[a,b]
theorem jE:∀{xs:List Int},(∀x∈xs,0<=x)->(xs.sum=0↔∀x∈xs,x=0)
 |[],_=>by simp
 |x::xs,h=>by
  have ih:=@jE xs λ y hy=>h y (k4 _ hy)
  have h0:=h x l7
  have h1:0<=xs.sum:=by
   clear ih
   induction xs with
   |nil=>simp
   |cons y ys ih=>rw[sum_cons];have:=h y (by simp);have:=ih (λ z hz=>h z (by rcases z5.mp hz with q|q;exact q▸l7;exact k4 _ (k4 _ q)));omega
  rw[sum_cons]
  constructor
  ·intro e y hy
   rcases z5.mp hy with q|q
   ·omega
   ·exact ih.mp (by omega) y q
  ·intro e
   have:=e x l7
   have:=ih.mpr λ y hy=>e y (k4 _ hy)
   omega
theorem pW{n:Nat}{so:List Nat}{o:Row}(S:eO n so)(hl:o.length=n)(hp:∀x∈o,0<=x):(jR o so).sum=o.sum↔∀h,h < n->h∉so->o.getD h 0=0:=by
 have e1:so.Perm ((List.range n).filter λ h=>decide (h∈so)):=by
  refine(perm_ext_iff_of_nodup (S.up.imp λ h e=>by omega) (List.Nodup.sublist filter_sublist nodup_range)).mpr λ h=>?_
  rw[mem_filter,mem_range,decide_eq_true_iff]
  exact⟨λ z=>⟨S.lt h z,z⟩,λ z=>z.2⟩
 have e2:=filter_append_perm (λ h=>decide (h∈so)) (List.range n)
 have e3:(jR o so).sum+(((List.range n).filter λ h=>!decide (h∈so)).map λ h=>o.getD h 0).sum=o.sum:=by
  have a:=yh ((e1.append_right _ |>.trans e2).map λ h=>o.getD h 0)
  rw[y0,sum_append]at a
  rw[<- hl,Ce]at a
  rw[hl]at a
  exact a
 have nn:∀x∈(((List.range n).filter λ h=>!decide (h∈so)).map λ h=>o.getD h 0),0<=x:=λ x hx=>by
  obtain⟨h,hh,rfl⟩:=z9.mp hx
  have fX:h < o.length:=by rw[hl];exact mem_range.mp (mem_filter.mp hh).1
  rw[c7,i5 fX]
  exact hp _ (u6 _)
 constructor
 ·intro e h hh hs
  exact(jE nn).mp (by omega) _ (z9.mpr ⟨h,mem_filter.mpr ⟨mem_range.mpr hh,by simpa using hs⟩,rfl⟩)
 ·intro e
  have:=(jE nn).mpr λ x hx=>by
   obtain⟨h,hh,rfl⟩:=z9.mp hx
   obtain⟨h1,h2⟩:=mem_filter.mp hh
   exact e h (mem_range.mp h1) (by simpa using h2)
  omega
def pZ(so:List Nat)(q:Int×Nat):Bool:=decide (0 < q.1)&&!decide (q.2∈so)
theorem zD{n:Nat}{so:List Nat}{o:Row}(S:eO n so)(hl:o.length=n)(hp:∀x∈o,0<=x):o.zipIdx.filter (pZ so)=[]↔(jR o so).sum=o.sum:=by
 rw[pW S hl hp,filter_eq_nil_iff]
 constructor
 ·intro h g hg hs
  have Ro:g < o.length:=by omega
  have e:o.getD g 0=o[g]:=by rw[c7,i5 Ro];rfl
  have:=h (o[g],g) (mem_zipIdx_iff_getElem?.mpr (i5 Ro))
  have h0:0<=o[g]:=hp _ (u6 _)
  unfold pZ at this
  simp only[u4,n5,Bool.not_eq_true',decide_eq_false_iff_not,not_and,Classical.not_not]at this
  rcases Int.lt_or_le 0 o[g]with z|z
  ·exact absurd (this z) hs
  ·omega
 ·rintro h ⟨x,g⟩ hq
  have hq:=mem_zipIdx_iff_getElem?.mp hq
  have hg:=(g9.mp hq).1
  have e:o.getD g 0=x:=by rw[c7,hq];rfl
  unfold pZ
  simp only[u4,n5,Bool.not_eq_true',decide_eq_false_iff_not,not_and,Classical.not_not]
  intro z
  exact Classical.byContradiction λ hs=>by have:=h g (by omega) hs;rw[e]at this;have z:0 < x:=z;omega
def r_:fU:=λ ds M Q=>∃(n:Nat) (g:List br) (so:List Nat),ds=[aX g,cv so]/\gr n g/\eO n so/\((∀h∈so,iE g so h=true)->∀M',Ext M M'->Q .a_ M')/\
 ∀(pre:List Nat) (h:Nat) (post:List Nat),so=pre++h::post->(∀x∈pre,iE g so x=true)->iE g so h=false->∀M',Ext M M'->Q (.int h) M'
section
variable {P:Program}{w:World}{K:PySem.W.Frag}{mg:Str->Option Value}{base:Heap}
theorem cT:aH ["_law_game_here","_law_some","_law_h","_law_counts_here"] ["_law_game_here","_law_some"] (aj (top 32)):=⟨rfl,rfl,rfl,by decide+kernel,rfl,by decide+kernel,by decide+kernel⟩
theorem DU{f:Addr}{fd:FuncData}(F:ff K "_law_hindered" "_law_hindered" (top 32) f fd)(T:jr K mg):bw P w K mg base eP 1 f fd ["_law_game_here","_law_some"] (cE K r_):=by
 refine l_ F cT (λ ds M Q h=>?_) (λ bW A outer s H E ds M Q hr h=>?_)
 ·obtain⟨n,g,so,rfl,_⟩:=h
  rfl
 ·obtain⟨n,g,so,rfl,G,S,kq,ke⟩:=h
  have FW:=S.len
  have hfew:=G.kT
  refine⟨_,(ag (dj x3 rfl (bT (ax 1)) (cb (i:=2) cT.nd rfl (Or.inl rfl))
 (ak (dj x3 rfl (bT (bE bh (bE bh (ax 0) (ax 2) (λ _ _=>rfl)) au (λ _ _=>rfl))) (cb (i:=3) cT.nd rfl (Or.inl rfl))
 (ak (bZ (bj (uL hr.units) (mY (tgs:=["_law_g","_law_n"]) (fr:=[1]) ⟨bz (by kernel_rfl),rfl,(λ _ _ h=>h),(mV rfl T.enumerate (aa (ax 3) ae)),(pq (λ _ _ _ _ _=>(sJ rfl (fv (aS (i:=0) (show(["_law_g","_law_n","_law_some"]:List Str).Nodup by decide+kernel) rfl (Or.inl rfl)) (fv (aS (i:=1) (show(["_law_g","_law_n","_law_some"]:List Str).Nodup by decide+kernel) rfl (Or.inl rfl)) nL)))) (by decide) (by decide)),(λ _ _ _ _ _=>(mU (rQ (bj DY (ax 1) au (bf _)) (mR (bj (zL hr.units) (ax 0) (ax 2) rfl))).pt)),(λ _ _ _ _ _=>(ax 0))⟩) (fj ae) (bf _))
 (ak (aM (ax 2)))
 bx)))))
 (ak (aM ju))),?_⟩
  unfold cv
  walk_at "rx"
  refine dO (λ i δ M'=>∃v w:Option D,δ=[some (aX g),some (cv so),v,w]/\Ext M M'/\∀x∈so.take i,iE g so x=true) ⟨none,none,rfl,λ b o e=>e,λ x z=>by simp at z⟩ (λ i d δ M' hd h=>?_) (λ δ M' h=>?_)
  ·obtain⟨v,w,rfl,hE,hp⟩:=h
   rw[n4]at hd
   cases e:so[i]? with
   |none=>rw[e]at hd;cases hd
   |some h=>
    rw[e]at hd
    cases hd
    have hh:=S.lt h (k7 e)
    obtain⟨ho,qD⟩:=G.opts h hh
    have ga:=gS G hh
    have ek:iE g so h=(g.getD h iV).2.all λ o=>decide ((jR o so).sum=o.sum):=rfl
    have BP:aX g=.tup (g.map bK):=rfl
    unfold aX
    walk_at "rx"
    refine dw (bC ga) ?_
    generalize g.getD h iV=BO at*
    obtain⟨nm,os⟩:=BO
    unfold bK
    walk_at "rx"
    refine dO (ds:=os.map row) (λ j δ M2=>∃w:Option D,δ=[some (aX g),some (cv so),some (.int h),w]/\Ext M M2/\∀o∈os.take j,(jR o so).sum=o.sum) ⟨w,rfl,hE,λ o z=>by simp at z⟩ (λ j d δ M2 hd h2=>?_) (λ δ M2 h2=>?_)
    ·obtain⟨w,rfl,Jn,gA⟩:=h2
     rw[n4]at hd
     cases e2:os[j]? with
     |none=>rw[e2]at hd;cases hd
     |some o=>
      rw[e2]at hd
      cases hd
      have hm:=k7 e2
      have hO:=qD o hm
      have LZ:=hO.len
      unfold row
      walk_at "rx"
      rw[gY]
      refine E6 (xs:=o.zipIdx) (enc:=Qk D.int) (pZ so) (λ q=>D.int (q.2:Int)) (by rw[length_zipIdx];omega) (λ l q N1 N2 hq k1 k2=>?_) ?_
      ·obtain⟨x,m⟩:=q
       walk_at "rx"
       dsimp only
       refine bB (λ hx=>?_) (λ hx=>?_)
       ·walk_at "rx"
        unfold cv
        refine sv (k:=0) (b:=decide (m∈so)) rfl (ie 0 _) (sI λ x _=>ie 0 _) (by decide) (by rw[decide_eq_true_iff];exact(uP (enc:=λ(h:Nat)=>D.int (h:Int)) (λ a b z=>Int.ofNat.inj (D.int.inj z)) m).symm) ?_
        walk_at "rx"
        cases hb:decide (m∈so)with
        |true=>
         exact k2 (by unfold pZ;simp only[hb,Bool.not_true,Bool.and_false])
        |false=>
         exact k1 (by unfold pZ;simp only[hb,y2 hx,Bool.not_false,Bool.and_true])
       ·exact k2 (by unfold pZ;simp only[v8 hx,Bool.false_and])
      ·intro p EC
       walk_at "rx"
       intro p2 J_
       have BO:p≠p2:=λ z=>by subst z;rw[ar]at J_;cases J_
       have Ki:Ext M (aw M2 p (.lst ((o.zipIdx.filter (pZ so)).map λ q=>D.int (q.2:Int)))):=qf Jn EC _
       have Kh:=qf Ki J_ (.lst [])
       refine CD (k:=0) (b:=decide ((jR o so).sum=o.sum)) (by rw[aB BO];exact ar) ar (sI λ x _=>ie 0 _) (λ e z=>by cases z) (by decide) (by rw[decide_eq_true_iff,map_eq_nil_iff];exact(zD S LZ hO.pos).symm) ?_
       cases hb:decide ((jR o so).sum=o.sum)with
       |false=>
        walk_at "rx"
        have aL:iE g so h=false:=by
         rw[ek]
         cases hz:os.all λ o=>decide ((jR o so).sum=o.sum)with
         |false=>rfl
         |true=>rw[List.all_eq_true.mp hz o hm]at hb;cases hb
        have hi:=(g9.mp e)
        refine ay (ke (so.take i) h (so.drop (i+1)) ?_ hp aL _ Kh)
        rw[<- hi.2]
        exact(take_append_drop i so).symm.trans (by rw[g8 hi.1])
       |true=>
        walk_at "rx"
        refine⟨_,rfl,Kh,λ o' z=>?_⟩
        rw[take_succ,e2]at z
        rcases x9.mp z with z|z
        ·exact gA o' z
        ·have:o'=o:=by simpa using z
         rw[this];exact of_decide_eq_true hb
    ·obtain⟨w,rfl,Jn,gA⟩:=h2
     rw[x8,r9]at gA
     have aL:iE g so h=true:=by
      rw[ek,List.all_eq_true]
      exact λ o z=>y2 (gA o z)
     refine⟨_,_,rfl,Jn,λ x hx=>?_⟩
     rw[take_succ,e]at hx
     rcases x9.mp hx with z|z
     ·exact hp x z
     ·have:x=h:=by simpa using z
      rw[this];exact aL
  ·obtain⟨v,w,rfl,hE,hp⟩:=h
   rw[x8,r9]at hp
   walk_at "rx"
   exact ay (kq hp _ hE)
end
def om(hs:List Nat):List (D×D):=hs.map λ(h:Nat)=>(D.int (h:Int),D.bl true)
theorem ve(hs:List Nat)(h:Nat):(fw (om hs) (.int (h:Int))).isSome=decide (h∈hs):=by
 unfold fw om
 rw[p6]
 induction hs with
 |nil=>simp
 |cons x xs ih=>
  rw[z4,v7]
  by_cases e:x=h
  ·subst e
   simp
  ·have:¬D.int (x:Int)=D.int (h:Int):=λ z=>e (Int.ofNat.inj (D.int.inj z))
   simp only[v8 this]
   rw[ih]
   simp[z5,B2 e]
def putN(hs:List Nat)(h:Nat):List Nat:=if h∈hs then hs else hs++[h]
theorem Ax(hs:List Nat)(h:Nat):putD (om hs) (.int (h:Int)) (.bl true)=om (putN hs h):=by
 unfold putD putN
 rw[ve]
 by_cases e:h∈hs
 ·rw[B3 (y2 e),B3 e]
  unfold om
  rw[A0]
  refine map_congr_left λ x _=>?_
  simp only[Function.comp_apply]
  split <;> rfl
 ·rw[B4 (by simp[e]),B4 e]
  unfold om
  rw[y0]
  rfl
set_option tactic.hygienic true in
theorem bX{hs:List Nat}{h x:Nat}:x∈putN hs h↔x∈hs\/x=h:=by
 unfold putN
 split
 ·rename_i e
  exact⟨.inl,λ z=>z.elim id λ q=>q▸e⟩
 ·simp
set_option tactic.hygienic true in
theorem jU{hs:List Nat}{h:Nat}(n:hs.Nodup):(putN hs h).Nodup:=by
 unfold putN
 split
 ·exact n
 ·rename_i e
  exact nodup_append.mpr ⟨n,by simp,λ a ha b hb z=>e ((z.trans (m9.mp hb))▸ha)⟩
structure Nd(n:Nat)(g:List br)(so:List Nat)(i:Nat)(hs:List Nat):Prop where
 nd:hs.Nodup
 lt:∀h∈hs,h < n
 cl:∀h∈hs,i<=h->∀o∈(g.getD h iV).2,∀x,x < n->o.getD x 0≠0->x∈hs
theorem fL{n:Nat}{hs:List Nat}(h1:hs.Nodup)(h2:∀h∈hs,h < n):hs.length<=n:=by
 have:=List.Nodup.length_le_of_subset h1 (λ x hx=>mem_range.mpr (h2 x hx))
 rw[p5]at this
 exact this
structure Nj(n h:Nat)(hs cI:List Nat):Prop where
 nd:cI.Nodup
 lt:∀x∈cI,x < n
 sub:∀x∈hs,x∈cI
 me:h∈cI
 new:∀x∈cI,x∈hs\/x<=h
theorem Nj.put {n h x:Nat}{hs cI:List Nat}(j:Nj n h hs cI)(hx:x<=h)(hn:x < n):Nj n h hs (putN cI x):=
 ⟨jU j.nd,λ y hy=>(bX.mp hy).elim (j.lt y) λ z=>z▸hn,λ y hy=>bX.mpr (.inl (j.sub y hy)),bX.mpr (.inl j.me),λ y hy=>(bX.mp hy).elim (j.new y) λ z=>.inr (z▸hx)⟩
theorem Nj.start {n h:Nat}{g:List br}{so hs:List Nat}(d:Nd n g so (h+1) hs)(hn:h < n):Nj n h hs (putN hs h):=
 ⟨jU d.nd,λ y hy=>(bX.mp hy).elim (d.lt y) λ z=>z▸hn,λ y hy=>bX.mpr (.inl hy),bX.mpr (.inr rfl),λ y hy=>(bX.mp hy).elim .inl λ z=>.inr (Nat.le_of_eq z)⟩
theorem Nj.fin {n h:Nat}{g:List br}{so hs cI:List Nat}(d:Nd n g so (h+1) hs)(j:Nj n h hs cI)(al:∀o∈(g.getD h iV).2,∀x,x < n->o.getD x 0≠0->x∈cI):Nd n g so h cI:=
 ⟨j.nd,j.lt,λ y hy hle o ho x hx h0=>by
  rcases j.new y hy with z|z
  ·rcases Nat.eq_or_lt_of_le hle with q|q
   ·subst q;exact al o ho x hx h0
   ·exact j.sub x (d.cl y z q o ho x hx h0)
  ·have:y=h:=by omega
   subst this
   exact al o ho x hx h0⟩
theorem Nd.skip {n h:Nat}{g:List br}{so hs:List Nat}(d:Nd n g so (h+1) hs)(hh:h∉hs):Nd n g so h hs:=
 ⟨d.nd,d.lt,λ y hy hle=>by
  rcases Nat.eq_or_lt_of_le hle with q|q
  ·subst q;exact absurd hy hh
  ·exact d.cl y hy q⟩
theorem IE{n:Nat}{g:List br}{so hs:List Nat}{dD:List Int}(G:gr n g)(d:Nd n g so 0 hs)(p:dD.Perm (hs.map λ(h:Nat)=>(h:Int)))(o:dD.Pairwise (·<=·)):∃pN:List Nat,dD=pN.map (λ(h:Nat)=>(h:Int))/\eO n pN/\∀h∈pN,iE g pN h=true:=by
 have e1:(dD.map Int.toNat).map (λ(h:Nat)=>(h:Int))=dD:=by
  rw[A0]
  refine(map_congr_left (g:=id) λ z hz=>?_).trans (List.map_id _)
  obtain⟨x,_,rfl⟩:=z9.mp (p.mem_iff.mp hz)
  simp
 have e2:(dD.map Int.toNat).Perm hs:=by
  have:=p.map Int.toNat
  rw[A0]at this
  have z:hs.map (Int.toNat∘λ(h:Nat)=>(h:Int))=hs:=(map_congr_left (g:=id) λ x _=>by simp).trans (List.map_id _)
  rw[z]at this
  exact this
 generalize dD.map Int.toNat=pN at e1 e2
 subst e1
 have nd:pN.Nodup:=e2.nodup_iff.mpr d.nd
 have S:eO n pN:=⟨λ h hh=>d.lt h (e2.mem_iff.mp hh),by
  have a:pN.Pairwise λ x y=>x<=y:=(pairwise_map.mp o).imp λ z=>by omega
  exact(a.and nd).imp λ z=>by omega⟩
 refine⟨pN,rfl,S,λ h hh=>?_⟩
 have hm:=e2.mem_iff.mp hh
 obtain⟨_,hr⟩:=G.opts h (d.lt h hm)
 unfold iE
 rw[List.all_eq_true]
 intro o ho
 refine y2 ((pW S (hr o ho).len (hr o ho).pos).mpr λ x hx hs=>?_)
 exact Classical.byContradiction λ z=>hs (e2.mem_iff.mpr (d.cl h hm (A4 _) o ho x hx z))
theorem vj{M M':Mem}{p:Addr}{u:MO}(hp:M p=none)(h:Ext M M'):Ext M (aw M' p u):=λ b o e=>by
 rw[aB (λ z=>by subst z;rw[hp]at e;cases e)]
 exact h b o e
theorem uO{D0:cJ}{n h:Nat}{g:List br}{so hs:List Nat}{M M':Mem}{p:Addr}{v4 v5 v6:Option D}(G:gr n g)(hh:h < n)(hN:Nd n g so (h+1) hs)(h1:M' p=some (.eL false (om hs)))(hp:M p=none)(hE:Ext M M')
  (k:∀(v4 v5 v6:Option D) (cI:List Nat) (M2:Mem),M2 p=some (.eL false (om cI))->Ext M M2->Nd n g so h cI->D0.nx [some (aX g),some (cv so),some (.ref p),some (.int h),v4,v5,v6] M2):
  yA (la (sC (D.bl true)) (hSub (ib 2) (ib 3) vq)) (yD (Ej (we E3 (we E3 (ib 0) (ib 3)) (sC (D.int 1)))) (hName 4) (yD (uX (uv (ib 4) Cn)) (tu 2 (eS (hName 5) (eS (hName 6) tw))) (Co (lW (we (Gj λ i j=>D.bl (decide (j < i))) (ib 6) (sC (D.int 0)))) (la (sC (D.bl true)) (hSub (ib 2) (ib 5) vq)) ur))) D0 [some (aX g),some (cv so),some (.ref p),some (.int h),v4,v5,v6] M':=by
 have hfew:=G.kT
 have Rn:=fL hN.nd hN.lt
 obtain⟨ho,qD⟩:=G.opts h hh
 have ga:=gS G hh
 walk_at "rx"
 refine uz h1 ⟨.inl (h:Int),rfl⟩ (by unfold om;rw[x8];exact m7 (show _<=12 by omega) (by decide)) ?_
 rw[Ax]
 have TB:Ext M (aw M' p (.eL false (om (putN hs h)))):=vj hp hE
 have h2:aw M' p (.eL false (om (putN hs h))) p=some (.eL false (om (putN hs h))):=ar
 have J0:=Nj.start hN hh
 have fin:∀cI,Nj n h hs cI->(∀o∈(g.getD h iV).2,∀x,x < n->o.getD x 0≠0->x∈cI)->Nd n g so h cI:=λ cI j al=>Nj.fin hN j al
 generalize aw M' p (.eL false (om (putN hs h)))=M1 at*
 generalize putN hs h=oo at*
 generalize g.getD h iV=BO at*
 obtain⟨nm,os⟩:=BO
 have BP:aX g=.tup (g.map bK):=rfl
 walk_at "rx"
 rw[BP]
 refine uB (dw (bC ga) ?_)
 unfold bK
 walk_at "rx"
 refine uB ?_
 walk_at "rx"
 refine dO (ds:=os.map row) (λ j δ M2=>∃(v4 v5 v6:Option D) (cI:List Nat),δ=[some (aX g),some (cv so),some (.ref p),some (.int h),v4,v5,v6]/\M2 p=some (.eL false (om cI))/\Ext M M2/\Nj n h hs cI/\∀o∈os.take j,∀x,x < n->o.getD x 0≠0->x∈cI) ⟨v4,v5,v6,oo,rfl,h2,TB,J0,λ o z=>by simp at z⟩ (λ j d δ M2 hd h3=>?_) (λ δ M2 h3=>?_)
 ·obtain⟨v4,v5,v6,hs2,rfl,h4,Jn,J2,al⟩:=h3
  rw[n4]at hd
  cases e2:os[j]? with
  |none=>rw[e2]at hd;cases hd
  |some o=>
   rw[e2]at hd
   cases hd
   have hO:=qD o (k7 e2)
   have LZ:=hO.len
   unfold row
   walk_at "rx"
   refine dO (ds:=dE (o.map D.int)) (λ l δ M3=>∃(v5 v6:Option D) (cI:List Nat),δ=[some (aX g),some (cv so),some (.ref p),some (.int h),some (row o),v5,v6]/\M3 p=some (.eL false (om cI))/\Ext M M3/\Nj n h hs cI/\(∀o∈os.take j,∀x,x < n->o.getD x 0≠0->x∈cI)/\∀x,x < l->o.getD x 0≠0->x∈cI) ⟨v5,v6,hs2,rfl,h4,Jn,J2,al,λ x z=>by omega⟩ (λ l d δ M3 hd h5=>?_) (λ δ M3 h5=>?_)
   ·obtain⟨v5,v6,Ey,rfl,h6,Ki,J3,NX,am⟩:=h5
    rw[gY,n4,getElem?_zipIdx]at hd
    cases e3:o[l]? with
    |none=>rw[e3]at hd;cases hd
    |some x=>
     rw[e3]at hd
     cases hd
     have ex:o.getD l 0=x:=by rw[c7,e3];rfl
     have hl:=(g9.mp e3).1
     have NH:=hO.pos x (k7 e3)
     have Tc:=fL J3.nd J3.lt
     walk_at "rx"
     dsimp only
     refine bB (λ hx=>?_) (λ hx=>?_)
     ·have U9:l < h:=Classical.byContradiction λ z=>by
       have:=hO.low l (by omega)
       omega
      walk_at "rx"
      rw[Nat.zero_add]
      refine uz h6 ⟨.inl (l:Int),rfl⟩ (by unfold om;rw[x8];exact m7 (show _<=12 by omega) (by decide)) ?_
      rw[Ax]
      walk_at "rx"
      refine⟨_,_,putN Ey l,rfl,ar,vj hp Ki,J3.put (by omega) (by omega),λ o z x a b=>bX.mpr (.inl (NX o z x a b)),λ y hy h0=>?_⟩
      rcases Nat.eq_or_lt_of_le (Nat.le_of_lt_succ hy)with z|z
      ·exact bX.mpr (.inr z)
      ·exact bX.mpr (.inl (am y z h0))
     ·walk_at "rx"
      refine⟨_,_,Ey,rfl,h6,Ki,J3,NX,λ y hy h0=>?_⟩
      rcases Nat.eq_or_lt_of_le (Nat.le_of_lt_succ hy)with z|z
      ·subst z;omega
      ·exact am y z h0
   ·obtain⟨v5,v6,Ey,rfl,h6,Ki,J3,NX,am⟩:=h5
    have el:(dE (o.map D.int)).length=n:=by rw[gY,x8,length_zipIdx];exact LZ
    rw[el]at am
    refine⟨_,_,_,Ey,rfl,h6,Ki,J3,λ o' z x a b=>?_⟩
    rw[take_succ,e2]at z
    rcases x9.mp z with z|z
    ·exact NX o' z x a b
    ·have:o'=o:=by simpa using z
     rw[this]at b
     exact am x a b
 ·obtain⟨v4,v5,v6,hs2,rfl,h4,Jn,J2,al⟩:=h3
  rw[x8,r9]at al
  exact k v4 v5 v6 hs2 M2 h4 Jn (fin hs2 J2 al)
def pJ:fU:=λ ds M Q=>∃(n:Nat) (g:List br) (so:List Nat),ds=[aX g,cv so]/\gr n g/\eO n so/\∀(pN:List Nat) (M':Mem),eO n pN->(∀h∈pN,iE g pN h=true)->Ext M M'->Q (cv pN) M'
section
variable {P:Program}{w:World}{K:PySem.W.Frag}{mg:Str->Option Value}{base:Heap}
theorem bR:aH ["_law_game_here","_law_some","_law_found","_law_h","_law_counts_here","_law_g","_law_n"] ["_law_game_here","_law_some"] (aj (top 31)):=⟨rfl,rfl,rfl,by decide+kernel,rfl,by decide+kernel,by decide+kernel⟩
theorem wG{f:Addr}{fd:FuncData}(F:ff K "_law_needed" "_law_needed" (top 31) f fd)(T:jr K mg):bw P w K mg base eP 1 f fd ["_law_game_here","_law_some"] (cE K pJ):=by
 refine l_ F bR (λ ds M Q h=>?_) (λ bW A outer s H E ds M Q hr h=>?_)
 ·obtain⟨n,g,so,rfl,_⟩:=h
  rfl
 ·obtain⟨n,g,so,rfl,G,S,k⟩:=h
  have FW:=S.len
  have hfew:=G.kT
  have Ml:=G.len
  refine⟨_,(ag (aP (i:=2) bR.nd rfl (Or.inl rfl) (Gy false))
 (ag (dj x3 rfl (vR rfl T.range (aa (bI FN (aR JF (by rfl) T.len (by decide+kernel) (aa (ax 0) ae)) au) (aa (Kp Fu au) (aa (Kp Fu au) ae)))) (cb (i:=3) bR.nd rfl (Or.inl rfl))
 (ak (bZ (xZ (bj (FP hr.units) (ax 3) (ax 1) rfl) (rP (bj (FP hr.units) (ax 3) (ax 2) rfl))).pt
 (ag (fg rS (fh (ax 2) (ax 3) (yx hr.units)))
 (ak (dj x3 rfl (bT (bE (Ft hr.units) (bE (Ft hr.units) (ax 0) (ax 3) (λ _ _=>rfl)) au (λ _ _=>rfl))) (cb (i:=4) bR.nd rfl (Or.inl rfl))
 (ak (dj x3 rfl (mV rfl T.enumerate (aa (ax 4) ae)) (Gv (n:=2) rfl (pw (cb (i:=5) bR.nd rfl (Or.inl rfl)) (pw (cb (i:=6) bR.nd rfl (Or.inl rfl)) B5)))
 (ak (bZ (bj DY (ax 6) au (bf _))
 (ak (fg rS (fh (ax 2) (ax 5) (yx hr.units))))
 bx)))))))
 bx)))
 (ak (aM (mZ cf (by rfl) T.tuple (by decide+kernel) (aa (aR (E_ rfl) (by rfl) T.sorted (by decide+kernel) (aa (ax 2) ae)) ae)))))),?_⟩
  walk_at "rx"
  intro p hp
  have e0:Ext M (aw M p (.eL false [])):=qf (λ b o e=>e) hp _
  have xP:aw M p (.eL false []) p=some (.eL false (om [])):=ar
  generalize aw M p (.eL false [])=M0 at*
  walk_at "rx"
  refine CU ?_
  unfold aX
  walk_at "rx"
  refine yP ?_
  walk_at "rx"
  rw[x8,Ml]
  refine⟨_,_,rfl,by omega,?_⟩
  rw[show((n:Int) - 1 - -1).toNat=n by omega]
  refine dO (λ i δ M'=>∃(v3 v4 v5 v6:Option D) (hs:List Nat),δ=[some (aX g),some (cv so),some (.ref p),v3,v4,v5,v6]/\M' p=some (.eL false (om hs))/\Ext M M'/\Nd n g so (n - i) hs) ⟨none,none,none,none,[],rfl,xP,e0,⟨.nil,λ h z=>(by cases z),λ h z=>(by cases z)⟩⟩ (λ i d δ M' hd h=>?_) (λ δ M' h=>?_)
  ·obtain⟨v3,v4,v5,v6,hs,rfl,h1,hE,hN⟩:=h
   obtain⟨hi,rfl⟩:=A_ hd
   obtain⟨h,eh⟩:∃h:Nat,n - i=h+1:=⟨n - i - 1,by omega⟩
   rw[show(n:Int) - 1 - (i:Int)=(h:Int) by omega]
   rw[show n - (i+1)=h by omega]
   rw[eh]at hN
   have hh:h < n:=by omega
   have Rn:=fL hN.nd hN.lt
   walk_at "rx"
   unfold cv
   refine .inl (CO (k:=0) (b:=decide (h∈so)) rfl (ie 0 _) (sI λ x _=>ie 0 _) (by decide) (by rw[decide_eq_true_iff];exact(uP (enc:=λ(h:Nat)=>D.int (h:Int)) (λ a b z=>Int.ofNat.inj (D.int.inj z)) h).symm) ?_)
   dsimp only
   refine bB (λ hx=>?_) (λ hx=>?_)
   ·rw[B3 rfl]
    exact uO (so:=so) G hh hN h1 hp hE λ v4 v5 v6 cI M2 a b c=>⟨_,_,_,_,cI,rfl,a,b,c⟩
   ·walk_at "rx"
    refine Hk h1 ⟨.inl (h:Int),rfl⟩ ?_
    rw[ve]
    dsimp only
    refine bB (λ hx=>?_) (λ hx=>?_)
    ·exact uO (so:=so) G hh hN h1 hp hE λ v4 v5 v6 cI M2 a b c=>⟨_,_,_,_,cI,rfl,a,b,c⟩
    ·exact⟨_,_,_,_,hs,rfl,h1,hE,hN.skip hx⟩
  ·obtain⟨v3,v4,v5,v6,hs,rfl,h1,hE,hN⟩:=h
   rw[iw,Nat.sub_self]at hN
   have Rn:=fL hN.nd hN.lt
   walk_at "rx"
   refine wj (hs.map λ(h:Nat)=>(h:Int)) h1 (by unfold om;rw[A0,A0];rfl) (by rw[x8];omega) λ dD q p1 p2 hq=>?_
   obtain⟨pN,rfl,S',Sf⟩:=IE G hN p1 p2
   walk_at "rx"
   refine lZ ar ?_
   refine ay ?_
   have z:=k pN (aw M' q (.lst ((pN.map λ(h:Nat)=>(h:Int)).map D.int))) S' Sf (qf hE hq _)
   unfold cv at z
   rw[A0]at*
   exact z
end
theorem Du(k:Nat){h:br}(hn:Nm h.1):Pl (k+3) (bK h):=by
 unfold bK
 exact nI λ e he=>by
  rcases z5.mp he with z|z
  ·subst z;exact HW _ hn.ok
  ·have z:=m9.mp z
   subst z
   exact nI λ e he=>by
    obtain⟨r,_,rfl⟩:=z9.mp he
    exact nI λ e he=>by
     obtain⟨x,_,rfl⟩:=z9.mp he
     exact ie _ _
theorem uJ(k:Nat){g:List br}(hn:∀h∈g,Nm h.1):Pl (k+4) (aX g):=by
 unfold aX
 exact nI λ e he=>by
  obtain⟨h,hh,rfl⟩:=z9.mp he
  exact Du k (hn h hh)
theorem wc(M:Mem)(k:Nat){n:Nat}{g:List br}{so:List Nat}(G:gr n g)(S:eO n so):rE M (k+5) (aX (xM g so)) (aX (xM g so)):=by
 have FW:=S.len
 have hfew:=G.kT
 unfold aX
 refine gF (by rw[x8];unfold xM;rw[x8];omega) λ d hd=>?_
 obtain⟨hp,hm,rfl⟩:=z9.mp hd
 unfold xM at hm
 obtain⟨h,hh,rfl⟩:=z9.mp hm
 obtain⟨ho,qD⟩:=G.opts h (S.lt h hh)
 generalize g.getD h iV=BO at*
 obtain⟨nm,os⟩:=BO
 unfold HY bK
 refine gF (by show 2<=10000;decide) λ d hd=>?_
 rcases z5.mp hd with z|z
 ·subst z;exact .inl ⟨rfl,True.intro⟩
 ·have z:=m9.mp z
  subst z
  refine gF (by rw[x8,x8];exact A1 ho (by decide)) λ d hd=>?_
  obtain⟨r,hr,rfl⟩:=z9.mp hd
  obtain⟨o,_,rfl⟩:=z9.mp hr
  exact yu _ _ (by rw[Dw];omega)
theorem mz{p:Nat->Bool}:∀{pre h post zo h' FF},pre++h::post=zo++h'::FF->(∀x∈pre,p x=true)->p h=false->(∀x∈zo,p x=true)->p h'=false->h=h'
 |[],h,_,[],h',_,e,_,_,_,_=>(List.cons.inj e).1
 |[],h,_,x::zo,h',_,e,_,a,b,_=>by rw[(List.cons.inj e).1,b x l7]at a;cases a
 |x::pre,h,_,[],h',_,e,b,_,_,a=>by rw[<- (List.cons.inj e).1,b x l7]at a;cases a
 |x::pre,h,_,y::zo,h',_,e,a,b,c,d=>mz (List.cons.inj e).2 (λ z hz=>a z (k4 _ hz)) b (λ z hz=>c z (k4 _ hz)) d
def Due(g:List br)(so:List Nat)(r:D):Prop:=((∀h∈so,iE g so h=true)/\r=aX (xM g so))\/∃pre h post,so=pre++h::post/\(∀x∈pre,iE g so x=true)/\iE g so h=false/\r=.tup [.str (Str.ofString "pick"),.int h]
theorem AE{n:Nat}{g:List br}{so:List Nat}(G:gr n g)(S:eO n so){M:Mem}{N:bq}(k:∀v M',Ext M M'->(((∀h∈so,iE g so h=true)/\v=.a_)\/∃pre h post,so=pre++h::post/\(∀x∈pre,iE g so x=true)/\iE g so h=false/\v=.int h)->N v M'):r_ [aX g,cv so] M N:=
 ⟨n,g,so,rfl,G,S,λ aL M' hE=>k _ M' hE (.inl ⟨aL,rfl⟩),λ pre h post e1 e2 e3 M' hE=>k _ M' hE (.inr ⟨pre,h,post,e1,e2,e3,rfl⟩)⟩
theorem mM{n:Nat}{g:List br}{so:List Nat}{r:D}(G:gr n g)(S:eO n so)(hr:Due g so r){M:Mem}{N:bq}(k:∀M',Ext M M'->N r M'):nq [aX g,cv so] M N:=by
 refine⟨n,g,so,rfl,G,S,λ aL M' hE=>?_,λ pre h post e1 e2 e3 M' hE=>?_⟩
 ·rcases hr with⟨_,rfl⟩|⟨pre,h,post,e1,e2,e3,rfl⟩
  ·exact k M' hE
  ·rw[aL h (by rw[e1];simp)]at e3;cases e3
 ·rcases hr with⟨aL,rfl⟩|⟨zo,h',FF,Jt,NV,Ud,rfl⟩
  ·rw[aL h (by rw[e1];simp)]at e3;cases e3
  ·have e:=mz (e1.symm.trans Jt) e2 e3 NV Ud
   subst e
   exact k M' hE
theorem AY(M:Mem){n:Nat}{g:List br}{so:List Nat}{r:D}(G:gr n g)(S:eO n so)(hr:Due g so r):rE M 5 r r:=by
 rcases hr with⟨_,rfl⟩|⟨pre,h,post,e1,e2,e3,rfl⟩
 ·exact wc M 0 G S
 ·refine gF (by show 2<=10000;decide) λ d hd=>?_
  rcases z5.mp hd with z|z
  ·subst z;exact .inl ⟨rfl,True.intro⟩
  ·rw[m9.mp z];exact .inl ⟨rfl,True.intro⟩
theorem FI{n:Nat}{g:List br}{so:List Nat}(G:gr n g)(NM:QD g)(S:eO n so):∀h∈xM g so,Nm h.1:=λ h hh=>by
 unfold xM at hh
 obtain⟨x,hx,rfl⟩:=z9.mp hh
 have hl:x < g.length:=by rw[G.len];exact S.lt x hx
 have e:g.getD x iV=g[x]:=by rw[c7,i5 hl];rfl
 rw[e]
 exact NM.nm g[x] (u6 hl)
section
variable {P:Program}{w:World}{K:PySem.W.Frag}{mg:Str->Option Value}{base:Heap}
theorem eE:aH ["_law_script","_law_flow_here","_law_game_here","_law_k","_law_some","_law_due"] ["_law_script"] (aj (top 34)):=⟨rfl,rfl,rfl,by decide+kernel,rfl,by decide+kernel,by decide+kernel⟩
theorem Iu{f:Addr}{fd:FuncData}(F:ff K "law" "law" (top 34) f fd)(T:jr K mg)(tL:cO P w K mg base 1 "_law_flow" ["_law_script"] yq)(tK:cO P w K mg base 6 "_law_game" ["_law_flow_here","_law_most","_law_deep"] yp)(ll:cO P w K mg base 2 "_law_some_of" ["_law_flow_here","_law_many"] pH)(kI:cO P w K mg base 1 "_law_hindered" ["_law_game_here","_law_some"] r_)(hG:cO P w K mg base 1 "_law_picked" ["_law_game_here","_law_some"] lS)(fB:cO P w K mg base 6 "_law_alike" ["_law_found","_law_due"] (yr 5))(iN:cO P w K mg base 4 "_law_asked" ["_law_game_here","_law_some"] nq)(oF:cO P w K mg base 1 "_law_needed" ["_law_game_here","_law_some"] pJ):bw P w K mg base eP 7 f fd ["_law_script"] (cE K pL):=by
 refine l_ F eE (λ ds M Q h=>?_) (λ bW A outer s H E ds M Q hr h=>?_)
 ·obtain⟨a,rfl,_⟩:=h
  rfl
 ·obtain⟨ns,rfl,k⟩:=h
  refine⟨_,(ag (aP (i:=1) eE.nd rfl (Or.inl rfl) (bc tL (hr.mono (by decide)) (by rfl) (aa (ax 0) ae)))
 (ag (aP (i:=2) eE.nd rfl (Or.inl rfl) (bc tK (hr.mono (by decide)) (by rfl) (aa (ax 1) (aa au (aa au ae)))))
 (ag (dj x3 rfl (bH rfl T.range (aa au ae)) (cb (i:=3) eE.nd rfl (Or.inl rfl))
 (ag (aP (i:=4) eE.nd rfl (Or.inl rfl) (bc ll (hr.mono (by decide)) (by rfl) (aa (ax 1) (aa (aR iP (by rfl) T.len (by decide+kernel) (aa (ax 2) ae)) ae))))
 (ag (aP (i:=5) eE.nd rfl (Or.inl rfl) (bc kI (hr.mono (by decide)) (by rfl) (aa (ax 2) (aa (ax 4) ae))))
 (ag (bZ (bj uM (ax 5) ju (bf _))
 (ak (aP (i:=5) eE.nd rfl (Or.inl rfl) (bc hG (hr.mono (by decide)) (by rfl) (aa (ax 2) (aa (ax 4) ae)))))
 (ak (aP (i:=5) eE.nd rfl (Or.inl rfl) (iz (aa iA (aa (ax 5) ae))))))
 (ag (bZ (x_ (h_ (bc fB (hr.mono (by decide)) (by rfl) (aa (bc iN (hr.mono (by decide)) (by rfl) (aa (ax 2) (aa (ax 4) ae))) (aa (ax 5) ae)))))
 (ak (aM rS))
 bx)
 (ag (aP (i:=4) eE.nd rfl (Or.inl rfl) (bc oF (hr.mono (by decide)) (by rfl) (aa (ax 2) (aa (ax 4) ae))))
 (ak (bZ (bj (uL hr.units) (bc iN (hr.mono (by decide)) (by rfl) (aa (ax 2) (aa (ax 4) ae))) (bc hG (hr.mono (by decide)) (by rfl) (aa (ax 2) (aa (ax 4) ae))) (bf _))
 (ak (aM rS))
 bx))))))))
 (ak (aM rS))))),?_⟩
  walk_at "rx"
  refine⟨ns,rfl,λ a cc M0 Tv=>?_⟩
  walk_at "rx"
  refine⟨a,cc,6,5,rfl,Tv,by decide,by decide,λ n g M1 hn G NM F1=>?_⟩
  have Ml:=G.len
  have Jm:=F1.bF
  walk_at "rx"
  refine⟨cV (by decide) (by decide),?_⟩
  refine dO (λ i δ M'=>∃(v0 v3 v4 v5:Option D),δ=[v0,some (.ref a),some (aX g),v3,v4,v5]/\Flow M' a cc) ⟨_,_,_,_,rfl,Jm⟩ (λ i d δ M' hd h=>?_) (λ δ M' h=>?_)
  ·obtain⟨v0,v3,v4,v5,rfl,hF⟩:=h
   have BP:aX g=.tup (g.map bK):=rfl
   unfold aX
   walk_at "rx"
   rw[x8,Ml]
   refine⟨a,cc,n,rfl,hF,hn,λ so M2 S F2=>?_⟩
   walk_at "rx"
   rw[<- BP]
   refine AE G S λ v M3 hE hv=>?_
   have rJ:=(hE.fl F2.bF).bF
   walk_at "rd1"
   with_reducible refine ic (λ δ' M'=>∃(v0 v3:Option D) (r:D),δ'=[v0,some (.ref a),some (aX g),v3,some (cv so),some r]/\Flow M' a cc/\Due g so r) (λ N hN=>?_) ?_
   ·rcases hv with⟨aL,rfl⟩|⟨pre,h,post,e1,e2,e3,rfl⟩
    ·walk_at "rx"
     refine jN ?_
     walk_at "rx"
     refine⟨n,g,so,rfl,G,S,λ M4 Kh=>?_⟩
     walk_at "rx"
     exact hN _ _ ⟨_,_,_,rfl,(Kh.fl rJ).bF,.inl ⟨aL,rfl⟩⟩
    ·walk_at "rx"
     refine fJ (by simp[jA]) ?_
     walk_at "rx"
     exact hN _ _ ⟨_,_,_,rfl,rJ,.inr ⟨pre,h,post,e1,e2,e3,rfl⟩⟩
   ·rintro δ' M3 ⟨v0,v3,r,rfl,rJ,hr⟩
    walk_at "rx"
    refine mM G S hr λ M4 Kh=>?_
    walk_at "rx"
    refine⟨_,_,rfl,AY _ G S hr,?_⟩
    have P0:=(Kh.fl rJ).bF
    walk_at "rx"
    refine⟨n,g,so,rfl,G,S,λ R3 M5 S2 Jd Tz=>?_⟩
    have BS:=(Tz.fl P0).bF
    walk_at "rx"
    refine mM G S2 (.inl ⟨Jd,rfl⟩) λ M6 Tx=>?_
    have PZ:=(Tx.fl BS).bF
    walk_at "rx"
    refine⟨n,g,R3,rfl,G,S2,λ M7 Tw=>?_⟩
    have Tu:=(Tw.fl PZ).bF
    refine CC (k:=4) (b:=true) (uJ 0 (FI G NM S2)) (uJ 0 (FI G NM S2)) (by decide) (by simp) ?_
    walk_at "rx"
    exact⟨_,_,_,_,rfl,Tu⟩
  ·obtain⟨v0,v3,v4,v5,rfl,hF⟩:=h
   walk_at "rx"
   exact ay (k _)
end
theorem Al(K:PySem.W.Frag):eZ K "bool":=⟨by kernel_rfl,by kernel_rfl,by kernel_rfl,by kernel_rfl,by kernel_rfl,by kernel_rfl⟩
theorem En(K:PySem.W.Frag):eZ K "int":=⟨by kernel_rfl,by kernel_rfl,by kernel_rfl,by kernel_rfl,by kernel_rfl,by kernel_rfl⟩
theorem Aj(K:PySem.W.Frag):eZ K "list":=⟨by kernel_rfl,by kernel_rfl,by kernel_rfl,by kernel_rfl,by kernel_rfl,by kernel_rfl⟩
theorem Em(K:PySem.W.Frag):eZ K "str":=⟨by kernel_rfl,by kernel_rfl,by kernel_rfl,by kernel_rfl,by kernel_rfl,by kernel_rfl⟩
theorem wX(K:PySem.W.Frag):eZ K "tuple":=⟨by kernel_rfl,by kernel_rfl,by kernel_rfl,by kernel_rfl,by kernel_rfl,by kernel_rfl⟩
theorem II{K:PySem.W.Frag}{H:Hp}{a:Addr}{ns:List Int}(hO:Fp H)(hS:cS K H a (ns.map V.int)):cE K pL [.ref a] H (λ v _=>v=.bl true) λ _ _ _=>False:=by
 have EI:Gm K H a (ns.map V.int):=by
  rcases hS with(h|⟨o,h⟩)|h
  ·rcases hO a with z|⟨o,xs,z⟩
   ·rw[z]at h;cases h
   ·rw[z]at h;cases h
  ·exact .inl ⟨o,h⟩
  ·exact .inr h
 refine⟨[.fl (ns.map D.int)],λ _=>none,λ d _=>d=.bl true,az.one (gj.mpr ⟨a,_,rfl,EI,fR ns⟩),λ a o e=>(by cases e),⟨ns,rfl,λ _=>rfl⟩,λ v H' d M' hd hm t e=>?_⟩
 subst e
 exact aN.mp hd
theorem Ed{A:Type}{P:List A->Prop}{n:Nat}(h:∀a t,t.length=n->P (a::t)):∀us:List A,us.length=n+1->P us
 |[],e=>nomatch e
 |a::t,e=>h a t (Nat.succ.inj e)
theorem wO{A:Type}{P:List A->Prop}(h:∀a,P [a]):∀us:List A,us.length=1->P us:=Ed λ a t e=>by rw[eq_nil_of_length_eq_zero e];exact h a
theorem gO{A:Type}{P:List A->Prop}(h:∀a b,P [a,b]):∀us:List A,us.length=2->P us:=Ed λ a=>wO (P:=λ t=>P (a::t)) (h a)
theorem LL{A:Type}{P:List A->Prop}(h:∀a b c,P [a,b,c]):∀us:List A,us.length=3->P us:=Ed λ a=>gO (P:=λ t=>P (a::t)) (h a)
theorem O7{A:Type}{P:List A->Prop}(h:∀a b c d,P [a,b,c,d]):∀us:List A,us.length=4->P us:=Ed λ a=>LL (P:=λ t=>P (a::t)) (h a)
structure dC(K:PySem.W.Frag)(mg:Str->Option Value)(x:Str)(i:Nat)(f:Addr)(d:FuncData):Prop where
 m:mg x=some (.ref f)
 F:ff K x x (top i) f d
theorem all_mk{l:PySem.W.OpenLaw}{w:World}{K:PySem.W.Frag}{mg:Str->Option Value}{f0 f1 f2 f3 f4 f5 f6 f7 f8 f9 T9 T8 T7 T6 T5 T4 T3 T2 TZ TY Rx:Addr}{d0 d1 d2 d3 d4 d5 d6 d7 d8 d9 Uw Uv Uu Ut Us Ur Uq Uo Um Ul:FuncData}{kV dc pm cd ct:Value}{an:Option Addr}
  (T:jr K mg)
  (t0:dC K mg "picked_sum" 13 f0 d0)
  (t1:dC K mg "is_among" 14 f1 d1)
  (t2:dC K mg "picked_heap" 15 f2 d2)
  (t3:dC K mg "picked" 16 f3 d3)
  (t4:dC K mg "_law_flow" 18 f4 d4)
  (t5:dC K mg "_law_pick" 19 f5 d5)
  (t6:dC K mg "_law_name" 20 f6 d6)
  (t7:dC K mg "_law_names" 21 f7 d7)
  (t8:dC K mg "_law_lengths" 22 f8 d8)
  (t9:dC K mg "_law_counts" 23 f9 d9)
  (Nu:dC K mg "_law_key" 24 T9 Uw)
  (Nt:dC K mg "_law_in_order" 25 T8 Uv)
  (Nr:dC K mg "_law_options" 26 T7 Uu)
  (Nq:dC K mg "_law_game" 27 T6 Ut)
  (Np:dC K mg "_law_some_of" 28 T5 Us)
  (Nn:dC K mg "_law_picked" 29 T4 Ur)
  (KC:dC K mg "_law_alike" 30 T3 Uq)
  (Nl:dC K mg "_law_needed" 31 T2 Uo)
  (Nk:dC K mg "_law_hindered" 32 TZ Um)
  (Ni:dC K mg "_law_asked" 33 TY Ul)
  (R0:dC K mg "law" 34 Rx (PySem.W.fnOf "law" "law" (c_ (top 34)) (bN (top 34)) (aj (top 34)) .none kV dc pm an cd ct)):
  ∃fd:FuncData,(∀(s:Shared) (v:Value),BindsTo s fd ⟨[v],[]⟩ [("_law_script",v)])/\∀base:Heap,K.In base->base.Ns mainGlobals mg->bw l.prog w K mg base eP 7 Rx fd ["_law_script"] (cE K pL):=by
 refine⟨PySem.W.fnOf "law" "law" (c_ (top 34)) (bN (top 34)) (aj (top 34)) .none kV dc pm an cd ct,λ s v=>.of_eq rfl,λ base _ _=>?_⟩
 have b0:=t0.F.binds (ps:=["counts","some"]) λ _ _ _ _ _ _=>gO λ _ _=>rfl
 have b1:=t1.F.binds (ps:=["counts","some"]) λ _ _ _ _ _ _=>gO λ _ _=>rfl
 have b2:=t2.F.binds (ps:=["heap","some"]) λ _ _ _ _ _ _=>gO λ _ _=>rfl
 have b3:=t3.F.binds (ps:=["game","some"]) λ _ _ _ _ _ _=>gO λ _ _=>rfl
 have b4:=t4.F.binds (ps:=["_law_script"]) λ _ _ _ _ _ _=>wO λ _=>rfl
 have b5:=t5.F.binds (ps:=["_law_flow_here","_law_many"]) λ _ _ _ _ _ _=>gO λ _ _=>rfl
 have b6:=t6.F.binds (ps:=["_law_flow_here"]) λ _ _ _ _ _ _=>wO λ _=>rfl
 have b7:=t7.F.binds (ps:=["_law_flow_here","_law_many"]) λ _ _ _ _ _ _=>gO λ _ _=>rfl
 have b8:=t8.F.binds (ps:=["_law_options_here"]) λ _ _ _ _ _ _=>wO λ _=>rfl
 have b9:=t9.F.binds (ps:=["_law_heaps","_law_many"]) λ _ _ _ _ _ _=>gO λ _ _=>rfl
 have UM:=Nu.F.binds (ps:=["_law_counts_here"]) λ _ _ _ _ _ _=>wO λ _=>rfl
 have UL:=Nt.F.binds (ps:=["_law_sums"]) λ _ _ _ _ _ _=>wO λ _=>rfl
 have UK:=Nr.F.binds (ps:=["_law_flow_here","_law_ahead","_law_many","_law_deep"]) λ _ _ _ _ _ _=>O7 λ _ _ _ _=>rfl
 have UJ:=Nq.F.binds (ps:=["_law_flow_here","_law_most","_law_deep"]) λ _ _ _ _ _ _=>LL λ _ _ _=>rfl
 have UI:=Np.F.binds (ps:=["_law_flow_here","_law_many"]) λ _ _ _ _ _ _=>gO λ _ _=>rfl
 have UH:=Nn.F.binds (ps:=["_law_game_here","_law_some"]) λ _ _ _ _ _ _=>gO λ _ _=>rfl
 have RE:=KC.F.binds (ps:=["_law_found","_law_due"]) λ _ _ _ _ _ _=>gO λ _ _=>rfl
 have UG:=Nl.F.binds (ps:=["_law_game_here","_law_some"]) λ _ _ _ _ _ _=>gO λ _ _=>rfl
 have UE:=Nk.F.binds (ps:=["_law_game_here","_law_some"]) λ _ _ _ _ _ _=>gO λ _ _=>rfl
 have UD:=Ni.F.binds (ps:=["_law_game_here","_law_some"]) λ _ _ _ _ _ _=>gO λ _ _=>rfl
 have fG:=bP.of t5.F (DQ t5.F T (P:=l.prog) (w:=w) (base:=base)) t5.m b5
 have vQ:=bP.of t4.F (DW t4.F T (P:=l.prog) (w:=w) (base:=base)) t4.m b4
 have vM:=bP.of t6.F (DS t6.F T fG (P:=l.prog) (w:=w) (base:=base)) t6.m b6
 have xX:=bP.of Nu.F (Iv Nu.F T (P:=l.prog) (w:=w) (base:=base)) Nu.m UM
 have rM:=bP.of Nt.F (zH Nt.F T xX (P:=l.prog) (w:=w) (base:=base)) Nt.m UL
 have pj:=bP.of t9.F (wH t9.F T (P:=l.prog) (w:=w) (base:=base)) t9.m b9
 have rL:=bP.of t7.F (zG t7.F T vM (P:=l.prog) (w:=w) (base:=base)) t7.m b7
 have xY:=bP.of KC.F (Iw KC.F T KC.m RE (P:=l.prog) (w:=w) (base:=base) 5) KC.m RE
 have vN:=bP.of t8.F (DT t8.F T (P:=l.prog) (w:=w) (base:=base)) t8.m b8
 have vL:=bP.of Nr.F (DR Nr.F T fG vN pj rM (P:=l.prog) (w:=w) (base:=base)) Nr.m UK
 have vP:=bP.of Nq.F (DV Nq.F T fG rL vL (P:=l.prog) (w:=w) (base:=base)) Nq.m UJ
 have lH:=bP.of t0.F (DP t0.F T (P:=l.prog) (w:=w) (base:=base)) t0.m b0
 have rO:=bP.of t1.F (zJ t1.F T lH (P:=l.prog) (w:=w) (base:=base)) t1.m b1
 have rK:=bP.of t2.F (zF t2.F T lH (P:=l.prog) (w:=w) (base:=base)) t2.m b2
 have vK:=bP.of Np.F (DO Np.F T fG (P:=l.prog) (w:=w) (base:=base)) Np.m UI
 have pf:=xI.of t3.F (wF t3.F T rO rK (P:=l.prog) (w:=w) (base:=base)) t3.m b3
 have rN:=bP.of Ni.F (zI Ni.F T pf (P:=l.prog) (w:=w) (base:=base)) Ni.m UD
 have mQ:=bP.of Nn.F (sQ Nn.F T (P:=l.prog) (w:=w) (base:=base)) Nn.m UH
 have vO:=bP.of Nk.F (DU Nk.F T (P:=l.prog) (w:=w) (base:=base)) Nk.m UE
 have ph:=bP.of Nl.F (wG Nl.F T (P:=l.prog) (w:=w) (base:=base)) Nl.m UG
 exact Iu R0.F T vQ vP vK vO mQ xY rN ph
theorem walk{l:PySem.W.OpenLaw}{q:Program}{loose:List Str}{XP:(Str->Option Value)->Heap->Prop}{YP:World->Heap->Prop}{d:DefRec}{K:Params->PySem.W.Frag}(hn:l.most=some 63)(AG:d.params.defaults=[])
  (hY:∀(w:World) (h:Heap),YP w h->(K w.params).In h)
  (F:∀(w:World) (mg:Str->Option Value) (fa:Addr) (h:Heap),(K w.params).In h->h.Ns mainGlobals mg->mg d.name=some (.ref fa)->
   ∃fd:FuncData,(∀(s:Shared) (u:Value),BindsTo s fd ⟨[u],[]⟩ [("_law_script",u)])/\∀base:Heap,(K w.params).In base->base.Ns mainGlobals mg->bw l.prog w (K w.params) mg base eP 7 fa fd ["_law_script"] (cE (K w.params) pL)):
  PySem.W.WalkO q loose XP YP l.row.toRowW d [] (λ f vs=>PySem.call f vs):=
 L2.B6 (n:=63) (k:=7) (x:="_law_script") (CX:=λ _=>eP) (sp:=λ w=>cE (K w.params) pL) hn (by decide) AG ⟨rfl,by decide,by decide⟩ hY F (λ _ _ a ns hl hO hS=>II hO hS) λ _ _ _ _ _ z=>z
end KK
open PySem PySem.W PyProof.Rows
def PySem.W.Fast.tw1251399952022657599:Program:=PySem.Challenge.pw_lastloser_k43_picks_refused
theorem PySem.W.Fast.te1251399952022657599 : PySem.Challenge.pw_lastloser_k43_picks_refused = PySem.W.Fast.tw1251399952022657599 := rfl
namespace KK
open L2
noncomputable def kE (P:Params)(x:Str)(t:Nat)(v:Value):DictEntry:={hash:=PyData.keyHash P x,key:=.str x t,val:=v}
noncomputable def kO (x:Str)(t l n r s u:Nat)(v w:Value):Obj:={cls:=.type "code",data:=.fields #[.str x t,.str x (t+1),.str "/claim/cut.py" (t+2),.int l 0,.int n 0,.int 0 0,.int 0 0,.int 3 0,.ref r,.bool true,.int 181 0,.ref (r+1),.none,v,w,.ref s,.int u 0,.int l 0,.str "/claim/cut.py" (u+1)]}
noncomputable def kF (x:Str)(i:Nat)(m:Str×Nat)(c:Nat):Obj:={cls:=.type "function",data:=.func (PySem.W.fnOf x x (c_ (top i)) (bN (top i)) (aj (top i)) .none .none .none (.str m.1 m.2) none (.ref c) .none)}
noncomputable def BM (q:Str)(c t l n u:Nat):Obj:={cls:=.type "code",data:=.fields #[.str "__init__" t,.str q (t+1),.str "/claim/cut.py" (t+2),.int l 0,.int n 0,.int 0 0,.int 0 0,.int 3 0,.ref (c - 5),.bool true,.int 181 0,.ref (c - 4),.none,.ref (c - 3),.ref (c - 2),.ref (c - 1),.int u 0,.int l 0,.str "/claim/cut.py" (u+1)]}
noncomputable def Ac (q:Str)(i:Nat)(m:Str×Nat)(c:Nat):Obj:={cls:=.type "function",data:=.func (PySem.W.fnOf "__init__" q (c_ (qt i)) (bN (qt i)) (aj (qt i)) .none .none .none (.str m.1 m.2) none (.ref c) .none)}
abbrev kC(x:Str)(a:Nat)(bs bm sub:List Value)(s t u:Nat):Obj:=excClassObj x x a (a - 1) bs bm true [] sub false none none (some (.ref s)) none (some (.str x t)) (some (.str x u)) (some (.bool true)) "ValueError.__new__"
noncomputable def kP (x:Str)(a i:Nat)(m:Str×Nat)(t l n u q:Nat):List (Nat×Obj):=[(a,if q=0 then kO x t l n (a - 3) (a - 1) u .none .none else kO x t l n (a - 5) (a - 1) u (.ref (a - 3)) (.ref (a - 2))),(a+1,kF x i m a)]
noncomputable def m2:Str×Nat:=("lastloser.errors",187)
noncomputable def m0:Str×Nat:=("lastloser.picking",457)
noncomputable def m1:Str×Nat:=("law_lastloser_k43_picks_refused",485)
noncomputable def kD (P:Params):Obj:={cls:=.type "dict",data:=.dict #[kE P "__name__" 165 (.str "law_lastloser_k43_picks_refused" 485),kE P "__doc__" 166 .none,kE P "__package__" 167 .none,kE P "__loader__" 168 (.builtin "__main__.__loader__#opaque"),kE P "__spec__" 169 .none,kE P "__annotations__" 170 (.ref 6),kE P "__builtins__" 171 (.ref 4),kE P "__file__" 173 (.str "/claim/cut.py" 172),kE P "__cached__" 174 .none,kE P "HeapError" 206 (.ref 24),kE P "NoText" 231 (.ref 44),kE P "Twice" 256 (.ref 63),kE P "NoName" 281 (.ref 82),kE P "TooMany" 304 (.ref 101),kE P "NoGame" 331 (.ref 120),kE P "NoTable" 358 (.ref 139),kE P "Wrong" 383 (.ref 158),kE P "NoPaper" 408 (.ref 177),kE P "NoPick" 433 (.ref 196),kE P "NoRow" 456 (.ref 215),kE P "picked_sum" 464 (.ref 222),kE P "is_among" 472 (.ref 229),kE P "picked_heap" 478 (.ref 234),kE P "picked" 484 (.ref 239),kE P "_law_flow" 493 (.ref 246),kE P "_law_pick" 503 (.ref 253),kE P "_law_name" 509 (.ref 258),kE P "_law_names" 521 (.ref 265),kE P "_law_lengths" 527 (.ref 270),kE P "_law_counts" 533 (.ref 275),kE P "_law_key" 539 (.ref 280),kE P "_law_in_order" 545 (.ref 285),kE P "_law_options" 551 (.ref 290),kE P "_law_game" 557 (.ref 295),kE P "_law_some_of" 563 (.ref 300),kE P "_law_picked" 569 (.ref 305),kE P "_law_alike" 575 (.ref 310),kE P "_law_needed" 588 (.ref 317),kE P "_law_hindered" 594 (.ref 322),kE P "_law_asked" 605 (.ref 329),kE P "law" 617 (.ref 336)] 41}
noncomputable def Sm (P:Params):Obj:={cls:=.type "dict",data:=.dict #[kE P "__module__" 196 (.str "lastloser.errors" 187),kE P "__firstlineno__" 200 (.int 2 199),kE P "__static_attributes__" 201 (.ref 22),kE P "__weakref__" 203 (.ref 25),kE P "__doc__" 204 .none] 3}
noncomputable def Sl (P:Params):Obj:={cls:=.type "dict",data:=.dict #[kE P "__module__" 214 (.str "lastloser.errors" 187),kE P "__firstlineno__" 218 (.int 4 217),kE P "__init__" 226 (.ref 41),kE P "__static_attributes__" 228 (.ref 42),kE P "__doc__" 229 .none] 2}
noncomputable def Sk (P:Params):Obj:={cls:=.type "dict",data:=.dict #[kE P "__module__" 239 (.str "lastloser.errors" 187),kE P "__firstlineno__" 243 (.int 9 242),kE P "__init__" 251 (.ref 60),kE P "__static_attributes__" 253 (.ref 61),kE P "__doc__" 254 .none] 2}
noncomputable def Sj (P:Params):Obj:={cls:=.type "dict",data:=.dict #[kE P "__module__" 264 (.str "lastloser.errors" 187),kE P "__firstlineno__" 268 (.int 14 267),kE P "__init__" 276 (.ref 79),kE P "__static_attributes__" 278 (.ref 80),kE P "__doc__" 279 .none] 2}
noncomputable def O2 (P:Params):Obj:={cls:=.type "dict",data:=.dict #[kE P "__module__" 289 (.str "lastloser.errors" 187),kE P "__firstlineno__" 293 (.int 19 292),kE P "__init__" 300 (.ref 98),kE P "__static_attributes__" 301 (.ref 99),kE P "__doc__" 302 .none] 2}
noncomputable def O1 (P:Params):Obj:={cls:=.type "dict",data:=.dict #[kE P "__module__" 312 (.str "lastloser.errors" 187),kE P "__firstlineno__" 316 (.int 23 315),kE P "__init__" 325 (.ref 117),kE P "__static_attributes__" 328 (.ref 118),kE P "__doc__" 329 .none] 2}
noncomputable def O0 (P:Params):Obj:={cls:=.type "dict",data:=.dict #[kE P "__module__" 339 (.str "lastloser.errors" 187),kE P "__firstlineno__" 343 (.int 29 342),kE P "__init__" 352 (.ref 136),kE P "__static_attributes__" 355 (.ref 137),kE P "__doc__" 356 .none] 2}
noncomputable def OZ (P:Params):Obj:={cls:=.type "dict",data:=.dict #[kE P "__module__" 366 (.str "lastloser.errors" 187),kE P "__firstlineno__" 370 (.int 35 369),kE P "__init__" 378 (.ref 155),kE P "__static_attributes__" 380 (.ref 156),kE P "__doc__" 381 .none] 2}
noncomputable def OY (P:Params):Obj:={cls:=.type "dict",data:=.dict #[kE P "__module__" 391 (.str "lastloser.errors" 187),kE P "__firstlineno__" 395 (.int 40 394),kE P "__init__" 403 (.ref 174),kE P "__static_attributes__" 405 (.ref 175),kE P "__doc__" 406 .none] 2}
noncomputable def OX (P:Params):Obj:={cls:=.type "dict",data:=.dict #[kE P "__module__" 416 (.str "lastloser.errors" 187),kE P "__firstlineno__" 420 (.int 45 419),kE P "__init__" 428 (.ref 193),kE P "__static_attributes__" 430 (.ref 194),kE P "__doc__" 431 .none] 2}
noncomputable def OW (P:Params):Obj:={cls:=.type "dict",data:=.dict #[kE P "__module__" 441 (.str "lastloser.errors" 187),kE P "__firstlineno__" 445 (.int 50 444),kE P "__init__" 452 (.ref 212),kE P "__static_attributes__" 453 (.ref 213),kE P "__doc__" 454 .none] 2}
noncomputable def kK (P:Params):PySem.W.Frag:=(3,kD P)::[(2,{cls:=.none,data:=.dict #[]}),(23,Sm P),(24,kC "HeapError" 24 [.type "ValueError"] [.type "ValueError",.type "Exception",.type "BaseException",.type "object"] [.ref 44,.ref 63,.ref 82,.ref 101,.ref 120,.ref 139,.ref 158,.ref 177,.ref 196,.ref 215] 15 189 197),(43,Sl P),(44,kC "NoText" 44 [.ref 24] [.ref 24,.type "ValueError",.type "Exception",.type "BaseException",.type "object"] [] 28 207 215),(40,BM "NoText.__init__" 40 219 6 2 224),(41,Ac "NoText.__init__" 2 m2 40),(62,Sk P),(63,kC "Twice" 63 [.ref 24] [.ref 24,.type "ValueError",.type "Exception",.type "BaseException",.type "object"] [] 47 232 240),(59,BM "Twice.__init__" 59 244 11 2 249),(60,Ac "Twice.__init__" 3 m2 59),(81,Sj P),(82,kC "NoName" 82 [.ref 24] [.ref 24,.type "ValueError",.type "Exception",.type "BaseException",.type "object"] [] 66 257 265),(78,BM "NoName.__init__" 78 269 16 2 274),(79,Ac "NoName.__init__" 4 m2 78),(100,O2 P),(101,kC "TooMany" 101 [.ref 24] [.ref 24,.type "ValueError",.type "Exception",.type "BaseException",.type "object"] [] 85 282 290),(97,BM "TooMany.__init__" 97 294 21 1 298),(98,Ac "TooMany.__init__" 5 m2 97),(119,O1 P),(120,kC "NoGame" 120 [.ref 24] [.ref 24,.type "ValueError",.type "Exception",.type "BaseException",.type "object"] [] 104 305 313),(116,BM "NoGame.__init__" 116 317 25 3 323),(117,Ac "NoGame.__init__" 6 m2 116),(138,O0 P),(139,kC "NoTable" 139 [.ref 24] [.ref 24,.type "ValueError",.type "Exception",.type "BaseException",.type "object"] [] 123 332 340),(135,BM "NoTable.__init__" 135 344 31 3 350),(136,Ac "NoTable.__init__" 7 m2 135),(157,OZ P),(158,kC "Wrong" 158 [.ref 24] [.ref 24,.type "ValueError",.type "Exception",.type "BaseException",.type "object"] [] 142 359 367),(154,BM "Wrong.__init__" 154 371 37 2 376),(155,Ac "Wrong.__init__" 8 m2 154),(176,OY P),(177,kC "NoPaper" 177 [.ref 24] [.ref 24,.type "ValueError",.type "Exception",.type "BaseException",.type "object"] [] 161 384 392),(173,BM "NoPaper.__init__" 173 396 42 2 401),(174,Ac "NoPaper.__init__" 9 m2 173),(195,OX P),(196,kC "NoPick" 196 [.ref 24] [.ref 24,.type "ValueError",.type "Exception",.type "BaseException",.type "object"] [] 180 409 417),(192,BM "NoPick.__init__" 192 421 47 2 426),(193,Ac "NoPick.__init__" 10 m2 192),(214,OW P),(215,kC "NoRow" 215 [.ref 24] [.ref 24,.type "ValueError",.type "Exception",.type "BaseException",.type "object"] [] 199 434 442),(211,BM "NoRow.__init__" 211 446 52 1 450),(212,Ac "NoRow.__init__" 11 m2 211)]++[kP "picked_sum" 221 13 m0 459 55 2 462 0,kP "is_among" 228 14 m0 465 57 2 470 1,kP "picked_heap" 233 15 m0 473 59 2 476 0,kP "picked" 238 16 m0 479 61 2 482 0,kP "_law_flow" 245 18 m1 487 67 1 491 1,kP "_law_pick" 252 19 m1 494 69 2 501 1,kP "_law_name" 257 20 m1 504 84 1 507 0,kP "_law_names" 264 21 m1 510 93 2 519 1,kP "_law_lengths" 269 22 m1 522 103 1 525 0,kP "_law_counts" 274 23 m1 528 109 2 531 0,kP "_law_key" 279 24 m1 534 111 1 537 0,kP "_law_in_order" 284 25 m1 540 113 1 543 0,kP "_law_options" 289 26 m1 546 115 4 549 0,kP "_law_game" 294 27 m1 552 132 3 555 0,kP "_law_some_of" 299 28 m1 558 139 2 561 0,kP "_law_picked" 304 29 m1 564 141 2 567 0,kP "_law_alike" 309 30 m1 570 143 2 573 0,kP "_law_needed" 316 31 m1 576 155 2 586 1,kP "_law_hindered" 321 32 m1 589 165 2 592 0,kP "_law_asked" 328 33 m1 595 171 2 603 1,kP "law" 335 34 m1 606 183 1 615 1].flatten
noncomputable def kA:List Addr:=[3,2,23,24,43,44,40,41,62,63,59,60,81,82,78,79,100,101,97,98,119,120,116,117,138,139,135,136,157,158,154,155,176,177,173,174,195,196,192,193,214,215,211,212,221,222,228,229,233,234,238,239,245,246,252,253,257,258,264,265,269,270,274,275,279,280,284,285,289,290,294,295,299,300,304,305,309,310,316,317,321,322,328,329,335,336]
theorem tF{K:PySem.W.Frag}{h:Heap}{mg:Str->Option Value}{x:Str}{i:Nat}(X:K.In h)(G:h.Ns mainGlobals mg)(m:Str×Nat)(c:Nat)(a:PySem.W.nsIn K mainGlobals x=some (some (.ref (c+1))):=by kernel_rfl)(l:K.lookup (c+1)=some (kF x i m c):=by kernel_rfl)(e:PySem.W.codeIn K (.ref c) x=true:=by kernel_rfl):dC K mg x i (c+1) (PySem.W.fnOf x x (c_ (top i)) (bN (top i)) (aj (top i)) .none .none .none (.str m.1 m.2) none (.ref c) .none):=
 ⟨PySem.W.mg_of X G a,AN (st:=top i) l e (by unfold PySem.W.keepIn;dsimp only;rw[l];rfl)⟩
theorem kn{K:PySem.W.Frag}{h:Heap}{mg:Str->Option Value}{x:Str}(X:K.In h)(G:h.Ns mainGlobals mg)(e:PySem.W.nsIn K mainGlobals x=some none:=by kernel_rfl):mg x=none:=PySem.W.mg_none_of X G e
theorem cF{K:PySem.W.Frag}{h:Heap}{mg:Str->Option Value}{q:Str}{ps ns:List Str}(X:K.In h)(G:h.Ns mainGlobals mg)(m:Str×Nat)(i:Nat)(x:Str)(a:Nat)(bs bm sub:List Value)(s t u:Nat)(e1:PySem.W.nsIn K mainGlobals x=some (some (.ref a)):=by kernel_rfl)(l:K.lookup a=some (kC x a bs bm sub s t u):=by kernel_rfl)(l2:K.lookup (a - 3)=some (Ac q i m (a - 4)):=by kernel_rfl)(e2:PySem.W.codeIn K (.ref (a - 4)) q=true:=by kernel_rfl)(e3:PySem.W.tailIn K Qs bm=true:=by kernel_rfl)(e4:PySem.W.nsOkIn K (a - 1)=true:=by kernel_rfl)(e5:PySem.W.nsIn K (a - 1) "__init__"=some (some (.ref (a - 3))):=by kernel_rfl)(e6:PySem.W.isFn K (.ref (a - 3))=true:=by kernel_rfl)(e7:PySem.W.keepIn K (.ref a)=true:=by kernel_rfl)(e8:PySem.W.findIn K (.ref a) "__setattr__"=some (some (.builtin "object.__setattr__")):=by kernel_rfl)
  (f1:PySem.W.findIn K (.ref a) "__getattribute__"=some (some (.builtin "BaseException.__getattribute__")):=by kernel_rfl) (f2:PySem.W.findIn K (.ref a) "__getattr__"=some none:=by kernel_rfl) (f3:PySem.W.mroIn K a (.type "BaseException")=some true:=by kernel_rfl) (f4:PySem.W.mroIn K a (.type "object")=some true:=by kernel_rfl) (f5:(PySem.W.clsIn K a).any (·.hasDict)=true:=by kernel_rfl) (f6:PySem.W.findIn K (.ref a) "__class__"=some (some (.builtin "object.__class__")):=by kernel_rfl) (f7:PySem.W.specialIn K (.builtin "object.__class__") "__get__"=some (some (.builtin "getset_descriptor.__get__")):=by kernel_rfl) (f8:PySem.W.takesIn K (.builtin "object.__class__")=some true:=by kernel_rfl)
  (Ug:(ns.all λ f=>L4.Ja (PySem.W.findIn K (.ref a) f))=true:=by kernel_rfl) (Ue:bm.contains (.type "BaseException")=true:=by kernel_rfl):L4.gy K mg x q (qt i) a (a - 3) ps ns:=
 ⟨PySem.W.mg_of X G e1,⟨_,AN (st:=qt i) l2 e2 (by unfold PySem.W.keepIn;dsimp only;rw[l2];rfl)⟩,⟨⟨_,_,_,_,_,_,_,_,_,_,_,_,_,_,_,l,e3,e4,e5⟩,e6,e7,e8⟩,⟨f1,f2,f3,f4,f5,f6,f7,f8⟩,⟨⟨_,_,_,_,_,_,_,_,_,_,_,_,_,_,_,_,_,l,Ue⟩⟩,Ug⟩
def pg:Program:={PySem.Challenge.pw_lastloser_k43_picks_refused with main:={PySem.Challenge.pw_lastloser_k43_picks_refused.main with body:=[top 0,top 1,top 2,top 3,top 4,top 5,top 6,top 7,top 8,top 9,top 10,top 11,top 12,top 13,top 14,top 15,top 16,top 17,top 18,top 19,top 20,top 21,top 22,top 23,top 24,top 25,top 26,top 27,top 28,top 29,top 30,top 31,top 32,top 33,top 34]}}
def lw:PySem.W.OpenLaw:={PySem.Challenge.rw_lastloser_k43_picks_refused with prog:=pg}
end KK
def PySem.W.Fast.tw10255974909061214210:Nat:=0
def PySem.W.Fast.tw7451045129028175170:Nat:=0
def PySem.W.Fast.tw5950009327821585346:Nat:=0
def PySem.W.Fast.tw9378903718173339462:Nat:=0
def PySem.W.Fast.tw2035885645244354282:Nat:=0
def PySem.W.Fast.tw17389258389358423757:Nat:=0
def PySem.W.Fast.tw15281749080292944974:Nat:=0
def PySem.W.Fast.tw9830972787581528302:Nat:=0
def PySem.W.Fast.tw16903777205083614484:Nat:=0
def PySem.W.Fast.tw2782947838631305620:Nat:=0
def PySem.W.Fast.tw11849638441166490260:Nat:=0
def PySem.W.Fast.tw11696405517367075321:Nat:=0
def PySem.W.Fast.tw12047753507359966362:Nat:=0
def PySem.W.Fast.tw6016069055930651902:Nat:=0
def PySem.W.Fast.tw14628638289105787486:Nat:=0
def PySem.W.Fast.tw340943301801174815:Nat:=0
set_option maxRecDepth 100000 in
set_option maxHeartbeats 0 in
theorem KK.pre:KK.lw.Holds:=by
 w_on;o_law;o_head (PySem.W.kHook KK.kK KK.kA (λ _=>by kernel_rfl));(case hw=>w_witness2)
 refine KK.walk (l:=KK.lw) rfl rfl (λ w h Y=>PySem.W.kIn_of Y) ?F
 case F=>
  intro w mg fa h KX G Mb
  have hm:mg "law"=some (.ref fa):=Mb
  have e:=hm.symm.trans (PySem.W.mg_of KX G (v:=.ref (335+1)) (by kernel_rfl))
  cases e
  exact KK.all_mk ⟨KK.kn KX G,KK.kn KX G,KK.kn KX G,KK.kn KX G,KK.kn KX G,KK.kn KX G,KK.kn KX G,KK.kn KX G,KK.kn KX G,KK.kn KX G,KK.kn KX G,KK.kn KX G,KK.kn KX G,KK.kn KX G,KK.kn KX G,KK.kn KX G,KK.Al _,KK.En _,KK.Aj _,KK.Em _,KK.wX _,PySem.W.mg_of KX G (by kernel_rfl),⟨by kernel_rfl,by kernel_rfl,by kernel_rfl⟩,KK.cF KX G KK.m2 2 "NoText" 44 [.ref 24] [.ref 24,.type "ValueError",.type "Exception",.type "BaseException",.type "object"] [] 28 207 215,KK.cF KX G KK.m2 3 "Twice" 63 [.ref 24] [.ref 24,.type "ValueError",.type "Exception",.type "BaseException",.type "object"] [] 47 232 240,KK.cF KX G KK.m2 4 "NoName" 82 [.ref 24] [.ref 24,.type "ValueError",.type "Exception",.type "BaseException",.type "object"] [] 66 257 265,KK.cF KX G KK.m2 5 "TooMany" 101 [.ref 24] [.ref 24,.type "ValueError",.type "Exception",.type "BaseException",.type "object"] [] 85 282 290,KK.cF KX G KK.m2 6 "NoGame" 120 [.ref 24] [.ref 24,.type "ValueError",.type "Exception",.type "BaseException",.type "object"] [] 104 305 313,KK.cF KX G KK.m2 7 "NoTable" 139 [.ref 24] [.ref 24,.type "ValueError",.type "Exception",.type "BaseException",.type "object"] [] 123 332 340,KK.cF KX G KK.m2 8 "Wrong" 158 [.ref 24] [.ref 24,.type "ValueError",.type "Exception",.type "BaseException",.type "object"] [] 142 359 367,KK.cF KX G KK.m2 9 "NoPaper" 177 [.ref 24] [.ref 24,.type "ValueError",.type "Exception",.type "BaseException",.type "object"] [] 161 384 392,KK.cF KX G KK.m2 10 "NoPick" 196 [.ref 24] [.ref 24,.type "ValueError",.type "Exception",.type "BaseException",.type "object"] [] 180 409 417,KK.cF KX G KK.m2 11 "NoRow" 215 [.ref 24] [.ref 24,.type "ValueError",.type "Exception",.type "BaseException",.type "object"] [] 199 434 442,by kernel_rfl,by kernel_rfl,by kernel_rfl⟩ (KK.tF KX G KK.m0 221) (KK.tF KX G KK.m0 228) (KK.tF KX G KK.m0 233) (KK.tF KX G KK.m0 238) (KK.tF KX G KK.m1 245) (KK.tF KX G KK.m1 252) (KK.tF KX G KK.m1 257) (KK.tF KX G KK.m1 264) (KK.tF KX G KK.m1 269) (KK.tF KX G KK.m1 274) (KK.tF KX G KK.m1 279) (KK.tF KX G KK.m1 284) (KK.tF KX G KK.m1 289) (KK.tF KX G KK.m1 294) (KK.tF KX G KK.m1 299) (KK.tF KX G KK.m1 304) (KK.tF KX G KK.m1 309) (KK.tF KX G KK.m1 316) (KK.tF KX G KK.m1 321) (KK.tF KX G KK.m1 328) (KK.tF KX G KK.m1 335)
theorem PySem.Challenge.cw_lastloser_k43_picks_refused_holds : PySem.Challenge.rw_lastloser_k43_picks_refused.Holds :=
 KK.pre
