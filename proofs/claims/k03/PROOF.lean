import PyProof.Rows.All
import Wide.All
import OpenK.AllK
import Wide.FinOn
import Lean
import PyProof.EqAt
import PyProof.EqKinds
import PyProof.TupleCall
import PyProof.StrWalks
import PyProof.ConsumeWalk
import PyProof.TupleKey
import PyProof.DictFindH
import PyProof.P3Eq
import PyProof.DictRoadsH
import PyProof.Rows.TupTab
import KE.KSortTup
import PyProof.ZipIter
import PyProof.Draws
import PyProof.WalksMore
import PyProof.ListMulRoad
import PyProof.AutoListH
import PyProof.FactsAll.tuple_2
import PyProof.FactsAll.tuple
import PyProof.TupleIter
import PyProof.AttrMissHeap
import PyProof.DictIter
import PyProof.DictWalks
import KE.KDictSum
import KE.KDictOf
import PyProof.EnumMake
import KE.BitLaws
import PyProof.RaisesMany
import PyProof.ExcInit
import PyProof.ExcClass3
import PyProof.ExcArgsOwn
import PyProof.RulesTry
import PyProof.RulesAs
import PyProof.NsDelKeeps
import KE.KIsAll
import PyProof.Rows.SortWalk
import PyProof.Rows.Range3
import PySem.Challenge.RW_lastloser_k03_the_first_fault_of_several
set_option tactic.hygienic false
local macro_rules|`(tactic|omega)=>`(tactic|lia)
local macro_rules|`(tactic|obtain $p:rcasesPatMed:=$t:term)=>`(tactic|first|(refine Classical.byContradiction fun k=>?_;rcases $t:term with $p:rcasesPatMed<;>(refine k ?_;clear k))|rcases $t:term with $p:rcasesPatMed)
set_option Elab.async false
set_option linter.all false
set_option maxRecDepth 100000
set_option maxHeartbeats 4000000
open List
def a0:=@PyProof.Rows.slot_tuple_getitem
def a8:=@PySem.wpAny_typeNameOfWhole_keyiter
def a9:=@PySem.F.slot_dict_keyiterator_next
def c4:=@PyProof.Rows.callWith_type1
def c5:=@PySem.F.slot_tuple_iterator_next
def c6:=@getElem?_append_right
def c7:=@getD_eq_getElem?_getD
def c8:=@getElem?_append_left
def c9:=@Array.getElem?_eq_getElem
def g8:=@drop_eq_getElem_cons
def g9:=@List.getElem?_eq_some_iff
def i0:=@List.getElem?_eq_none_iff
def i4:=@getElem?_eq_getElem
def i5:=@PySem.F.plainAttrs_list
def i6:=@getElem?_replicate
def i7:=@PySem.wpAny_callSpecial?_slot
def i8:=@length_eq_zero_iff
def i9:=@take_of_length_le
def j0:=@Array.getElem?_eq_none
def j1:=@PySem.Heap.get?_push_of_some
def j2:=@PySem.Heap.get?_update_other
def j3:=@PySem.Heap.get?_update_self
def j4:=@mem_append_right
def j5:=@length_singleton
def j6:=@Array.getElem?_toList
def j7:=@length_replicate
def j8:=@getElem?_eq_none
def j9:=@mem_cons_of_mem
def k4:=@mem_of_getElem?
def k7:=@PySem.Around.under_plainId
def k8:=@PySem.Heap.SameBut.update
def k9:=@getElem?_range
def l0:=@PySem.mem_of_lookup
def l3:=@replicate_succ
def l4:=@Array.length_toList
def l5:=@PySem.Heap.get?_push_size
def l6:=@mem_cons_self
def l7:=@Bool.false_ne_true
def l8:=@length_append
def l9:=@Bool.false_eq_true
def m5:=@Int.emod_lt_of_pos
def m6:=@Nat.lt_of_le_of_lt
def m7:=@Nat.lt_of_lt_of_le
def m8:=@mem_singleton
def m9:=@PySem.wpAny_Call_Name_kw
def n0:=@getElem?_map
def n4:=@decide_eq_true_eq
def n5:=@Int.toNat_natCast
def n6:=@PySem.wpAny_newObj_type
def n9:=@flatten_cons
def o7:=@PySem.wpAny_truthy_bool
def o8:=@PySem.wpAny_pyIter_list
def o9:=@length_range
def p0:=@Option.isSome_map
def p4:=@List.size_toArray
def p5:=@PySem.SeqAt.eqAt_reads
def p6:=@lookup_cons
def p7:=@Nat.le_of_not_lt
def p8:=@length_cons
def p9:=@length_drop
def q8:=@PySem.wpAny_call_entry
def q9:=@Bool.and_eq_true
def r6:=@length_take
def r9:=@Bool.eq_iff_iff
def s9:=@append_nil
def u3:=@find?_cons
def u4:=@decide_eq_false
def u5:=@PySem.wpAny_loadPart'
def u6:=@Int.emod_nonneg
def u7:=@Option.some.inj
def u9:=@PySem.PassesOwn.never
def v7:=@PySem.wpAny_passesOwn
def v8:=@PySem.codeAny_builtin
def v9:=@PySem.W.kia_one
def w5:=@length_map
def w6:=@mem_append
def w9:=@map_append
def x3:=@decide_eq_true
def x4:=@PySem.Heap.size_push
def x5:=@PySem.wpAny_holding
def x6:=@PySem.wpAny_attempt
def x8:=@PySem.Paired.length
def x9:=@Nat.lt_irrefl
def y0:=@map_cons
def y1:=@mem_cons
def y2:=@PySem.plainId_quiet
def y3:=@Nat.ne_of_lt
def y4:=@PySem.Heap.lt_size
def y6:=@mem_map
def y7:=@List.map_map
def y8:=@Nat.le_trans
def y9:=@Nat.le_refl
def z0:=@PySem.sizeLine_eq
def z4:=@Nat.zero_le
def z5:=@PySem.wpAny_field
def z6:=@PySem.wpAny_bind
def z7:=@PySem.wpAny_pure
def z8:=@PySem.call_meets
def z9:=@PySem.wpAny_mono
def A0:=@if_false
def A1:=@congrArg
def A2:=@Ne.symm
def A3:=@if_pos
def A4:=@if_neg
namespace L2
open PySem PySem.Spec PyProof.Rows
abbrev Key:=Sum Int Str
def om:Key->Value->Bool
 | .inl k,v=>Value.isInt k v
 | .inr x,v=>Value.isStrOf x v
def Qp(w:World):Key->Int
 | .inl k=>hashInt k
 | .inr x=>hashStr w x
theorem bJ:∀{k:Key} {v:Value},om k v=true->(∃i t,k=Sum.inl i/\v=Value.int i t)\/(∃x t,k=Sum.inr x/\v=Value.str x t)
 | .inl i,v,h=>by
  obtain⟨t,e⟩:=Value.isInt_shape (k:=i) (v:=v) h
  exact .inl ⟨i,t,rfl,e⟩
 | .inr x,v,h=>by
  obtain⟨t,e⟩:=Value.isStrOf_shape (x:=x) (v:=v) h
  exact .inr ⟨x,t,rfl,e⟩
theorem xT(i:Int)(t:Tok):om (.inl i) (.int i t)=true:=by simp[om,Value.isInt]
theorem xS(x:Str)(t:Tok):om (.inr x) (.str x t)=true:=by simp[om,Value.isStrOf]
theorem Jz(a b:Int):decide ((Sum.inl a:Key)=Sum.inl b)=(a==b):=by
 by_cases e:a=b
 ·subst e;simp
 ·have h:¬(Sum.inl a:Key)=Sum.inl b:=λ q=>e (Sum.inl.inj q)
  rw[u4 h]
  exact(beq_eq_false_iff_ne.mpr e).symm
theorem Jv(a b:Str):decide ((Sum.inr a:Key)=Sum.inr b)=decide (a=b):=by
 by_cases e:a=b
 ·subst e;simp
 ·have h:¬(Sum.inr a:Key)=Sum.inr b:=λ q=>e (Sum.inr.inj q)
  rw[u4 h,u4 e]
theorem Jy(a:Int)(b:Str):decide ((Sum.inl a:Key)=Sum.inr b)=false:=u4 (λ q=>nomatch q)
theorem Jw(a:Str)(b:Int):decide ((Sum.inr a:Key)=Sum.inl b)=false:=u4 (λ q=>nomatch q)
def b_(prog:Program)(w:World):PySem.KeyKind prog w Key where
 is:=om
 hash:=Qp w
 inj:=λ v a b ha hb=>by
  rcases bJ ha with⟨i,t,rfl,rfl⟩|⟨x,t,rfl,rfl⟩
  ·rcases bJ hb with⟨j,u,rfl,e⟩|⟨y,u,rfl,e⟩
   ·injection e with e1 _;rw[e1]
   ·exact nomatch e
  ·rcases bJ hb with⟨j,u,rfl,e⟩|⟨y,u,rfl,e⟩
   ·exact nomatch e
   ·injection e with e1 _;rw[e1]
 byValue:=λ k v h=>by
  rcases bJ h with⟨i,t,rfl,rfl⟩|⟨x,t,rfl,rfl⟩ <;> rfl
 pyHash:=λ hv h=>by
  rcases bJ hv with⟨i,t,rfl,rfl⟩|⟨x,t,rfl,rfl⟩
  ·exact wpAny_pyHash_int h
  ·exact wpAny_pyHash_str h
 eqBool:=λ hu hv h=>by
  rcases bJ hu with⟨i,t,rfl,rfl⟩|⟨x,t,rfl,rfl⟩
  ·rcases bJ hv with⟨j,u,rfl,rfl⟩|⟨y,u,rfl,rfl⟩
   ·rw[Jz]at h;exact wpAny_eqBool_int h
   ·rw[Jy]at h;exact SeqAt.EqAt.int_str i t y u _ _ _ _ h
  ·rcases bJ hv with⟨j,u,rfl,rfl⟩|⟨y,u,rfl,rfl⟩
   ·rw[Jw]at h;exact SeqAt.EqAt.str_int x t j u _ _ _ _ h
   ·rw[Jv]at h;exact wpAny_eqBool_str h
 «strs»:=λ k x t v h=>by
  rcases bJ h with⟨i,u,rfl,e⟩|⟨y,u,rfl,e⟩
  ·exact nomatch e
  ·injection e with e1 _
   subst e1
   cases v <;> rfl
theorem jD(prog:Program)(w:World)(i:Int)(t:Tok):(b_ prog w).is (.inl i) (.int i t)=true:=xT i t
theorem rF(prog:Program)(w:World)(x:Str)(t:Tok):(b_ prog w).is (.inr x) (.str x t)=true:=xS x t
inductive V where
 |aZ|bl (b:Bool)|int (i:Int)|str (x:Str)|yI (b:Array UInt8)|Kb (b:UInt64)|ref (a:Addr)|ty (n:String)
 deriving DecidableEq
def RelV:V->Value->Prop
 | .aZ,u=>u=Value.none
 | .bl b,u=>u=Value.bool b
 | .int i,u=>∃t,u=Value.int i t
 | .str x,u=>∃t,u=Value.str x t
 | .yI b,u=>∃t,u=Value.bytes b t
 | .Kb b,u=>∃t,u=Value.float b t
 | .ref a,u=>u=Value.ref a
 | .ty n,u=>u=Value.type n
abbrev Vals:List V->List Value->Prop:=Paired RelV
theorem Vals.length {xs:List V}{us:List Value}(r:Vals xs us):xs.length=us.length:=x8 r
theorem Vals.get:∀{xs:List V} {us:List Value} {i:Nat} {x:V},Vals xs us->xs[i]?=some x->∃u,us[i]?=some u/\RelV x u
 |_,_,_,_,.nil,e=>by simp at e
 |_,_,0,_,.cons r _,e=>by simp at e;subst e;exact⟨_,rfl,r⟩
 |_,_,i+1,x,.cons _ t,e=>by
  obtain⟨u,h1,h2⟩:=Vals.get (i:=i) (x:=x) t (by simpa using e)
  exact⟨u,by simpa using h1,h2⟩
theorem Vals.set {x:V}{u:Value}(r:RelV x u):∀{xs:List V} {us:List Value} (i:Nat),Vals xs us->Vals (xs.set i x) (us.set i u)
 |_,_,_,.nil=>.nil
 |_,_,0,.cons _ t=>.cons r t
 |_,_,i+1,.cons q t=>.cons q (Vals.set r i t)
theorem Vals.append:∀{xs ys:List V} {us ws:List Value},Vals xs us->Vals ys ws->Vals (xs++ys) (us++ws)
 |_,_,_,_,.nil,s=>s
 |_,_,_,_,.cons r t,s=>.cons r (Vals.append t s)
theorem Vals.take:∀{xs:List V} {us:List Value} (n:Nat),Vals xs us->Vals (xs.take n) (us.take n)
 |_,_,0,_=>.nil
 |_,_,_+1,.nil=>.nil
 |_,_,n+1,.cons r t=>.cons r (Vals.take n t)
theorem Vals.drop:∀{xs:List V} {us:List Value} (n:Nat),Vals xs us->Vals (xs.drop n) (us.drop n)
 |_,_,0,r=>r
 |_,_,_+1,.nil=>.nil
 |_,_,n+1,.cons _ t=>Vals.drop n t
theorem Vals.none_of:∀{xs:List V} {us:List Value} {i:Nat},Vals xs us->xs[i]?=none->us[i]?=none:=λ{xs us i} r e=>by
 have h1:=r.length
 have h2:xs.length<=i:=i0.mp e
 exact i0.mpr (by omega)
def fX:Option V->Option Value->Prop
 |some v,some u=>RelV v u
 |none,none=>True
 |_,_=>False
def KV{κ:Type}:List (κ×V)->List (κ×Value)->Prop:=Paired λ(p:κ×V) (q:κ×Value)=>p.1=q.1/\RelV p.2 q.2
def kV:Key->V
 | .inl i=>.int i
 | .inr x=>.str x
inductive HO where
  |lst (xs:List V)
  |tup (xs:List V)
  |dK (aw:List (Key×V))|dT (aw:List (List Key×V))
  |set (S:Int->Bool) (n:Nat)
  |ins (C dx:Addr) (fs:List (Str×V))
  |own (x:Addr)
  |xd (fs:List (Str×V))
  |met (f x:Addr)
  |PF (lo hi:Int)
  |kM (o:Obj) (u:HO)
  |GS (ps:Array Value)
  |ext (φ:Heap->Prop)
abbrev Hp:=Addr->Option HO
def upd(H:Hp)(a:Addr)(o:HO):Hp:=λ b=>if b=a then some o else H b
theorem aS{H:Hp}{a:Addr}{o:HO}:upd H a o a=some o:=by unfold upd;rw[A3 rfl]
theorem az{H:Hp}{a b:Addr}{o:HO}(h:b≠a):upd H a o b=H b:=by unfold upd;rw[A4 h]
theorem kg{H:Hp}{a:Addr}{o u:HO}:upd (upd H a o) a u=upd H a u:=by
 funext b;unfold upd;split <;> rfl
theorem AE{H:Hp}{a b:Addr}{o u:HO}(h:H a=some o)(h':H b=some u)(d:o≠u):a≠b:=by
 intro e;subst e;rw[h]at h';exact d (u7 h')
theorem bZ{H:Hp}{a b:Addr}{o:HO}(h:H a=some o)(h':H b=none):a≠b:=by
 intro e;subst e;rw[h]at h';cases h'
section
variable (P:Program)(w:World)
def bA(H:Hp)(h:Heap)(a:Addr):HO->Prop
 | .lst xs=>xs.length<=sizeLine/\∃(au:List Value) (n:Nat),Vals xs au/\h.get? a=some {cls:=.type "list",data:=.seq au.toArray n}
 | .tup xs=>xs.length<=sizeLine/\∃au:List Value,Vals xs au/\IsTup h a au.toArray
 | .dK aw=>aw.length<=sizeLine/\(a==sysModules)=false/\∃vs,KV aw vs/\h.DictOf (b_ P w) a vs
 | .dT aw=>aw.length<=sizeLine/\(a==sysModules)=false/\∃xs:List (List Key×Addr×Value),
   Paired (λ(p:List Key×V) (q:List Key×Addr×Value)=>p.1=q.1/\H q.2.1=some (.tup (p.1.map kV))/\RelV p.2 q.2.2) aw xs/\
   ∃o es ep,h.get? a=some o/\o.ExactDict/\o.data=.dict es ep/\es.toList=xs.map (entryOfKey (tupleKind (b_ P w)))/\(xs.map (·.1)).Nodup
 | .set S n=>h.SetOf (intKind P w) a S n
 | .ins C dx fs=>H dx=some (.own a)/\fs.length<=1000/\dx≠a/\h.get? a=some (PySem.W.instObj C dx)/\
   ∃mA,h.Ns1 dx mA/\(∀f,fX (fs.lookup f) (mA f))/\PySem.Within mA (fs.map (·.1))
 | .own _=>∃o,h.get? a=some o
 | .xd fs=>∃mA,h.Ns1 a mA/\∀f,fX (fs.lookup f) (mA f)
 | .PF lo hi=>∃t u v,h.get? a=some {cls:=.type "range",data:=.fields #[.int lo t,.int hi u,.int 1 v]}
 | .kM o u=>h.get? a=some o/\bA H h a u
 | .GS ps=>h.get? a=some {cls:=.none,data:=.fields ps}
 | .met f x=>h.get? a=some (PySem.W.methodObj (.ref f) (.ref x))
 | .ext φ=>φ h/\(∃o,h.get? a=some o)/\∀h1 h2:Heap,φ h1->(∀o,h1.get? a=some o->h2.get? a=some o)->φ h2
def fw(H:Hp)(h:Heap):Prop:=∀a o,H a=some o->bA P w H h a o
end
section
variable {P:Program}{w:World}{H H':Hp}{h h':Heap}{a:Addr}{o:HO}
theorem bA.lt (x:bA P w H h a o):a < h.objs.size:=by
 cases o with
 |lst xs=>obtain⟨_,_,_,_,e⟩:=x;exact y4 e
 |tup xs=>obtain⟨_,_,_,p⟩:=x;exact p.lt
 |dK aw=>obtain⟨_,_,_,_,o,_,_,e,_⟩:=x;exact y4 e
 |dT aw=>obtain⟨_,_,_,_,o,_,_,e,_⟩:=x;exact y4 e
 |set S n=>obtain⟨o,_,_,_,e,_⟩:=x;exact y4 e
 |ins C dx fs=>obtain⟨_,_,_,e,_⟩:=x;exact y4 e
 |own y=>obtain⟨_,e⟩:=x;exact y4 e
 |xd fs=>obtain⟨_,⟨_,_,_,e,_⟩,_⟩:=x;exact y4 e
 |PF lo hi=>obtain⟨_,_,_,e⟩:=x;exact y4 e
 |kM ob u=>obtain⟨e,_⟩:=x;exact y4 e
 |GS ps=>exact y4 (show h.get? a=some _ from x)
 |met f y=>exact y4 (show h.get? a=some _ from x)
 |ext φ=>obtain⟨_,⟨_,e⟩,_⟩:=x;exact y4 e
theorem Paired.AF {α β:Type}{F G:α->β->Prop}:∀{l₁:List α} {l₂:List β},Paired F l₁ l₂->(∀a b,F a b->G a b)->Paired G l₁ l₂
 |_,_,.nil,_=>.nil
 |_,_,.cons r t,f=>.cons (f _ _ r) (Paired.AF t f)
theorem bA.dU (x:bA P w H h a o)(k:∀b u,(b=a\/H b=some (.own a))->h.get? b=some u->h'.get? b=some u)
  (ho:∀b,H b=some (.own a)->H' b=some (.own a)) (ht:∀b xs,H b=some (.tup xs)->H' b=some (.tup xs)):bA P w H' h' a o:=by
 induction o with
 |lst xs=>obtain⟨z,au,n,r,e⟩:=x;exact⟨z,au,n,r,k _ _ (.inl rfl) e⟩
 |tup xs=>obtain⟨z,au,r,ob,e,c⟩:=x;exact⟨z,au,r,ob,k _ _ (.inl rfl) e,c⟩
 |dK aw=>obtain⟨z,y,vs,r,ob,es,ep,e,c⟩:=x;exact⟨z,y,vs,r,ob,es,ep,k _ _ (.inl rfl) e,c⟩
 |dT aw=>
  obtain⟨z,y,xs,r,ob,es,ep,e,c⟩:=x
  exact⟨z,y,xs,Paired.AF r λ p q z=>⟨z.1,ht _ _ z.2.1,z.2.2⟩,ob,es,ep,k _ _ (.inl rfl) e,c⟩
 |set S n=>obtain⟨ob,es,ep,t,e,c⟩:=x;exact⟨ob,es,ep,t,k _ _ (.inl rfl) e,c⟩
 |ins C dx fs=>
  obtain⟨d,z,ne,e,mA,⟨od,es,ep,e2,c⟩,r⟩:=x
  exact⟨ho _ d,z,ne,k _ _ (.inl rfl) e,mA,⟨od,es,ep,k _ _ (.inr d) e2,c⟩,r⟩
 |own y=>obtain⟨ob,e⟩:=x;exact⟨ob,k _ _ (.inl rfl) e⟩
 |xd fs=>obtain⟨mA,⟨od,es,ep,e,c⟩,r⟩:=x;exact⟨mA,⟨od,es,ep,k _ _ (.inl rfl) e,c⟩,r⟩
 |PF lo hi=>obtain⟨t,u,v,e⟩:=x;exact⟨t,u,v,k _ _ (.inl rfl) e⟩
 |kM ob u ih=>obtain⟨e,q⟩:=x;exact⟨k _ _ (.inl rfl) e,ih q⟩
 |GS ps=>
  have e:h.get? a=some {cls:=.none,data:=.fields ps}:=x
  show h'.get? a=some {cls:=.none,data:=.fields ps}
  exact k a _ (.inl rfl) e
 |met f y=>
  have e:h.get? a=some (PySem.W.methodObj (.ref f) (.ref y)):=x
  show h'.get? a=some (PySem.W.methodObj (.ref f) (.ref y))
  exact k a _ (.inl rfl) e
 |ext φ=>obtain⟨p,⟨o,e⟩,st⟩:=x;exact⟨st _ _ p λ o q=>k _ _ (.inl rfl) q,⟨o,k _ _ (.inl rfl) e⟩,st⟩
theorem fw.lt (x:fw P w H h)(e:H a=some o):a < h.objs.size:=(x a o e).lt
theorem fw.fresh (x:fw P w H h)(e:h.objs.size<=a):H a=none:=by
 cases q:H a with
 |none=>rfl
 |some u=>exact absurd (m7 (x.lt q) e) (x9 _)
theorem fw.kept (x:fw P w H h)(k:∀b u,h.get? b=some u->h'.get? b=some u):fw P w H h':=λ a o e=>
 (x a o e).dU (λ b u _ q=>k b u q) (λ _ q=>q) λ _ _ q=>q
theorem fw.laid (x:fw P w H h)(k:∀b u,h.get? b=some u->h'.get? b=some u)(hp:h.objs.size<=a)(new:bA P w (upd H a o) h' a o):fw P w (upd H a o) h':=λ b u e=>by
 have hn:=x.fresh hp
 by_cases hb:b=a
 ·subst hb;rw[aS]at e;cases e;exact new
 ·rw[az hb]at e
  exact(x b u e).dU (λ c v _ q=>k c v q) (λ c q=>by rw[az (bZ q hn)];exact q) λ c xs q=>by rw[az (bZ q hn)];exact q
end
def Rd(H:Hp)(a:Addr)(u:HO):Prop:=H a=some u\/∃o,H a=some (.kM o u)
theorem Rd.ok {P:Program}{w:World}{H:Hp}{h:Heap}{a:Addr}{u:HO}(r:Rd H a u)(x:fw P w H h):bA P w H h a u:=by
 rcases r with r|⟨o,r⟩
 ·exact x a u r
 ·obtain⟨_,q⟩:=x a _ r
  exact q
def Oa:Option HO->Prop
 |some (.lst _)=>True
 |some (.dK _)=>True
 |some (.dT _)=>True
 |some (.set _ _)=>True
 |some (.ins _ _ _)=>True
 |some (.ext _)=>True
 |_=>False
section
variable {P:Program}{w:World}{H:Hp}{h h':Heap}{x e:Addr}{o':HO}
theorem fw.write (ok:fw P w H h)(mu:Oa (H x))(he:e=x\/H e=some (.own x))(k:∀b u,b≠e->h.get? b=some u->h'.get? b=some u)(KR:∃u,h'.get? e=some u)
  (new:bA P w (upd H x o') h' x o'):fw P w (upd H x o') h':=λ b u q=>by
 have Mq:∀c y,H c=some (.own y)->c≠x:=λ c y r z=>by subst z;rw[r]at mu;exact mu
 have Qf:∀c xs,H c=some (.tup xs)->c≠x:=λ c xs r z=>by subst z;rw[r]at mu;exact mu
 by_cases hb:b=x
 ·subst hb;rw[aS]at q;cases q;exact new
 ·rw[az hb]at q
  by_cases J0:b=e
  ·have q':H b=some (.own x):=by
    rcases he with z|z
    ·exact absurd (J0.trans z) hb
    ·rw[J0];exact z
   rw[q]at q';cases q'
   obtain⟨v,hv⟩:=KR
   exact⟨v,by rw[J0];exact hv⟩
  ·refine(ok b u q).dU (λ c v hc r=>k c v ?_ r) (λ c r=>by rw[az (Mq c b r)];exact r) λ c xs r=>by rw[az (Qf c xs r)];exact r
   rcases hc with rfl|hc
   ·exact J0
   ·rintro rfl
    rcases he with z|z
    ·exact Mq c b hc z
    ·rw[hc]at z;cases z;exact hb rfl
end
structure Un(fs ex:List Addr)(H H':Hp)(h h':Heap):Prop where
 keep:∀b o,h.get? b=some o->H b=none->b∉fs->b∉ex->h'.get? b=some o
 slot:∀b o,h.get? b=some o->H b=none->b∈fs->b∉ex->∃sl,h'.get? b=some {o with slots:=sl}
 free:∀b o,h.get? b=some o->H b=none->b∉ex->H' b=none
 there:∀b o,h.get? b=some o->b∉ex->∃o',h'.get? b=some o'
 eZ:∀b xs,H b=some (.tup xs)->H' b=some (.tup xs)
 eT:∀b o u,H b=some (.kM o u)->H' b=some (.kM o u)
 fE:∀b ps,H b=some (.GS ps)->∃more,H' b=some (.GS (ps++more))
section
variable {fs UU ex Ws:List Addr}{H H1 H2:Hp}{h h1 h2 h':Heap}{a x e:Addr}{o:HO}
theorem Un.any (u:Un fs ex H H1 h h1){b:Addr}{ob:Obj}(q:h.get? b=some ob)(n:H b=none)(hx:b∉ex):∃sl,h1.get? b=some {ob with slots:=sl}:=by
 by_cases hb:b∈fs
 ·exact u.slot b ob q n hb hx
 ·exact⟨ob.slots,u.keep b ob q n hb hx⟩
theorem Un.kept (k:∀b u,h.get? b=some u->h'.get? b=some u):Un fs ex H H h h':=
 ⟨λ b ob q _ _ _=>k b ob q,λ b ob q _ _ _=>⟨ob.slots,k b ob q⟩,λ _ _ _ n _=>n,λ b ob q _=>⟨ob,k b ob q⟩,λ _ _ q=>q,λ _ _ _ q=>q,λ _ ps q=>⟨#[],by rw[q];simp⟩⟩
theorem Un.refl:Un fs ex H H h h:=Un.kept λ _ _ q=>q
theorem Un.laid (k:∀b u,h.get? b=some u->h'.get? b=some u)(hp:h.objs.size<=a)(hn:H a=none):Un fs ex H (upd H a o) h h' where
 keep:=λ b u q _ _ _=>k b u q
 slot:=λ b u q _ _ _=>⟨u.slots,k b u q⟩
 free:=λ b u q n _=>by rw[az (y3 (m7 (y4 q) hp))];exact n
 there:=λ b u q _=>⟨u,k b u q⟩
 eZ:=λ b xs q=>by rw[az (bZ q hn)];exact q
 eT:=λ b u xs q=>by rw[az (bZ q hn)];exact q
 fE:=λ b ps q=>⟨#[],by rw[az (bZ q hn),q];simp⟩
theorem Un.write (mu:Oa (H x))(he:e=x\/H e=some (.own x))(k:∀b u,b≠e->h.get? b=some u->h'.get? b=some u)(KR:∃u,h'.get? e=some u):Un fs ex H (upd H x o) h h':=by
 have hx:∀b,H b=none->b≠x:=λ b n z=>by subst z;rw[n]at mu;exact mu
 have hb:∀b,H b=none->b≠e:=λ b n z=>by
  subst z
  rcases he with r|r
  ·exact hx b n r
  ·rw[n]at r;cases r
 have hm:∀b u,H b=some u->¬Oa (some u)->b≠x:=λ b u q nm z=>by subst z;rw[q]at mu;exact nm mu
 refine⟨λ b u q n _ _=>k b u (hb b n) q,λ b u q n _ _=>⟨u.slots,k b u (hb b n) q⟩,λ b u q n _=>by rw[az (hx b n)];exact n,λ b u q _=>?_,
  λ b xs q=>by rw[az (hm b _ q λ z=>z)];exact q,λ b u xs q=>by rw[az (hm b _ q λ z=>z)];exact q,λ b ps q=>⟨#[],by rw[az (hm b _ q λ z=>z),q];simp⟩⟩
 by_cases J0:b=e
 ·subst J0;exact KR
 ·exact⟨u,k b u J0 q⟩
end
def Om(h:Heap)(H:Hp):List Addr:=(List.range h.objs.size).filter λ a=>(H a).isSome
def qg(h:Heap)(H:Hp):Heap:=PySem.W.hideAll h (Om h H)
theorem x_(h:Heap)(H:Hp):(qg h H).objs.size=h.objs.size:=PySem.W.hideAll_size _ _
theorem Bu{h:Heap}{H:Hp}{b:Addr}{o:Obj}(e:h.get? b=some o)(n:H b=none):(qg h H).get? b=some o:=
 PySem.W.hideAll_get _ e λ hm=>by
  have q:(H b).isSome=true:=(mem_filter.mp hm).2
  rw[n]at q;simp at q
theorem Eh{h:Heap}{H:Hp}{b:Addr}{o:Obj}(e:(qg h H).get? b=some o):h.get? b=some o/\H b=none:=by
 have e':h.get? b=some o:=PySem.W.of_hideAll (Om h H) e
 refine⟨e',?_⟩
 cases q:H b with
 |none=>rfl
 |some x=>
  have hm:b∈Om h H:=mem_filter.mpr ⟨mem_range.mpr (y4 e'),by simp[q]⟩
  have z:(qg h H).get? b=none:=PySem.W.hideAll_none (Om h H) hm
  rw[z]at e;cases e
structure Mod(K:PySem.W.Frag)(mg:Str->Option Value)(base:Heap):Prop where
 KL:K.In base
 glob:base.Ns mainGlobals mg
 blt:∃mb,base.Ns builtinsNs mb/\∀x:Str,x≠"__name__"->mb x=bootBuiltins x
 nolimit:base.NoLimit
structure Cx where
 prog:Program
 w:World
 K:PySem.W.Frag
 mg:Str->Option Value
 base:Heap
 A:Around
 N:List Str
 s₀:Shared
 H₀:Hp
 env:Env
 outer:List Env
 stack:List Env
 ex:List Addr
 fn:Str->Bool
 calm:Bool
 pn:List (Addr×Obj)
 xe:Value->Shared->Prop
def g_(l:List Env):List Addr:=l.filterMap (·.frame)
abbrev Cx.fs (X:Cx):List Addr:=g_ X.outer
def N6(sc:Scope)(x:Str):Prop:=sc.names.lookup x=some .local\/sc.names.lookup x=some .cell\/sc.names.lookup x=some .free
def Loc(sc:Scope)(x:Str):Prop:=sc.names.lookup x=some .local\/sc.names.lookup x=some .cell
def Look(env:Env)(h:Heap)(m:Str->Option Value)(x:Str)(u:Value):Prop:=
 (env.kindOf x=some .local/\m x=some u)\/((env.kindOf x=some .cell\/env.kindOf x=some .free)/\∃c,env.cells.lookup x=some c/\h.IsCell c (some u))
structure Cx.Ok (X:Cx):Prop where
 mod:Mod X.K X.mg X.base
 kind:X.env.scope.kind=.function
 glob:X.env.globals=mainGlobals
 blt:X.env.builtins=builtinsNs
 above:X.s₀.heap.objs.size<=X.env.locals
 inj:∀x y c,X.env.cells.lookup x=some c->X.env.cells.lookup y=some c->x=y
 has:∀x,(X.env.kindOf x=some .cell\/X.env.kindOf x=some .free)->∃c,X.env.cells.lookup x=some c
 KY:∀x c,X.fn x=true->X.env.cells.lookup x=some c->X.s₀.heap.objs.size<=c
 hd:X.calm=true->X.A.handled=none
 frames:X.A.frames=some X.stack
 Le:X.stack=X.outer\/(X.stack=X.env::X.outer/\X.env.frame=some X.env.locals)
 Rx:∀b∈X.ex,b≠X.env.locals/\∀x c,X.env.cells.lookup x=some c->c≠b
 bs:∀b o,X.base.get? b=some o->X.s₀.heap.get? b=some o/\X.H₀ b=none
 yJ:X.base.objs.size<=X.s₀.heap.objs.size
 uC:∀b o,X.base.get? b=some o->b∉X.ex
 BJ:∀b∈X.ex,b∉X.fs
 iS:X.s₀.heap.FunFrames X.base X.outer
 E_:∀b∈X.fs,X.H₀ b=none
structure Inv(X:Cx)(pins:List (Addr×Obj))(σ:List (Option V))(H:Hp)(s:Shared):Prop where
 ok:X.Ok
 os:s.os=X.s₀.os
 bare:AllBare s.gens
 base:Un X.fs X.ex X.H₀ H X.s₀.heap s.heap
 loc:∃m,s.heap.Ns X.env.locals m/\∀(i:Nat) (x:Str) (v:V),X.N[i]?=some x->σ[i]?=some (some v)->N6 X.env.scope x->∃u,RelV v u/\Look X.env s.heap m x u
 cell:∀x c,X.env.cells.lookup x=some c->∃v,s.heap.IsCell c v
 free:H X.env.locals=none
 d_:∀x c,X.env.cells.lookup x=some c->H c=none
 pin:∀p∈X.pn++pins,s.heap.get? p.1=some p.2/\H p.1=none/\p.1≠X.env.locals/\p.1∉X.fs/\∀v,p.2.data≠.cell v
 a_:fw X.prog X.w H s.heap
 len:σ.length=X.N.length
section
variable {X:Cx}{pins:List (Addr×Obj)}{σ:List (Option V)}{H H':Hp}{s:Shared}{h':Heap}
theorem Cx.Ok.Qh (ok:X.Ok){b:Addr}{o:Obj}(e:X.base.get? b=some o):b∉X.fs:=λ hb=>by
 have:=(ok.iS.mem hb).1
 rw[e]at this;cases this
theorem Inv.bs (I:Inv X pins σ H s):∀b o,X.base.get? b=some o->s.heap.get? b=some o/\H b=none:=λ b o e=>
 ⟨I.base.keep b o (I.ok.bs b o e).1 (I.ok.bs b o e).2 (I.ok.Qh e) (I.ok.uC b o e),I.base.free b o (I.ok.bs b o e).1 (I.ok.bs b o e).2 (I.ok.uC b o e)⟩
theorem Inv.bk (I:Inv X pins σ H s):∀b o,X.base.get? b=some o->s.heap.get? b=some o:=λ b o e=>(I.bs b o e).1
theorem Inv.mod (I:Inv X pins σ H s):Mod X.K X.mg X.base:=I.ok.mod
theorem Inv.fV (I:Inv X pins σ H s):X.K.In s.heap:=I.ok.mod.KL.keeps I.bk
theorem Inv.lt (I:Inv X pins σ H s):X.env.locals < s.heap.objs.size:=let⟨_,hn,_⟩:=I.loc;hn.lt
theorem Inv.sz (I:Inv X pins σ H s):X.s₀.heap.objs.size<=s.heap.objs.size:=y8 I.ok.above (Nat.le_of_lt I.lt)
theorem Inv.Qg (I:Inv X pins σ H s){a:Addr}(h:s.heap.objs.size<=a):a∉X.fs:=λ hb=>by
 obtain⟨_,o,ho,_⟩:=I.ok.iS.mem hb
 exact absurd (m7 (y4 ho) (y8 I.sz h)) (x9 _)
theorem Inv.BZ (I:Inv X pins σ H s):∀x c,X.env.cells.lookup x=some c->c≠X.env.locals:=λ x c e z=>by
 obtain⟨v,o,ho,hd⟩:=I.cell x c e
 obtain⟨m,⟨o',es,ep,gR,fM,_⟩,_⟩:=I.loc
 rw[z,gR]at ho;cases ho;rw[fM]at hd;cases hd
theorem Inv.iS (I:Inv X pins σ H s):s.heap.FunFrames X.base X.outer:=by
 have all:∀(l:List Env),(∀b∈g_ l,b∈X.fs)->X.s₀.heap.FunFrames X.base l->s.heap.FunFrames X.base l:=by
  intro l
  induction l with
  |nil=>intro _ _;trivial
  |cons env r ih=>
   intro hs hl
   obtain⟨hk,⟨L,o,hf,hn,ho,hd⟩,hr⟩:=hl
   have hL:L∈X.fs:=hs L (by unfold g_;rw[filterMap_cons,hf];exact l6)
   obtain⟨sl,e⟩:=I.base.slot L o ho (I.ok.E_ L hL) hL λ z=>I.ok.BJ L z hL
   exact⟨hk,⟨L,_,hf,hn,e,hd⟩,ih (λ b hb=>hs b (by unfold g_;rw[filterMap_cons,hf];exact j9 _ hb)) hr⟩
 exact all X.outer (λ _ hb=>hb) I.ok.iS
theorem Inv.stack (I:Inv X pins σ H s):s.heap.FunFrames X.base X.stack:=by
 rcases I.ok.Le with e|⟨e,hf⟩
 ·rw[e];exact I.iS
 ·rw[e]
  obtain⟨m,hn,_⟩:=I.loc
  refine .cons (by rw[I.ok.kind];decide) hf hn ?_ I.iS
  exact Heap.get?_none_of_le (y8 I.ok.yJ I.ok.above)
theorem Inv.pz (I:Inv X pins σ H s):∀b∈g_ X.stack,b∈X.env.locals::X.fs:=λ b hb=>by
 rcases I.ok.Le with e|⟨e,hf⟩
 ·rw[e]at hb;exact j9 _ hb
 ·rw[e]at hb
  unfold g_ at hb
  rw[filterMap_cons,hf]at hb
  exact hb
theorem Inv.iB (I:Inv X pins σ H s):∀b∈g_ X.stack,H b=none:=λ b hb=>by
 rcases y1.mp (I.pz b hb)with e|hb
 ·rw[e];exact I.free
 ·obtain⟨_,o,ho,_⟩:=I.ok.iS.mem hb
  exact I.base.free b o ho (I.ok.E_ b hb) λ z=>I.ok.BJ b z hb
theorem Inv.step {g':Array GenState}{t':Nat}{d':Drawn}{ch:List Addr}(I:Inv X pins σ H s)
  (Cm:∀b∈ch,(b∈X.ex\/X.s₀.heap.objs.size<=b)/\b≠X.env.locals/\(∀x c,X.env.cells.lookup x=some c->c≠b)/\∀p∈X.pn++pins,p.1≠b)
  (keep:∀b o,b≠X.env.locals->b∉X.fs->b∉ch->s.heap.get? b=some o->H b=none->h'.get? b=some o)
  (slot:∀b o,b≠X.env.locals->b∈X.fs->b∉ch->s.heap.get? b=some o->H b=none->∃sl,h'.get? b=some {o with slots:=sl}) (free:∀b o,b∉ch->s.heap.get? b=some o->H b=none->H' b=none)
  (there:∀b o,b∉ch->s.heap.get? b=some o->∃o',h'.get? b=some o')
  (eZ:∀b xs,H b=some (.tup xs)->H' b=some (.tup xs)) (eT:∀b o u,H b=some (.kM o u)->H' b=some (.kM o u)) (fE:∀b ps,H b=some (.GS ps)->∃more,H' b=some (.GS (ps++more)))
  (ns:∀m,s.heap.Ns X.env.locals m->h'.Ns X.env.locals m) (a_:fw X.prog X.w H' h') (hg:AllBare g'):
  Inv X pins σ H' {s with heap:=h',gens:=g',drawn:=d',toks:=t'}:=by
 have R6:∀b o,X.s₀.heap.get? b=some o->b≠X.env.locals:=λ b o e=>y3 (m7 (y4 e) I.ok.above)
 have OP:∀b o,X.s₀.heap.get? b=some o->b∉X.ex->b∉ch:=λ b o e hx hb=>by
  rcases(Cm b hb).1 with z|z
  ·exact hx z
  ·exact absurd (m7 (y4 e) z) (x9 _)
 have cellK:∀x c,X.env.cells.lookup x=some c->∀v,s.heap.IsCell c v->h'.IsCell c v:=λ x c e v ⟨o,ho,hd⟩=>by
  have Mv:c∉ch:=λ z=>(Cm c z).2.2.1 x c e rfl
  by_cases hc:c∈X.fs
  ·obtain⟨sl,q⟩:=slot c o (I.BZ x c e) hc Mv ho (I.d_ x c e)
   exact⟨_,q,hd⟩
  ·exact⟨o,keep c o (I.BZ x c e) hc Mv ho (I.d_ x c e),hd⟩
 refine⟨I.ok,I.os,hg,⟨λ b o e n hb hx=>?_,λ b o e n hb hx=>?_,λ b o e n hx=>?_,λ b o e hx=>?_,λ b xs e=>eZ b xs (I.base.eZ b xs e),λ b o xs e=>eT b o xs (I.base.eT b o xs e),λ b ps e=>?_⟩,?_,λ x c e=>?_,?_,λ x c e=>?_,λ p hp=>?_,a_,I.len⟩
 ·exact keep b o (R6 b o e) hb (OP b o e hx) (I.base.keep b o e n hb hx) (I.base.free b o e n hx)
 ·obtain⟨sl,e1⟩:=I.base.slot b o e n hb hx
  obtain⟨Px,e2⟩:=slot b _ (R6 b o e) hb (OP b o e hx) e1 (I.base.free b o e n hx)
  exact⟨Px,e2⟩
 ·obtain⟨o',e1⟩:=I.base.there b o e hx
  exact free b o' (OP b o e hx) e1 (I.base.free b o e n hx)
 ·obtain⟨o',e1⟩:=I.base.there b o e hx
  exact there b o' (OP b o e hx) e1
 ·obtain⟨m1,e1⟩:=I.base.fE b ps e
  obtain⟨m2,e2⟩:=fE b _ e1
  exact⟨m1++m2,by rw[e2,Array.append_assoc]⟩
 ·obtain⟨m,hn,hl⟩:=I.loc
  refine⟨m,ns m hn,λ i x v e1 e2 e3=>?_⟩
  obtain⟨u,r,l⟩:=hl i x v e1 e2 e3
  refine⟨u,r,?_⟩
  rcases l with l|⟨k,c,e,z⟩
  ·exact .inl l
  ·exact .inr ⟨k,c,e,cellK x c e _ z⟩
 ·obtain⟨v,z⟩:=I.cell x c e
  exact⟨v,cellK x c e v z⟩
 ·obtain⟨m,⟨o,_,_,ho,_⟩,_⟩:=I.loc
  exact free _ o (λ z=>(Cm _ z).2.1 rfl) ho I.free
 ·obtain⟨v,o,ho,hd⟩:=I.cell x c e
  exact free c o (λ z=>(Cm c z).2.2.1 x c e rfl) ho (I.d_ x c e)
 ·obtain⟨e,n,ne,nf,d⟩:=I.pin p hp
  have Mv:p.1∉ch:=λ z=>(Cm p.1 z).2.2.2 p hp rfl
  exact⟨keep p.1 p.2 ne nf Mv e n,free p.1 p.2 Mv e n,ne,nf,d⟩
theorem Inv.un {t':Nat}(I:Inv X pins σ H s)(u:Un X.fs [] H H' s.heap h')(a_:fw X.prog X.w H' h'):Inv X pins σ H' {s with heap:=h',toks:=t'}:=by
 obtain⟨m,⟨o,es,ep,ho,r⟩,_⟩:=id I.loc
 obtain⟨sl,hL⟩:=u.any ho I.free (by simp)
 exact I.step (g':=s.gens) (d':=s.drawn) (ch:=[]) (λ _ z=>nomatch z) (λ b o _ hb _ e n=>u.keep b o e n hb (by simp)) (λ b o _ hb _ e n=>u.slot b o e n hb (by simp)) (λ b o _ e n=>u.free b o e n (by simp)) (λ b o _ e=>u.there b o e (by simp)) u.eZ u.eT u.fE (λ m' hm=>by
  obtain⟨o',Gk,Rz,gR,r'⟩:=hm
  rw[ho]at gR;cases gR
  exact⟨_,Gk,Rz,hL,r'⟩) a_ I.bare
theorem Inv.call {g':Array GenState}{t':Nat}{d':Drawn}{ch:List Addr}(I:Inv X pins σ H s)(u:Un (g_ X.stack) ch H H' s.heap h')(a_:fw X.prog X.w H' h')(hg:AllBare g')
  (Cm:∀b∈ch,(b∈X.ex\/X.s₀.heap.objs.size<=b)/\b≠X.env.locals/\(∀x c,X.env.cells.lookup x=some c->c≠b)/\∀p∈X.pn++pins,p.1≠b):
  Inv X pins σ H' {s with heap:=h',gens:=g',drawn:=d',toks:=t'}:=by
 obtain⟨m,⟨o,es,ep,ho,r⟩,_⟩:=id I.loc
 obtain⟨sl,hL⟩:=u.any ho I.free λ z=>(Cm _ z).2.1 rfl
 exact I.step (ch:=ch) Cm (λ b o hL hb hc e n=>u.keep b o e n (λ z=>(y1.mp (I.pz b z)).elim hL hb) hc) (λ b o _ _ hc e n=>u.any e n hc) (λ b o hc e n=>u.free b o e n hc) (λ b o hc e=>u.there b o e hc) u.eZ u.eT u.fE (λ m' hm=>by
  obtain⟨o',Gk,Rz,gR,r'⟩:=hm
  rw[ho]at gR;cases gR
  exact⟨_,Gk,Rz,hL,r'⟩) a_ hg
theorem Inv.turned {t':Nat}{it:Addr}(I:Inv X pins σ H s)(k:∀b o,b≠it->s.heap.get? b=some o->h'.get? b=some o)(hn:H it=none)(hL:it≠X.env.locals)
  (h1:it∈X.ex\/X.s₀.heap.objs.size<=it) (h2:∀x c,X.env.cells.lookup x=some c->c≠it) (h3:∀p∈X.pn++pins,p.1≠it):Inv X pins σ H {s with heap:=h',toks:=t'}:=by
 have Mu:∀b u,H b=some u->b≠it:=λ b u e z=>by rw[z,hn]at e;cases e
 refine I.step (g':=s.gens) (d':=s.drawn) (ch:=[it]) (λ b hb=>?_) (λ b o _ _ hc e _=>k b o (λ z=>hc (by simp[z])) e) (λ b o _ _ hc e _=>⟨o.slots,k b o (λ z=>hc (by simp[z])) e⟩) (λ _ _ _ _ n=>n)
  (λ b o hc e=>⟨o,k b o (λ z=>hc (by simp[z])) e⟩) (λ _ _ e=>e) (λ _ _ _ e=>e) (λ b ps e=>⟨#[],by rw[e];simp⟩) (λ m hm=>?_) (λ b u e=>?_) I.bare
 ·have e:b=it:=by simpa using hb
  subst e
  exact⟨h1,hL,h2,h3⟩
 ·obtain⟨o,es,ep,ho,r⟩:=hm
  exact⟨o,es,ep,k _ o (A2 hL) ho,r⟩
 ·refine(I.a_ b u e).dU (λ c v hc q=>k c v ?_ q) (λ _ q=>q) λ _ _ q=>q
  rcases hc with z|z
  ·rw[z];exact Mu b u e
  ·exact Mu c _ z
theorem Inv.tok (I:Inv X pins σ H s)(t:Nat):Inv X pins σ H {s with toks:=t}:=I.un (h':=s.heap) (t':=t) Un.refl I.a_
theorem Inv.kept {t':Nat}(I:Inv X pins σ H s)(k:∀b u,s.heap.get? b=some u->h'.get? b=some u):Inv X pins σ H {s with heap:=h',toks:=t'}:=I.un (Un.kept k) (I.a_.kept k)
theorem Inv.laid {a:Addr}{o:HO}{t':Nat}(I:Inv X pins σ H s)(k:∀b u,s.heap.get? b=some u->h'.get? b=some u)(hp:s.heap.objs.size<=a)(new:bA X.prog X.w (upd H a o) h' a o):
  Inv X pins σ (upd H a o) {s with heap:=h',toks:=t'}:=I.un (Un.laid k hp (I.a_.fresh hp)) (I.a_.laid k hp new)
theorem Inv.write {x e:Addr}{o:HO}{t':Nat}(I:Inv X pins σ H s)(mu:Oa (H x))(he:e=x\/H e=some (.own x))(k:∀b u,b≠e->s.heap.get? b=some u->h'.get? b=some u)(KR:∃u,h'.get? e=some u)
  (new:bA X.prog X.w (upd H x o) h' x o):Inv X pins σ (upd H x o) {s with heap:=h',toks:=t'}:=I.un (Un.write mu he k KR) (I.a_.write mu he k KR new)
theorem Inv.weak {σ':List (Option V)}(I:Inv X pins σ H s)(hl:σ'.length=σ.length)(w:∀(i:Nat) v,σ'[i]?=some (some v)->σ[i]?=some (some v)):Inv X pins σ' H s:=
 ⟨I.ok,I.os,I.bare,I.base,let⟨m,hn,Bq⟩:=I.loc;⟨m,hn,λ i x v e1 e2 e3=>Bq i x v e1 (w i v e2) e3⟩,I.cell,I.free,I.d_,I.pin,I.a_,hl.trans I.len⟩
theorem Inv.dH {pins':List (Addr×Obj)}(I:Inv X pins σ H s)(h:∀p∈pins',s.heap.get? p.1=some p.2/\H p.1=none/\p.1≠X.env.locals/\p.1∉X.fs/\∀v,p.2.data≠.cell v):Inv X pins' σ H s:=
 ⟨I.ok,I.os,I.bare,I.base,I.loc,I.cell,I.free,I.d_,λ p hp=>(w6.mp hp).elim (λ z=>I.pin p (mem_append_left _ z)) (h p),I.a_,I.len⟩
theorem lX{N:List Str}(hN:N.Nodup){i j:Nat}{x:Str}(a:N[i]?=some x)(b:N[j]?=some x):i=j:=by
 obtain⟨h1,e1⟩:=g9.mp a
 obtain⟨h2,e2⟩:=g9.mp b
 exact(getElem_inj hN).mp (e1.trans e2.symm)
theorem nR{M:Model}{A:Around}{E:Value->Shared->Prop}{i:Nat}{x:Str}{v:V}{u:Value}{Q:Unit->Shared->Prop}(I:Inv X pins σ H s)(hN:X.N.Nodup)(hi:X.N[i]?=some x)(hx:Loc X.env.scope x)(r:RelV v u)
  (h:∀s',Inv X pins (σ.set i (some v)) H s'->(∃a,Heap.SameBut a s.heap s'.heap/\(a=X.env.locals\/X.env.cells.lookup x=some a))->Q () s') (hf:X.fn x=true\/X.env.scope.names.lookup x=some .local:=by first|exact .inl rfl|exact .inr rfl|assumption):wpAny M A (storeName X.env x u) Q E s:=by
 obtain⟨m,hn,hl⟩:=id I.loc
 have JY:(X.env.scope.kind==.class||(X.env.scope.kind==.module&&X.env.locals != X.env.globals))=false:=by rw[I.ok.kind];rfl
 have So:i < σ.length:=by rw[I.len];exact(g9.mp hi).1
 have BZ:=I.BZ
 have tracked:∀{a:Addr} {h':Heap},(∃o,s.heap.get? a=some o/\H a=none)->Heap.SameBut a s.heap h'->fw X.prog X.w H h':=λ{a h'} ha hs b ob e=>by
  obtain⟨_,_,Ge⟩:=ha
  refine(I.a_ b ob e).dU (λ c w' hc q=>(hs.2 c ?_).trans q) (λ _ q=>q) λ _ _ q=>q
  rintro rfl
  rcases hc with rfl|hc
  ·rw[Ge]at e;cases e
  ·rw[Ge]at hc;cases hc
 rcases hx with hk|hk
 ·refine wpAny_storeName_local hk hn (λ h' EY hs=>?_) JY
  obtain⟨oL,_,_,Sk,_⟩:=id hn
  refine h _ ⟨I.ok,I.os,I.bare,⟨λ b o e n hb hx=>?_,λ b o e n hb hx=>?_,I.base.free,λ b o e hx=>?_,I.base.eZ,I.base.eT,I.base.fE⟩,⟨_,EY,λ j y v' e1 e2 e3=>?_⟩,λ y c e=>?_,I.free,I.d_,λ p hp=>?_,tracked ⟨oL,Sk,I.free⟩ hs,by simpa using I.len⟩ ⟨_,hs,.inl rfl⟩
  ·exact(hs.2 b (y3 (m7 (y4 e) I.ok.above))).trans (I.base.keep b o e n hb hx)
  ·obtain⟨sl,e1⟩:=I.base.slot b o e n hb hx
   exact⟨sl,(hs.2 b (y3 (m7 (y4 e) I.ok.above))).trans e1⟩
  ·obtain⟨o',e1⟩:=I.base.there b o e hx
   exact⟨o',(hs.2 b (y3 (m7 (y4 e) I.ok.above))).trans e1⟩
  ·by_cases hj:j=i
   ·subst hj
    rw[hi]at e1;cases e1
    rw[getElem?_set_self So]at e2
    cases e2
    exact⟨u,r,.inl ⟨hk,by simp⟩⟩
   ·rw[getElem?_set_ne (A2 hj)]at e2
    obtain⟨u',r',q⟩:=hl j y v' e1 e2 e3
    refine⟨u',r',?_⟩
    rcases q with⟨k,e⟩|⟨k,c,e,z⟩
    ·refine .inl ⟨k,?_⟩
     have:y≠x:=λ e=>hj (lX hN e1 (e▸hi))
     simp[this,e]
    ·exact .inr ⟨k,c,e,z.sameBut hs (BZ y c e)⟩
  ·obtain⟨w',z⟩:=I.cell y c e
   exact⟨w',z.sameBut hs (BZ y c e)⟩
  ·obtain⟨e,n,ne,nf,d⟩:=I.pin p hp
   exact⟨(hs.2 p.1 ne).trans e,n,ne,nf,d⟩
 ·have Rf:X.fn x=true:=by
   rcases hf with z|z
   ·exact z
   ·rw[z]at hk;cases hk
  obtain⟨c,hc⟩:=I.ok.has x (.inl hk)
  obtain⟨w',z⟩:=I.cell x c hc
  refine wpAny_storeName_cell I.ok.kind hk hc z (λ h' sj hs=>?_)
  obtain⟨oc,Sj,Q3⟩:=id z
  refine h {s with heap:=h'} ⟨I.ok,I.os,I.bare,⟨λ b o e n hb hx=>?_,λ b o e n hb hx=>?_,I.base.free,λ b o e hx=>?_,I.base.eZ,I.base.eT,I.base.fE⟩,⟨m,hn.sameBut hs (A2 (BZ x c hc)),λ j y v' e1 e2 e3=>?_⟩,λ y c' e=>?_,I.free,I.d_,λ p hp=>?_,tracked ⟨oc,Sj,I.d_ x c hc⟩ hs,by simpa using I.len⟩ ⟨c,hs,.inr hc⟩
  ·exact(hs.2 b (y3 (m7 (y4 e) (I.ok.KY x c Rf hc)))).trans (I.base.keep b o e n hb hx)
  ·obtain⟨sl,e1⟩:=I.base.slot b o e n hb hx
   exact⟨sl,(hs.2 b (y3 (m7 (y4 e) (I.ok.KY x c Rf hc)))).trans e1⟩
  ·obtain⟨o',e1⟩:=I.base.there b o e hx
   exact⟨o',(hs.2 b (y3 (m7 (y4 e) (I.ok.KY x c Rf hc)))).trans e1⟩
  ·by_cases hj:j=i
   ·subst hj
    rw[hi]at e1;cases e1
    rw[getElem?_set_self So]at e2
    cases e2
    exact⟨u,r,.inr ⟨.inl hk,c,hc,sj⟩⟩
   ·rw[getElem?_set_ne (A2 hj)]at e2
    obtain⟨u',r',q⟩:=hl j y v' e1 e2 e3
    refine⟨u',r',?_⟩
    rcases q with q|⟨k,c',e,z'⟩
    ·exact .inl q
    ·refine .inr ⟨k,c',e,z'.sameBut hs ?_⟩
     rintro rfl
     exact hj (lX hN e1 (I.ok.inj _ _ _ e hc▸hi))
  ·by_cases Sv:c'=c
   ·subst Sv;exact⟨_,sj⟩
   ·obtain⟨w2,z2⟩:=I.cell y c' e
    exact⟨w2,z2.sameBut hs Sv⟩
  ·obtain⟨e,n,ne,nf,d⟩:=I.pin p hp
   refine⟨(hs.2 p.1 ?_).trans e,n,ne,nf,d⟩
   intro q
   rw[q,Sj]at e
   have q':oc=p.2:=u7 e
   exact d w' (by rw[<- q'];exact Q3)
theorem ly{M:Model}{A:Around}{E:Value->Shared->Prop}{i:Nat}{x:Str}{v:V}{u:Value}{Q:Unit->Shared->Prop}(I:Inv X pins σ H s)(hN:X.N.Nodup)(hi:X.N[i]?=some x)(hx:Loc X.env.scope x)(r:RelV v u)
  (h:∀s',Inv X pins (σ.set i (some v)) H s'->Q () s') (hf:X.fn x=true\/X.env.scope.names.lookup x=some .local:=by first|exact .inl rfl|exact .inr rfl|assumption):wpAny M A (storeName X.env x u) Q E s:=
 nR I hN hi hx r (λ s' I' _=>h s' I') hf
theorem Inv.oO {s':Shared}{ch:List Addr}(I:Inv X pins σ H s)(ho:s'.os=s.os)(u:Un (g_ X.stack) ch H H' s.heap s'.heap)(a_:fw X.prog X.w H' s'.heap)(hg:AllBare s'.gens)
  (Cm:∀b∈ch,(b∈X.ex\/X.s₀.heap.objs.size<=b)/\b≠X.env.locals/\(∀x c,X.env.cells.lookup x=some c->c≠b)/\∀p∈X.pn++pins,p.1≠b):Inv X pins σ H' s':=by
 obtain⟨h',g',d',t',o'⟩:=s'
 have e:o'=s.os:=ho
 subst e
 exact I.call (g':=g') (t':=t') (d':=d') u a_ hg Cm
end
abbrev XK:=Value->Option Addr->Hp->Prop
abbrev St:=List (Option V)
abbrev VK:=V->Hp->Prop
abbrev TE:=St->Hp->VK->Prop
abbrev TT:=St->Hp->(Bool->Hp->Prop)->Prop
abbrev TA:=St->Hp->(List V->Hp->Prop)->Prop
structure Ends where
 nx:St->Hp->Prop
 rt:VK
 bk:St->Hp->Prop:=λ _ _=>False
 ct:St->Hp->Prop:=λ _ _=>False
abbrev TS:=Ends->St->Hp->Prop
def EP(X:Cx)(pins:List (Addr×Obj))(σ:St)(Q:VK)(u:Value)(s':Shared):Prop:=∃v H',Inv X pins σ H' s'/\RelV v u/\Q v H'
def TP(X:Cx)(pins:List (Addr×Obj))(σ:St)(Q:Bool->Hp->Prop)(b:Bool)(s':Shared):Prop:=∃H',Inv X pins σ H' s'/\Q b H'
def AP(X:Cx)(pins:List (Addr×Obj))(σ:St)(Q:List V->Hp->Prop)(us:List Value)(s':Shared):Prop:=∃vs H',Inv X pins σ H' s'/\Vals vs us/\Q vs H'
def SP(X:Cx)(pins:List (Addr×Obj))(D:Ends)(f:Flow)(s':Shared):Prop:=
 match f with
 | .next=>∃σ' H',Inv X pins σ' H' s'/\D.nx σ' H'
 | .brk=>∃σ' H',Inv X pins σ' H' s'/\D.bk σ' H'
 | .cont=>∃σ' H',Inv X pins σ' H' s'/\D.ct σ' H'
 | .ret u=>∃v σ' H',Inv X pins σ' H' s'/\RelV v u/\D.rt v H'
def PE(X:Cx)(e:Expr)(t:TE):Prop:=
 ∀(pins:List (Addr×Obj)) (s:Shared) (σ:St) (H:Hp) (Q:VK),Inv X pins σ H s->t σ H Q->wpAny (model X.prog X.w) X.A (eval e X.env) (EP X pins σ Q) X.xe s
def PT(X:Cx)(e:Expr)(t:TT):Prop:=
 ∀(pins:List (Addr×Obj)) (s:Shared) (σ:St) (H:Hp) (Q:Bool->Hp->Prop),Inv X pins σ H s->t σ H Q->wpAny (model X.prog X.w) X.A (isTrue e X.env (eval e X.env)) (TP X pins σ Q) X.xe s
def PW(X:Cx)(e:Expr)(t:TT):Prop:=
 ∀(whole:Sem Value) (pins:List (Addr×Obj)) (s:Shared) (σ:St) (H:Hp) (Q:Bool->Hp->Prop),Inv X pins σ H s->t σ H Q->wpAny (model X.prog X.w) X.A (isTrue e X.env whole) (TP X pins σ Q) X.xe s
theorem PW.pt {X:Cx}{e:Expr}{t:TT}(h:PW X e t):PT X e t:=h _
def PA(X:Cx)(es:List Expr)(t:TA):Prop:=
 ∀(pos:Pos) (pins:List (Addr×Obj)) (s:Shared) (σ:St) (H:Hp) (Q:List V->Hp->Prop),Inv X pins σ H s->t σ H Q->wpAny (model X.prog X.w) X.A (spliced (backTo pos (starEach es X.env))) (AP X pins σ Q) X.xe s
def PS(X:Cx)(st:Stmt)(t:TS):Prop:=
 ∀(pins:List (Addr×Obj)) (s:Shared) (σ:St) (H:Hp) (D:Ends),Inv X pins σ H s->t D σ H->wpAny (model X.prog X.w) X.A (exec st X.env) (SP X pins D) X.xe s
def nF(X:Cx)(st:List Stmt)(t:TS):Prop:=
 ∀(pins:List (Addr×Obj)) (s:Shared) (σ:St) (H:Hp) (D:Ends),Inv X pins σ H s->t D σ H->wpAny (model X.prog X.w) X.A (execs st X.env) (SP X pins D) X.xe s
theorem ck{α:Type}{t:Sem α}{Q Q':α->Shared->Prop}{M:Model}{A:Around}{E:Value->Shared->Prop}{s:Shared}(h:wpAny M A t Q E s)(hQ:∀a s,Q a s->Q' a s):wpAny M A t Q' E s:=z9 h hQ λ _ _ x=>x
section
variable {X:Cx}
def yY(i:Nat):TE:=λ σ H Q=>∃v,σ[i]?=some (some v)/\Q v H
def tC(v:V):TE:=λ _ H Q=>Q v H
theorem Ah{i:Nat}{x:Str}{pos:Pos}(hN:X.N[i]?=some x)(hv:N6 X.env.scope x)(hd:(x==("__debug__":Str))=false:=by decide)(hcd:(x==("__classdict__":Str))=false:=by decide):PE X (.Name x pos) (yY i):=by
 intro pins s σ H Q I h
 obtain⟨v,e,h⟩:=h
 obtain⟨m,hn,hl⟩:=I.loc
 obtain⟨u,r,l⟩:=hl i x v hN e hv
 have fin:EP X pins σ Q u s:=⟨v,H,I,r,h⟩
 rcases l with⟨hk,hm⟩|⟨hk,c,hc,Gf⟩
 ·exact wpAny_Name (wpAny_loadName_local I.ok.kind hk hn hm fin) hd
 ·rcases hk with hk|hk
  ·exact wpAny_Name (wpAny_loadName_cell I.ok.kind hk hc Gf fin) hd
  ·exact wpAny_Name (wpAny_loadName_free I.ok.kind hk hc Gf fin hcd) hd
theorem IH{i j pos}:PE X (.Constant (.int i) j pos) (tC (.int i)):=λ _ _ _ H _ I h=>wpAny_Constant_int ⟨.int i,H,I.tok _,⟨_,rfl⟩,h⟩
theorem L8{b j pos}:PE X (.Constant (.bool b) j pos) (tC (.bl b)):=λ _ _ _ H _ I h=>Constant_bool ⟨.bl b,H,I,rfl,h⟩
theorem IF{j pos}:PE X (.Constant .none j pos) (tC .aZ):=λ _ _ _ H _ I h=>Constant_none ⟨.aZ,H,I,rfl,h⟩
theorem IB{x j pos}:PE X (.Constant (.str x) j pos) (tC (.str x)):=λ _ _ _ H _ I h=>Calls.Constant_str ⟨.str x,H,I.tok _,⟨_,rfl⟩,h⟩
def Gl(X:Cx)(x:Str):Prop:=X.env.kindOf x=some .globalImplicit
theorem eJ{E:Value->Shared->Prop}{pins:List (Addr×Obj)}{s:Shared}{σ:St}{H:Hp}{x:Str}{u:Value}{pos:Pos}{Q:Value->Shared->Prop}(I:Inv X pins σ H s)(hg:Gl X x)(hm:X.mg x=some u)(h:Q u s)
  (hd:(x==("__debug__":Str))=false:=by decide):wpAny (model X.prog X.w) X.A (eval (.Name x pos) X.env) Q E s:=
 Calls.Name_function_global I.ok.kind hg (Calls.loadGlobal_global (by rw[I.ok.glob];exact I.mod.glob.keeps I.bk) hm h) hd
theorem gq{E:Value->Shared->Prop}{pins:List (Addr×Obj)}{s:Shared}{σ:St}{H:Hp}{x:Str}{u:Value}{pos:Pos}{Q:Value->Shared->Prop}(I:Inv X pins σ H s)(hg:Gl X x)(hm:X.mg x=none)(hv:bootBuiltins x=some u)(h:Q u s)
  (hn:x≠"__name__":=by decide) (hd:(x==("__debug__":Str))=false:=by decide):wpAny (model X.prog X.w) X.A (eval (.Name x pos) X.env) Q E s:=by
 obtain⟨mb,h1,h2⟩:=I.mod.blt
 exact Calls.Name_function_global I.ok.kind hg (Calls.loadGlobal_builtin (by rw[I.ok.glob];exact I.mod.glob.keeps I.bk) hm (by rw[I.ok.blt];exact h1.keeps I.bk) ((h2 x hn).trans hv) h) hd
theorem D1{x:Str}{v:V}{u:Value}{pos:Pos}(hg:Gl X x)(hm:X.mg x=some u)(r:RelV v u)(hd:(x==("__debug__":Str))=false:=by decide):PE X (.Name x pos) (tC v):=
 λ _ _ _ H _ I h=>eJ I hg hm ⟨v,H,I,r,h⟩ hd
theorem D4{x:Str}{v:V}{u:Value}{pos:Pos}(hg:Gl X x)(hm:X.mg x=none)(hv:bootBuiltins x=some u)(r:RelV v u)(hn:x≠"__name__":=by decide)(hd:(x==("__debug__":Str))=false:=by decide):PE X (.Name x pos) (tC v):=
 λ _ _ _ H _ I h=>gq I hg hm hv ⟨v,H,I,r,h⟩ hn hd
variable {a b:Expr}{ta tb:TE}{pos:Pos}
def tB(t:TE):TT:=λ σ H Q=>t σ H λ x H1=>∃c,x=.bl c/\Q c H1
theorem zV{e:Expr}{t:TE}(h:PE X e t)(he:∀whole,isTrue e X.env whole=(do let v <- whole;standAt e.pos;holding [v] (truthy v)):=by intro _;rfl):PT X e (tB t):=by
 intro pins s σ H Q I hw
 refine isTrue_plain (ck (h pins s σ H _ I hw) λ v s1 ⟨x,H1,I1,r1,q1⟩=>?_) (he _)
 obtain⟨d,rfl,q⟩:=q1
 cases r1
 exact o7 ⟨H1,I1,q⟩
variable {tA Oo:TT}{rest:List Expr}
def Pu(t u:TT):TT:=λ σ H Q=>t σ H λ c H1=>if c=true then u σ H1 Q else Q false H1
def S8(t u:TT):TT:=λ σ H Q=>t σ H λ c H1=>if c=true then Q true H1 else u σ H1 Q
def Pq(t:TT):TT:=λ σ H Q=>t σ H λ c H1=>Q (!c) H1
theorem DP(ha:PT X a tA):PW X (.BoolOp .And [a] pos) tA:=by
 intro wh pins s σ H Q I h
 refine isTrue_and (ck (ha pins s σ H Q I h) λ c s1 e=>?_)
 cases c with
 |true=>exact isTrue_and_nil e
 |false=>exact e
theorem Il(ha:PT X a tA):PW X (.BoolOp .Or [a] pos) tA:=by
 intro wh pins s σ H Q I h
 refine isTrue_or (ck (ha pins s σ H Q I h) λ c s1 e=>?_)
 cases c with
 |false=>exact isTrue_or_nil e
 |true=>exact e
theorem Im(ha:PT X a tA)(hb:PW X (.BoolOp .And (b::rest) pos) Oo):PW X (.BoolOp .And (a::b::rest) pos) (Pu tA Oo):=by
 intro wh pins s σ H Q I h
 refine isTrue_and (ck (ha pins s σ H _ I h) λ c s1 ⟨H1,I1,q1⟩=>?_)
 cases c with
 |true=>exact hb wh pins s1 σ H1 Q I1 q1
 |false=>exact⟨H1,I1,q1⟩
theorem LX(ha:PT X a tA)(hb:PW X (.BoolOp .Or (b::rest) pos) Oo):PW X (.BoolOp .Or (a::b::rest) pos) (S8 tA Oo):=by
 intro wh pins s σ H Q I h
 refine isTrue_or (ck (ha pins s σ H _ I h) λ c s1 ⟨H1,I1,q1⟩=>?_)
 cases c with
 |true=>exact⟨H1,I1,q1⟩
 |false=>exact hb wh pins s1 σ H1 Q I1 q1
theorem Io(ha:PT X a tA):PT X (.UnaryOp .Not a pos) (Pq tA):=by
 intro pins s σ H Q I h
 exact isTrue_not (ha pins s σ H (λ c H1=>Q (!c) H1) I h)
def Lc(ta tb:TE):TE:=λ σ H Q=>ta σ H λ x H1=>∃c,x=.bl c/\if c=true then tb σ H1 Q else Q (.bl false) H1
def Pp(ta tb:TE):TE:=λ σ H Q=>ta σ H λ x H1=>∃c,x=.bl c/\if c=true then Q (.bl true) H1 else tb σ H1 Q
def K_(ta:TE):TE:=λ σ H Q=>ta σ H λ x H1=>∃c,x=.bl c/\Q (.bl (!c)) H1
theorem ID{op}{t:TE}(h:PE X a t):PE X (.BoolOp op [a] pos) t:=λ pins s σ H Q I hw=>BoolOp_one (h pins s σ H Q I hw)
theorem IL(ha:PE X a ta)(hb:PE X (.BoolOp .And (b::rest) pos) tb):PE X (.BoolOp .And (a::b::rest) pos) (Lc ta tb):=by
 intro pins s σ H Q I h
 refine BoolOp_and (ck (ha pins s σ H _ I h) λ v s1 ⟨x,H1,I1,r1,q1⟩=>?_)
 obtain⟨c,rfl,q1⟩:=q1
 cases r1
 refine o7 ?_
 cases c with
 |true=>exact hb pins s1 σ H1 Q I1 q1
 |false=>exact⟨.bl false,H1,I1,rfl,q1⟩
theorem LZ(ha:PE X a ta)(hb:PE X (.BoolOp .Or (b::rest) pos) tb):PE X (.BoolOp .Or (a::b::rest) pos) (Pp ta tb):=by
 intro pins s σ H Q I h
 refine BoolOp_or (ck (ha pins s σ H _ I h) λ v s1 ⟨x,H1,I1,r1,q1⟩=>?_)
 obtain⟨c,rfl,q1⟩:=q1
 cases r1
 refine o7 ?_
 cases c with
 |false=>exact hb pins s1 σ H1 Q I1 q1
 |true=>exact⟨.bl true,H1,I1,rfl,q1⟩
theorem IE(ha:PE X a ta):PE X (.UnaryOp .Not a pos) (K_ ta):=by
 intro pins s σ H Q I h
 refine UnaryOp_ (ck (ha pins s σ H _ I h) λ v s1 ⟨x,H1,I1,r1,q1⟩=>?_)
 obtain⟨c,rfl,q1⟩:=q1
 cases r1
 exact not_of (o7 ⟨.bl (!c),H1,I1,rfl,q1⟩)
end
def dN(K:PySem.W.Frag)(H:Hp)(a:Addr)(xs:List V):Prop:=
 Rd H a (.lst xs)\/
  ∃(o:Obj) (au:Array Value) (n:Nat),K.lookup a=some o/\o.cls=.type "list"/\o.dict=none/\o.data=.seq au n/\au.size<=sizeLine/\Vals xs au.toList
def fu(K:PySem.W.Frag)(H:Hp)(a:Addr)(xs:List V):Prop:=
 Rd H a (.tup xs)\/
  ∃(o:Obj) (au:Array Value) (n:Nat),K.lookup a=some o/\o.cls=.type "tuple"/\o.data=.seq au n/\au.size<=sizeLine/\Vals xs au.toList
def RI:Value->Option V
 | .none=>some .aZ
 | .bool b=>some (.bl b)
 | .int i _=>some (.int i)
 | .str x _=>some (.str x)
 | .bytes b _=>some (.yI b)
 | .float b _=>some (.Kb b)
 | .ref a=>some (.ref a)
 | .type n=>some (.ty n)
 |_=>none
theorem RelV.abs {x:V}{u:Value}(r:RelV x u):RI u=some x:=by
 cases x with
 |aZ=>cases r;rfl
 |bl _=>cases r;rfl
 |int _=>obtain⟨t,rfl⟩:=r;rfl
 |str _=>obtain⟨t,rfl⟩:=r;rfl
 |yI _=>obtain⟨t,rfl⟩:=r;rfl
 |Kb _=>obtain⟨t,rfl⟩:=r;rfl
 |ref _=>cases r;rfl
 |ty _=>cases r;rfl
theorem RelV.inj {x y:V}{u:Value}(r:RelV x u)(q:RelV y u):x=y:=u7 (r.abs.symm.trans q.abs)
theorem Vals.inj:∀{xs ys:List V} {us:List Value},Vals xs us->Vals ys us->xs=ys
 |_,_,_,.nil,.nil=>rfl
 |_,_,_,.cons r t,.cons r' t'=>by rw[r.inj r',Vals.inj t t']
section
variable {X:Cx}{pins:List (Addr×Obj)}{σ:St}{H:Hp}{s:Shared}{a:Addr}{xs ys:List V}
theorem dN.of {K:PySem.W.Frag}(h:H a=some (.lst xs)):dN K H a xs:=.inl (.inl h)
theorem fu.of {K:PySem.W.Frag}(h:H a=some (.tup xs)):fu K H a xs:=.inl (.inl h)
theorem Inv.list (I:Inv X pins σ H s)(h:dN X.K H a xs):∃au:List Value,Vals xs au/\PlainL s.heap a au.toArray/\xs.length<=sizeLine:=by
 rcases h with h|⟨o,au,n,hk,hc,hd,hs,hz,r⟩
 ·obtain⟨z,au,n,r,e⟩:=h.ok I.a_
  exact⟨au,r,⟨_,n,e,rfl,rfl,rfl⟩,z⟩
 ·refine⟨au.toList,r,⟨o,n,I.fV a o hk,hc,hd,by simpa using hs⟩,?_⟩
  have e:=r.length
  simp only[l4]at e
  omega
theorem Inv.tuple (I:Inv X pins σ H s)(h:fu X.K H a xs):∃au:List Value,Vals xs au/\IsTup s.heap a au.toArray/\xs.length<=sizeLine:=by
 rcases h with h|⟨o,au,n,hk,hc,hs,hz,r⟩
 ·obtain⟨z,au,r,p⟩:=h.ok I.a_
  exact⟨au,r,p,z⟩
 ·refine⟨au.toList,r,⟨o,I.fV a o hk,hc,n,by simpa using hs⟩,?_⟩
  have e:=r.length
  simp only[l4]at e
  omega
theorem Inv.rM (I:Inv X pins σ H s)(h:dN X.K H a xs)(h':dN X.K H a ys):xs=ys:=by
 obtain⟨au,r,⟨o,n,e,_,_,d⟩,_⟩:=I.list h
 obtain⟨its',r',⟨o',n',e',_,_,d'⟩,_⟩:=I.list h'
 rw[e]at e';cases e'
 rw[d]at d'
 injection d' with d1 _
 have:au=its':=by simpa using A1 Array.toList d1
 subst this
 exact r.inj r'
theorem Inv.nN (I:Inv X pins σ H s)(h:fu X.K H a xs)(h':fu X.K H a ys):xs=ys:=by
 obtain⟨au,r,⟨o,e,_,n,d⟩,_⟩:=I.tuple h
 obtain⟨its',r',⟨o',e',_,n',d'⟩,_⟩:=I.tuple h'
 rw[e]at e';cases e'
 rw[d]at d'
 injection d' with d1 _
 have:au=its':=by simpa using A1 Array.toList d1
 subst this
 exact r.inj r'
end
abbrev Cx.fS (X:Cx)(E:Value->Shared->Prop):Cx:={X with xe:=E}
abbrev Cx.vR (X:Cx):Cx:=X.fS λ _ _=>False
theorem Cx.Ok.fS {X:Cx}(ok:X.Ok)(E:Value->Shared->Prop):(X.fS E).Ok:=
 ⟨ok.mod,ok.kind,ok.glob,ok.blt,ok.above,ok.inj,ok.has,ok.KY,ok.hd,ok.frames,ok.Le,ok.Rx,ok.bs,ok.yJ,ok.uC,ok.BJ,ok.iS,ok.E_⟩
theorem Cx.Ok.dS {X:Cx}{E:Value->Shared->Prop}(ok:(X.fS E).Ok):X.Ok:=
 ⟨ok.mod,ok.kind,ok.glob,ok.blt,ok.above,ok.inj,ok.has,ok.KY,ok.hd,ok.frames,ok.Le,ok.Rx,ok.bs,ok.yJ,ok.uC,ok.BJ,ok.iS,ok.E_⟩
section
variable {X:Cx}{pins:List (Addr×Obj)}{σ:St}{H:Hp}{s:Shared}{E:Value->Shared->Prop}
theorem Inv.fS (I:Inv X pins σ H s)(E:Value->Shared->Prop):Inv (X.fS E) pins σ H s:=⟨I.ok.fS E,I.os,I.bare,I.base,I.loc,I.cell,I.free,I.d_,I.pin,I.a_,I.len⟩
theorem Inv.dS (I:Inv (X.fS E) pins σ H s):Inv X pins σ H s:=⟨I.ok.dS,I.os,I.bare,I.base,I.loc,I.cell,I.free,I.d_,I.pin,I.a_,I.len⟩
theorem SP.dS {D:Ends}{f:Flow}{s':Shared}(h:SP (X.fS E) pins D f s'):SP X pins D f s':=by
 cases f with
 |next=>obtain⟨σ',H',I,q⟩:=h;exact⟨σ',H',I.dS,q⟩
 |brk=>obtain⟨σ',H',I,q⟩:=h;exact⟨σ',H',I.dS,q⟩
 |cont=>obtain⟨σ',H',I,q⟩:=h;exact⟨σ',H',I.dS,q⟩
 |ret u=>obtain⟨v,σ',H',I,r,q⟩:=h;exact⟨v,σ',H',I.dS,r,q⟩
theorem PE.vR {e:Expr}{t:TE}(h:PE X.vR e t):PE X e t:=λ pins s σ H Q I hw=>
 z9 (h pins s σ H Q (I.fS _) hw) (λ _ _ ⟨v,H',I',r,q⟩=>⟨v,H',I'.dS,r,q⟩) λ _ _ z=>False.elim z
theorem PT.vR {e:Expr}{t:TT}(h:PT X.vR e t):PT X e t:=λ pins s σ H Q I hw=>
 z9 (h pins s σ H Q (I.fS _) hw) (λ _ _ ⟨H',I',q⟩=>⟨H',I'.dS,q⟩) λ _ _ z=>False.elim z
theorem nF.vR {st:List Stmt}{t:TS}(h:nF X.vR st t):nF X st t:=λ pins s σ H D I hw=>
 z9 (h pins s σ H D (I.fS _) hw) (λ _ _ q=>q.dS) λ _ _ z=>False.elim z
end
section
variable {X:Cx}{st:Stmt}{rest:List Stmt}{t u:TS}{e:Expr}{te:TE}{pos:Pos}
def FO:TS:=λ D σ H=>D.nx σ H
def Pk(t u:TS):TS:=λ D σ H=>t {D with nx:=u D} σ H
theorem vM:nF X [] FO:=λ _ _ σ H _ I h=>wpAny_execs_nil ⟨σ,H,I,h⟩
theorem lN(h1:PS X st t)(h2:nF X rest u):nF X (st::rest) (Pk t u):=by
 intro pins s σ H D I h
 refine wpAny_execs_cons (ck (h1 pins s σ H {D with nx:=u D} I h) λ f s1 q=>?_)
 cases f with
 |next=>
  obtain⟨σ',H',I',q⟩:=q
  exact h2 pins s1 σ' H' D I' q
 |ret v=>exact q
 |brk=>exact q
 |cont=>exact q
theorem kr(h1:PS X st t):nF X [st] t:=by
 intro pins s σ H D I h
 refine wpAny_execs_cons (ck (h1 pins s σ H D I h) λ f s1 q=>?_)
 cases f with
 |next=>exact wpAny_execs_nil q
 |ret v=>exact q
 |brk=>exact q
 |cont=>exact q
theorem Inv.quiet {pins:List (Addr×Obj)}{σ:St}{H:Hp}{s:Shared}(I:Inv X pins σ H s):interactive X.env=false:=by simp[interactive,I.ok.kind]
def La(te:TE):TS:=λ D σ H=>te σ H λ _ H1=>D.nx σ H1
theorem vN(he:PE X e te)(hs:swapsWith e none pos.line X.env=pure false:=by rfl):PS X (.Expr e pos) (La te):=by
 intro pins s σ H D I h
 exact wpAny_Expr_any (ck (he pins s σ H _ I h) λ v s1 ⟨x,H1,I1,r1,q1⟩=>⟨σ,H1,I1,q1⟩) I.quiet hs
def Po(te:TE):TS:=λ D σ H=>te σ H D.rt
theorem Ip(he:PE X e te):PS X (.Return (some e) pos) (Po te):=by
 intro pins s σ H D I h
 exact wpAny_Return_some (ck (he pins s σ H _ I h) λ v s1 ⟨x,H1,I1,r1,q1⟩=>⟨x,σ,H1,I1,r1,q1⟩)
def K'(c:TT)(t u:TS):TS:=λ D σ H=>c σ H λ b H1=>if b=true then t D σ H1 else u D σ H1
theorem FY{c:Expr}{a b:List Stmt}{tc:TT}(hc:PT X c tc)(ha:nF X a t)(hb:nF X b u):PS X (.If c a b pos) (K' tc t u):=by
 intro pins s σ H D I h
 refine wpAny_If (ck (hc pins s σ H _ I h) λ d s1 ⟨H1,I1,q1⟩=>?_)
 cases d with
 |true=>exact ha pins s1 σ H1 D I1 q1
 |false=>exact hb pins s1 σ H1 D I1 q1
end
abbrev TG:=V->St->Hp->(St->Hp->Prop)->Prop
abbrev FF:=List V->St->Hp->(St->Hp->Prop)->Prop
def PG(X:Cx)(target:Expr)(t:TG):Prop:=
 ∀(pins:List (Addr×Obj)) (s:Shared) (σ:St) (H:Hp) (v:V) (u:Value) (Q:St->Hp->Prop),Inv X pins σ H s->RelV v u->t v σ H Q->
  wpAny (model X.prog X.w) X.A (assign target X.env u) (λ _ s'=>∃σ' H',Inv X pins σ' H' s'/\Q σ' H') X.xe s
def Kw(X:Cx)(ts:List Expr)(t:FF):Prop:=
 ∀(pins:List (Addr×Obj)) (s:Shared) (σ:St) (H:Hp) (vs:List V) (us:List Value) (Q:St->Hp->Prop),Inv X pins σ H s->Vals vs us->t vs σ H Q->
  wpAny (model X.prog X.w) X.A (assignInOrder ((assignEach ts X.env).map (·.2)) us) (λ _ s'=>∃σ' H',Inv X pins σ' H' s'/\Q σ' H') X.xe s
abbrev yx:=V->V->V->Hp->(Hp->Prop)->Prop
def qD(X:Cx)(t:yx):Prop:=
 ∀(pins:List (Addr×Obj)) (s:Shared) (σ:St) (H:Hp) (o i v:V) (ov iv u:Value) (Q:Hp->Prop),Inv X pins σ H s->RelV o ov->RelV i iv->RelV v u->t o i v H Q->
  wpAny (model X.prog X.w) X.A (setItem ov iv u) (λ _ s'=>∃H',Inv X pins σ H' s'/\Q H') X.xe s
section
variable {X:Cx}{pos:Pos}
def iR(i:Nat):TG:=λ v σ H Q=>Q (σ.set i (some v)) H
theorem bG{i:Nat}{x:Str}(hN:X.N.Nodup)(hi:X.N[i]?=some x)(hx:Loc X.env.scope x)(hf:X.fn x=true\/X.env.scope.names.lookup x=some .local:=by first|exact .inl rfl|exact .inr rfl|assumption):PG X (.Name x pos) (iR i):=by
 intro pins s σ H v u Q I r h
 exact wpAny_assign_Name (ly I hN hi hx r (λ s' I'=>⟨_,H,I',h⟩) hf)
def Ru:FF:=λ vs σ H Q=>vs=[]/\Q σ H
def Nl(t:TG)(u:FF):FF:=λ vs σ H Q=>∃v r,vs=v::r/\t v σ H λ σ' H'=>u r σ' H' Q
theorem DZ:Kw X [] Ru:=by
 intro pins s σ H vs us Q I r h
 obtain⟨e,h⟩:=h
 subst e
 cases r
 exact assignInOrder_nil ⟨σ,H,I,h⟩
theorem Ad{e:Expr}{es:List Expr}{t:TG}{u:FF}(h1:PG X e t)(h2:Kw X es u)
  (hs:(assignEach (e::es) X.env).map (·.2)=assign e X.env::(assignEach es X.env).map (·.2):=by rfl):Kw X (e::es) (Nl t u):=by
 intro pins s σ H vs us Q I r h
 obtain⟨v,vr,e1,h⟩:=h
 subst e1
 cases r with
 |cons r rr=>
  rw[hs]
  refine assignInOrder_cons (ck (h1 pins s σ H _ _ _ I r h) λ _ s1 ⟨σ1,H1,I1,q1⟩=>?_)
  exact h2 pins s1 σ1 H1 _ _ Q I1 rr q1
def Rr(K:PySem.W.Frag)(n:Nat)(t:FF):TG:=λ v σ H Q=>∃a xs,v=.ref a/\fu K H a xs/\xs.length=n/\t xs σ H Q
theorem Iy{es:List Expr}{k:Nat}{t:FF}{n:Nat}(hc:X.calm=true)(h:Kw X es t)
  (hn:(assignEach es X.env).length=n:=by rfl) (hst:(assignEach es X.env).findIdx? (·.1)=none:=by rfl):PG X (.Tuple es k pos) (Rr X.K n t):=by
 intro pins s σ H v u Q I r hw
 obtain⟨a,xs,e1,hq,hl,hw⟩:=hw
 subst e1
 cases r
 obtain⟨au,rv,ht,hz⟩:=I.tuple hq
 refine assign_Tuple_tuple (I.ok.hd hc) ht (by simp[hn,<- hl,rv.length]) hst λ h' hx=>?_
 have I1:Inv X pins σ H {s with heap:=h'}:=I.kept (t':=s.toks) λ b o e=>hx b o (y3 (y4 e)) e
 exact h pins _ σ H xs _ Q I1 (by simpa using rv) hw
def Rt(to ti:TE)(t:yx):TG:=λ v σ H Q=>to σ H λ o H1=>ti σ H1 λ i H2=>t o i v H2 λ H3=>Q σ H3
theorem Iz{o i:Expr}{to ti:TE}{t:yx}(ho:PE X o to)(hi:PE X i ti)(hs:qD X t)
  (ha:∀v,assign (.Subscript o i pos) X.env v=(do
   let ov <- holding [v] (eval o X.env)
   let iv <- holding [v,ov] (eval i X.env)
   standAt pos
   holding [v,ov,iv] (setItem ov iv v)
   release [v,ov,iv] []):=by intro _;rfl):PG X (.Subscript o i pos) (Rt to ti t):=by
 intro pins s σ H v u Q I r h
 rw[ha]
 refine z6 (x5 (ck (ho pins s σ H _ I h) λ ov s1 ⟨x,H1,I1,r1,q1⟩=>?_))
 refine z6 (x5 (ck (hi pins s1 σ H1 _ I1 q1) λ iv s2 ⟨y,H2,I2,r2,q2⟩=>?_))
 refine z6 (wpAny_standAt (z6 (x5 (ck (hs pins s2 σ H2 x y v ov iv u _ I2 r1 r2 r q2) λ _ s3 ⟨H3,I3,q3⟩=>?_))))
 exact wpAny_release ⟨σ,H3,I3,q3⟩
def yZ(te:TE)(g:TG):TS:=λ D σ H=>te σ H λ x H1=>g x σ H1 D.nx
theorem Ir{tg e:Expr}{te:TE}{g:TG}(he:PE X e te)(hg:PG X tg g)(hs:swapsWithSole [tg] e pos.line X.env=pure false:=by rfl)(hw:swappedStores [tg] e X.env=pure none:=by rfl)
  (h1:(assignEach [tg] X.env).map (·.2)=[assign tg X.env]:=by rfl):PS X (.Assign [tg] e pos) (yZ te g):=by
 intro pins s σ H D I h
 refine wpAny_Assign_stores (ck (he pins s σ H _ I h) λ v s1 ⟨x,H1,I1,r1,q1⟩=>?_) hs hw
 rw[h1]
 exact ck (hg pins s1 σ H1 x v _ I1 r1 q1) λ _ s2 q=>q
theorem zZ{i:Nat}{x:Str}{e:Expr}{te:TE}{pos':Pos}(hN:X.N.Nodup)(hi:X.N[i]?=some x)(hx:Loc X.env.scope x)(he:PE X e te)(hs:swapsWith e (some (.Name x pos')) pos.line X.env=pure false:=by rfl)(hf:X.fn x=true\/X.env.scope.names.lookup x=some .local:=by first|exact .inl rfl|exact .inr rfl|assumption):
  PS X (.Assign [.Name x pos'] e pos) (yZ te (iR i)):=by
 intro pins s σ H D I h
 refine wpAny_Assign_Name (ck (he pins s σ H _ I h) λ v s1 ⟨y,H1,I1,r1,q1⟩=>?_) hs
 exact ly I1 hN hi hx r1 (λ s2 I2=>⟨_,H1,I2,q1⟩) hf
end
section
variable {X:Cx}{pos:Pos}
def GU(c:TT)(tb:TS):TS:=λ D σ H=>∃W:Nat->St->Hp->Prop,(∃m,W m σ H)/\∀m σ H,W m σ H->
 c σ H λ b H1=>if b=true then ∃N:St->Hp->Prop,(∀σ' H',N σ' H'->∃m',m' < m/\W m' σ' H')/\tb {D with nx:=N,ct:=N,bk:=D.nx} σ H1 else D.nx σ H1
theorem zY{c:Expr}{body:List Stmt}{tc:TT}{tb:TS}(hp:PassesOwn (model X.prog X.w) X.A X.env X.xe)(hc:PT X c tc)(hb:nF X body tb):PS X (.While c body [] pos) (GU tc tb):=by
 intro pins s σ H D I h
 obtain⟨W,⟨m0,w0⟩,turn⟩:=h
 refine wpAny_While (codeAny_whileLoop (λ n s'=>∃σ' H',Inv X pins σ' H' s'/\W n σ' H') ?_ m0 ⟨σ,H,I,w0⟩)
 rintro n s1 ⟨σ1,H1,I1,w1⟩
 refine v7 hp (ck (hc pins s1 σ1 H1 _ I1 (turn n σ1 H1 w1)) λ b s2 ⟨H2,I2,q2⟩=>?_)
 cases b with
 |true=>
  obtain⟨N,hN,q2⟩:=q2
  rw[A3 rfl]
  refine v7 hp (ck (hb pins s2 σ1 H2 _ I2 q2) λ f s3 q3=>?_)
  cases f with
  |next=>
   obtain⟨σ3,H3,I3,n3⟩:=q3
   obtain⟨m',hm,w3⟩:=hN σ3 H3 n3
   exact⟨m',hm,σ3,H3,I3,w3⟩
  |cont=>
   obtain⟨σ3,H3,I3,n3⟩:=q3
   obtain⟨m',hm,w3⟩:=hN σ3 H3 n3
   exact⟨m',hm,σ3,H3,I3,w3⟩
  |brk=>exact q3
  |ret v=>exact q3
 |false=>
  rw[A4 l7]
  exact wpAny_execs_nil ⟨σ1,H2,I2,q2⟩
end
structure It where
 go:Nat->Hp->Prop
 Cr:Nat->Hp->V->Hp->Prop
 stop:Nat->Hp->Prop
def ip(X:Cx)(pins:List (Addr×Obj))(H:Hp)(b:Addr):Prop:=
 H b=none/\b≠X.env.locals/\b∉X.fs/\(b∈X.ex\/X.s₀.heap.objs.size<=b)/\(∀x c,X.env.cells.lookup x=some c->c≠b)/\∀p∈X.pn++pins,p.1≠b
theorem Inv.mm {X:Cx}{pins:List (Addr×Obj)}{σ:St}{H H':Hp}{s:Shared}{b:Addr}(I:Inv X pins σ H s)(hb:s.heap.objs.size<=b)(hn:H' b=none):ip X pins H' b:=by
 refine⟨hn,Nat.ne_of_gt (m7 I.lt hb),I.Qg hb,.inr (y8 I.sz hb),λ x c e z=>?_,λ p hp z=>?_⟩
 ·obtain⟨v,q⟩:=I.cell x c e
  exact absurd (m7 q.lt (by rw[z];exact hb)) (x9 _)
 ·exact absurd (m7 (y4 (I.pin p hp).1) (by rw[z];exact hb)) (x9 _)
structure Turn(P:Program)(w:World)(K:PySem.W.Frag)(tg:Expr)(J:It)(fp:List Addr)(it:Addr)(tn:Nat->Heap->Prop):Prop where
 mem:it∈fp
 obj:∀i h,tn i h->∀b∈fp,∃o,h.get? b=some o/\∀v,o.data≠.cell v
 keep:∀i h h',tn i h->(∀b∈fp,∀o,h.get? b=some o->h'.get? b=some o)->tn i h'
 item:∀(X:Cx),X.prog=P->X.w=w->X.K=K->X.calm=true->∀(i:Nat) (pins:List (Addr×Obj)) (s:Shared) (σ:St) (H:Hp) (E:Value->Shared->Prop),Inv X pins σ H s->(∀b∈fp,ip X pins H b)->tn i s.heap->J.go i H->
  wpAny (model P w) X.A (pyNext (.ref it)) (λ r s1=>∃u,r=some u/\
   wpAny (model P w) X.A (letOwnedTupleGo tg (.ref it) u) (λ _ s2=>∃x H',Inv X pins σ H' s2/\RelV x u/\J.Cr i H x H'/\tn (i+1) s2.heap/\∀b∈fp,H' b=none) E s1) E s
 done:∀(X:Cx),X.prog=P->X.w=w->X.K=K->X.calm=true->∀(i:Nat) (pins:List (Addr×Obj)) (s:Shared) (σ:St) (H:Hp) (E:Value->Shared->Prop),Inv X pins σ H s->(∀b∈fp,ip X pins H b)->tn i s.heap->J.stop i H->
  wpAny (model P w) X.A (pyNext (.ref it)) (λ r s1=>r=none/\Inv X pins σ H s1) E s
 self:∀(A:Around) (i:Nat) (s:Shared) (Q:Value->Shared->Prop) (E:Value->Shared->Prop),tn i s.heap->Q (.ref it) s->wpAny (model P w) A (pyIter (.ref it)) Q E s
abbrev TI:=St->Hp->(It->Hp->Prop)->Prop
def SS(X:Cx)(pins:List (Addr×Obj))(σ:St)(tg:Expr)(R:It->Hp->Prop)(OR:Value)(s2:Shared):Prop:=
 ∃(it:Addr) (fp:List Addr) (tn:Nat->Heap->Prop) (J:It) (H':Hp),OR=.ref it/\Inv X pins σ H' s2/\Turn X.prog X.w X.K tg J fp it tn/\tn 0 s2.heap/\(∀b∈fp,ip X pins H' b)/\R J H'
def PI(X:Cx)(tg iter:Expr)(wi:TI):Prop:=
 ∀(pins:List (Addr×Obj)) (s:Shared) (σ:St) (H:Hp) (R:It->Hp->Prop),Inv X pins σ H s->wi σ H R->
  wpAny (model X.prog X.w) X.A (eval iter X.env) (λ v s1=>wpAny (model X.prog X.w) X.A (pyIter v) (SS X pins σ tg R) X.xe s1) X.xe s
theorem wo{M:Model}{A:Around}{E:Value->Shared->Prop}{s:Shared}{tg:Expr}{it:Addr}{u:Value}{o:Obj}{n:String}{vs:Array Value}{Q:Unit->Shared->Prop}(ho:s.heap.get? it=some o)(hc:o.cls=.type n)(hd:o.data=.fields vs)
  (hn:["enumerate","zip","dict_itemiterator","dict_reverseitemiterator","odict_iterator","itertools.zip_longest","itertools.pairwise"].contains n=false) (hQ:Q () s):wpAny M A (letOwnedTupleGo tg (.ref it) u) Q E s:=by
 unfold letOwnedTupleGo
 cases tg <;> first
  |exact z7 hQ
  |(cases u <;> first
    |exact z7 hQ
    |(refine z6 (wpAny_load ho ?_)
      rw[hc,hd]
      show wpAny M A (if(["enumerate","zip","dict_itemiterator","dict_reverseitemiterator","odict_iterator","itertools.zip_longest","itertools.pairwise"].contains n&&vs[0]?==some (rawInt _))=true then _ else _) Q E s
      rw[A4 (by intro h;rw[hn,Bool.false_and]at h;cases h)]
      exact z7 hQ))
def O9(K:PySem.W.Frag)(a:Addr):It:=
 ⟨λ i H=>∃xs x,dN K H a xs/\xs[i]?=some x,λ i H x H'=>H'=H/\∀xs,dN K H a xs->xs[i]?=some x,λ i H=>∃xs,dN K H a xs/\xs.length<=i⟩
def RT(K:PySem.W.Frag)(a:Addr):It:=
 ⟨λ i H=>∃xs x,fu K H a xs/\xs[i]?=some x,λ i H x H'=>H'=H/\∀xs,fu K H a xs->xs[i]?=some x,λ i H=>∃xs,fu K H a xs/\xs.length<=i⟩
def Oe(lo:Int)(n:Nat):It:=⟨λ i _=>i < n,λ i H x H'=>H'=H/\x=.int (lo+i),λ i _=>n<=i⟩
theorem wW{P:Program}{w:World}{K:PySem.W.Frag}{tg:Expr}(a it:Addr):Turn P w K tg (O9 K a) [it] it (λ i h=>h.IsListIter it a i) where
 mem:=by simp
 obj:=λ i h st b hb=>by
  have e:b=it:=by simpa using hb
  subst e
  obtain⟨o,e,c,d⟩:=st
  exact⟨o,e,λ v z=>by rw[d]at z;cases z⟩
 keep:=λ i h h' st k=>st.at λ o e=>k it (by simp) o e
 item:=by
  intro X hP hw hK hc i pins s σ H E I hf st hg
  subst hP hw hK
  obtain⟨xs,x,hq,hx⟩:=hg
  obtain⟨au,rv,p,hz⟩:=I.list hq
  obtain⟨u,hu,ru⟩:=rv.get hx
  obtain⟨f0,f1,f2,f3,f4,f5⟩:=hf it (by simp)
  refine wpAny_pyNext_list_item st p.isList (x:=u) (by simpa using hu) λ h' tK sb=>?_
  have I1:Inv X pins σ H {s with heap:=h'}:=I.turned (t':=s.toks) (λ b o hb e=>(sb.2 b hb).trans e) f0 f1 f3 f4 f5
  obtain⟨o,e,c,d⟩:=id tK
  exact⟨u,rfl,wo (s:={s with heap:=h'}) e c d (by decide) ⟨x,H,I1,ru,⟨rfl,λ ys hy=>by rw[I.rM hy hq];exact hx⟩,tK,λ b hb=>(hf b hb).1⟩⟩
 done:=by
  intro X hP hw hK hc i pins s σ H E I hf st hg
  subst hP hw hK
  obtain⟨xs,hq,hx⟩:=hg
  obtain⟨au,rv,p,hz⟩:=I.list hq
  obtain⟨f0,f1,f2,f3,f4,f5⟩:=hf it (by simp)
  have hl:=rv.length
  exact wpAny_pyNext_list_end (I.ok.hd hc) st p.isList (by simp;omega) λ h' eb=>⟨rfl,I.turned (t':=s.toks) (λ b o hb e=>eb b o hb e) f0 f1 f3 f4 f5⟩
 self:=λ _ _ _ _ _ st h=>wpAny_pyIter_listiter st h
theorem tU{P:Program}{w:World}{K:PySem.W.Frag}{tg:Expr}(a it:Addr):Turn P w K tg (RT K a) [it] it (λ i h=>h.IsTupleIter it a i) where
 mem:=by simp
 obj:=λ i h st b hb=>by
  have e:b=it:=by simpa using hb
  subst e
  obtain⟨o,e,c,d⟩:=st
  exact⟨o,e,λ v z=>by rw[d]at z;cases z⟩
 keep:=λ i h h' st k=>st.at λ o e=>k it (by simp) o e
 item:=by
  intro X hP hw hK hc i pins s σ H E I hf st hg
  subst hP hw hK
  obtain⟨xs,x,hq,hx⟩:=hg
  obtain⟨au,rv,p,hz⟩:=I.tuple hq
  obtain⟨u,hu,ru⟩:=rv.get hx
  obtain⟨f0,f1,f2,f3,f4,f5⟩:=hf it (by simp)
  refine wpAny_pyNext_tuple_item st (show s.heap.IsTuple a au.toArray from p) (x:=u) (by simpa using hu) λ h' tK sb=>?_
  have I1:Inv X pins σ H {s with heap:=h'}:=I.turned (t':=s.toks) (λ b o hb e=>(sb.2 b hb).trans e) f0 f1 f3 f4 f5
  obtain⟨o,e,c,d⟩:=id tK
  exact⟨u,rfl,wo (s:={s with heap:=h'}) e c d (by decide) ⟨x,H,I1,ru,⟨rfl,λ ys hy=>by rw[I.nN hy hq];exact hx⟩,tK,λ b hb=>(hf b hb).1⟩⟩
 done:=by
  intro X hP hw hK hc i pins s σ H E I hf st hg
  subst hP hw hK
  obtain⟨xs,hq,hx⟩:=hg
  obtain⟨au,rv,p,hz⟩:=I.tuple hq
  obtain⟨f0,f1,f2,f3,f4,f5⟩:=hf it (by simp)
  have hl:=rv.length
  exact wpAny_pyNext_tuple_end (I.ok.hd hc) st (show s.heap.IsTuple a au.toArray from p) (by simp;omega) λ h' eb=>⟨rfl,I.turned (t':=s.toks) (λ b o hb e=>eb b o hb e) f0 f1 f3 f4 f5⟩
 self:=λ _ _ _ _ _ st h=>wpAny_pyIter_tupleiter st h
theorem tV{P:Program}{w:World}{K:PySem.W.Frag}{tg:Expr}(it:Addr)(lo:Int)(n:Nat):Turn P w K tg (Oe lo n) [it] it (λ i h=>IsRangeIter h it (lo+(i:Nat)*1) ((n:Int) - (i:Nat)) 1) where
 mem:=by simp
 obj:=λ i h st b hb=>by
  have e:b=it:=by simpa using hb
  subst e
  exact⟨_,st,λ v z=>by
   have z':Data.fields _=Data.cell v:=z
   cases z'⟩
 keep:=λ i h h' st k=>k it (by simp) _ st
 item:=by
  intro X hP hw hK hc i pins s σ H E I hf st hg
  subst hP hw hK
  obtain⟨f0,f1,f2,f3,f4,f5⟩:=hf it (by simp)
  have W:=Walks.range (prog:=X.prog) (w:=X.w) (I.ok.hd hc) it lo 1 n
  refine W.item i s _ _ hg st λ v h' tk hv tK kk=>?_
  obtain⟨t,rfl⟩:=hv
  have I1:Inv X pins σ H {s with heap:=h',toks:=tk}:=I.turned (λ b o hb e=>kk b o (by simpa using hb) e) f0 f1 f3 f4 f5
  refine⟨_,rfl,wo (s:={s with heap:=h',toks:=tk}) (n:="range_iterator") tK rfl rfl (by decide) ⟨.int (lo+i),H,I1,⟨t,?_⟩,⟨rfl,rfl⟩,tK,λ b hb=>(hf b hb).1⟩⟩
  rw[Int.mul_one]
 done:=by
  intro X hP hw hK hc i pins s σ H E I hf st hg
  subst hP hw hK
  obtain⟨f0,f1,f2,f3,f4,f5⟩:=hf it (by simp)
  exact wpAny_pyNext_range_end (I.ok.hd hc) st (by have:n<=i:=hg;omega) λ h' eb=>⟨rfl,I.turned (t':=s.toks) (λ b o hb e=>eb b o hb e) f0 f1 f3 f4 f5⟩
 self:=λ _ _ _ _ _ st h=>wpAny_pyIter_rangeiter st h
section
variable {X:Cx}{tg:Expr}
theorem rj{pins:List (Addr×Obj)}{σ:St}{H:Hp}{s:Shared}{R:It->Hp->Prop}{E:Value->Shared->Prop}{lo hi:Int}{t u v:Tok}{tk:Nat}(I:Inv X pins σ H s)(h1: -(2^62)<=lo)(h2:lo < 2^62)(h3: -(2^62)<=hi)(h4:hi < 2^62)
  (q:R (Oe lo (hi - lo).toNat) H):wpAny (model X.prog X.w) X.A (pyIter (.ref s.heap.objs.size)) (SS X pins σ tg R) E {s with heap:=s.heap.push {cls:=.type "range",data:=.fields #[.int lo t,.int hi u,.int 1 v]},toks:=tk}:=by
 refine wpAny_pyIter_range (IsRange.new ..) (small_one h1 h2 h3 h4) ?_
 have I1:Inv X pins σ H {s with heap:=s.heap.push {cls:=.type "range",data:=.fields #[.int lo t,.int hi u,.int 1 v]},toks:=tk}:=I.kept λ b o e=>j1 _ e
 refine⟨(s.heap.push {cls:=.type "range",data:=.fields #[.int lo t,.int hi u,.int 1 v]}).objs.size,[(s.heap.push {cls:=.type "range",data:=.fields #[.int lo t,.int hi u,.int 1 v]}).objs.size],_,_,H,rfl,
  I1.kept (t':=tk) λ b o e=>j1 _ e,tV _ lo (hi - lo).toNat,?_,λ b hb=>?_,q⟩
 ·have e1:lo+((0:Nat):Int)*1=lo:=by simp
  have e2:(((hi - lo).toNat:Nat):Int) - ((0:Nat):Int)=Builtin.Range.rangeSize lo hi 1:=by rw[rangeSize_one];split <;> omega
  show IsRangeIter _ _ (lo+((0:Nat):Int)*1) ((((hi - lo).toNat:Nat):Int) - ((0:Nat):Int)) 1
  rw[e1,e2]
  exact l5 _ rfl
 ·have e:b=(s.heap.push {cls:=.type "range",data:=.fields #[.int lo t,.int hi u,.int 1 v]}).objs.size:=by simpa using hb
  subst e
  exact I1.mm (y9 _) (I1.a_.fresh (y9 _))
def Mz(ta:TA):TI:=λ σ H R=>ta σ H λ vs H1=>∃j:Int,vs=[.int j]/\-(2^62)<=j/\j < 2^62/\R (Oe 0 j.toNat) H1
def My(ta:TA):TI:=λ σ H R=>ta σ H λ vs H1=>∃i j:Int,vs=[.int i,.int j]/\(-(2^62)<=i/\i < 2^62/\-(2^62)<=j/\j < 2^62)/\R (Oe i (j - i).toNat) H1
theorem xy{a:Expr}{ta:TA}{p pos:Pos}(hg:Gl X "range")(hm:X.mg "range"=none)(ha:PA X [a] ta)(hs:starEach [a] X.env=[(false,eval a X.env)]:=by rfl):PI X tg (.Call (.Name "range" p) [a] [] pos) (Mz ta):=by
 intro pins s σ H R I h
 refine Call_ (gq I hg hm boot_range (c4 (ck (ha pos pins s σ H _ I h) λ us s1 ⟨vs,H1,I1,r1,q1⟩=>?_) hs rfl))
 obtain⟨j,e,q1,q2,q⟩:=q1
 subst e
 cases r1 with
 |cons r rr=>
  cases rr
  obtain⟨t,rfl⟩:=r
  exact call_range_1 (rj I1 (by omega) (by omega) q1 q2 (by simpa using q))
theorem xx{a b:Expr}{ta:TA}{p pos:Pos}(hg:Gl X "range")(hm:X.mg "range"=none)(ha:PA X [a,b] ta)(hs:starEach [a,b] X.env=[(false,eval a X.env),(false,eval b X.env)]:=by rfl)(hs2:starEach [b] X.env=[(false,eval b X.env)]:=by rfl):
  PI X tg (.Call (.Name "range" p) [a,b] [] pos) (My ta):=by
 intro pins s σ H R I h
 refine Call_ (gq I hg hm boot_range (c4 (ck (ha pos pins s σ H _ I h) λ us s1 ⟨vs,H1,I1,r1,q1⟩=>?_) (by rw[hs,hs2]) (by rw[hs2];rfl)))
 obtain⟨i,j,e,⟨q1,q2,q3,q4⟩,q⟩:=q1
 subst e
 cases r1 with
 |cons r rr=>
  cases rr with
  |cons r' rr=>
   cases rr
   obtain⟨t,rfl⟩:=r
   obtain⟨t',rfl⟩:=r'
   exact call_range_2 (rj I1 q1 q2 q3 q4 q)
def Pt(wi:TI)(g:TG)(tb:TS):TS:=λ D σ H=>wi σ H λ J H1=>∃W:Nat->Nat->St->Hp->Prop,(∃m,W 0 m σ H1)/\∀i m σ H,W i m σ H->
 (J.stop i H/\D.nx σ H)\/(J.go i H/\∃N:St->Hp->Prop,(∀σ' H',N σ' H'->∃m',m' < m/\W (i+1) m' σ' H')/\∀x H',J.Cr i H x H'->g x σ H' λ σ2 H2=>tb {D with nx:=N,ct:=N,bk:=D.nx} σ2 H2)
def pP(fp:List Addr)(h:Heap):List (Addr×Obj):=fp.filterMap λ b=>(h.get? b).map λ o=>(b,o)
theorem de{fp:List Addr}{h:Heap}{b:Addr}{o:Obj}(hb:b∈fp)(e:h.get? b=some o):(b,o)∈pP fp h:=mem_filterMap.mpr ⟨b,hb,by rw[e];rfl⟩
theorem xI{fp:List Addr}{h:Heap}{p:Addr×Obj}(hp:p∈pP fp h):p.1∈fp/\h.get? p.1=some p.2:=by
 obtain⟨b,hb,e⟩:=mem_filterMap.mp hp
 cases q:h.get? b with
 |none=>rw[q]at e;cases e
 |some o=>
  rw[q]at e
  have e':(b,o)=p:=u7 e
  subst e'
  exact⟨hb,q⟩
theorem Inv.pinned {pins:List (Addr×Obj)}{σ:St}{H:Hp}{s:Shared}{fp:List Addr}(I:Inv X pins σ H s)(hf:∀b∈fp,ip X pins H b)(ho:∀b∈fp,∃o,s.heap.get? b=some o/\∀v,o.data≠.cell v):Inv X (pins++pP fp s.heap) σ H s:=
 I.dH λ p hp=>(w6.mp hp).elim (λ z=>I.pin p (j4 _ z)) λ z=>by
  obtain⟨hb,e⟩:=xI z
  obtain⟨f0,f1,f2,_⟩:=hf p.1 hb
  obtain⟨o,e',d⟩:=ho p.1 hb
  rw[e]at e';cases e'
  exact⟨e,f0,f1,f2,d⟩
theorem Inv.lp {pins pl:List (Addr×Obj)}{σ:St}{H:Hp}{s:Shared}(I:Inv X (pins++pl) σ H s):Inv X pins σ H s:=I.dH λ p hp=>I.pin p (j4 _ (mem_append_left _ hp))
theorem Iq{iter:Expr}{body:List Stmt}{wi:TI}{g:TG}{tb:TS}{pos:Pos}(hp:PassesOwn (model X.prog X.w) X.A X.env X.xe)(hc:X.calm=true)(hi:PI X tg iter wi)(hg:PG X tg g)(hb:nF X body tb)
  (hs:∀x,foldedSetIterable iter X.env x=pure x:=by intro _;rfl):PS X (.For tg iter body [] pos) (Pt wi g tb):=by
 intro pins s σ H D I h
 refine wpAny_For (ck (hi pins s σ H _ I h) λ v s1 h1=>ck h1 λ OR s2 h2=>?_) hs
 obtain⟨it,fp,tn,J,H2,e,I2,T,Lg,f2,W,⟨m0,w0⟩,turn⟩:=h2
 subst e
 have GZ:∀{H':Hp},(∀b∈fp,H' b=none)->∀b∈fp,ip X pins H' b:=λ hn b hb=>⟨hn b hb,(f2 b hb).2⟩
 refine codeAny_forLoop_any (λ n s'=>∃i σ' H',Inv X pins σ' H' s'/\tn i s'.heap/\(∀b∈fp,H' b=none)/\W i n σ' H') ?_ m0 ⟨0,σ,H2,I2,Lg,λ b hb=>(f2 b hb).1,w0⟩
 rintro n s3 ⟨i,σ3,H3,I3,Lf,Nn,w3⟩
 rcases turn i n σ3 H3 w3 with⟨stop,qn⟩|⟨go,N,hN,step⟩
 ·refine v7 hp (ck (T.done X rfl rfl rfl hc i pins s3 σ3 H3 X.xe I3 (GZ Nn) Lf stop) λ r s4 ⟨hr,I4⟩=>?_)
  subst hr
  exact wpAny_execs_nil ⟨σ3,H3,I4,qn⟩
 ·refine v7 hp (ck (T.item X rfl rfl rfl hc i pins s3 σ3 H3 X.xe I3 (GZ Nn) Lf go) λ r s4 ⟨u,hr,h4⟩=>?_)
  subst hr
  refine v7 hp (ck h4 λ _ s5 ⟨x,H5,I5,r5,y5,CJ,Rw⟩=>?_)
  have RV:=I5.pinned (GZ Rw) (T.obj _ _ CJ)
  refine v7 hp (ck (hg _ s5 σ3 H5 x u _ RV r5 (step x H5 y5)) λ _ s6 ⟨σ6,H6,I6,q6⟩=>?_)
  refine v7 hp (ck (hb _ s6 σ6 H6 _ I6 q6) λ f s7 q7=>?_)
  have again:∀{σ7:St} {H7:Hp},Inv X (pins++pP fp s5.heap) σ7 H7 s7->N σ7 H7->∃m,m < n/\∃i σ' H',Inv X pins σ' H' s7/\tn i s7.heap/\(∀b∈fp,H' b=none)/\W i m σ' H':=λ{σ7 H7} I7 n7=>by
   obtain⟨m',hm,w7⟩:=hN σ7 H7 n7
   refine⟨m',hm,i+1,σ7,H7,I7.lp,T.keep _ _ _ CJ λ b hb o e=>(I7.pin (b,o) (j4 _ (j4 _ (de hb e)))).1,λ b hb=>?_,w7⟩
   obtain⟨o,e,d⟩:=T.obj _ _ CJ b hb
   exact(I7.pin (b,o) (j4 _ (j4 _ (de hb e)))).2.1
  cases f with
  |next=>obtain⟨σ7,H7,I7,n7⟩:=q7;exact again I7 n7
  |cont=>obtain⟨σ7,H7,I7,n7⟩:=q7;exact again I7 n7
  |brk=>obtain⟨σ7,H7,I7,q7⟩:=q7;exact⟨σ7,H7,I7.lp,q7⟩
  |ret v=>obtain⟨x7,σ7,H7,I7,r7,q7⟩:=q7;exact⟨x7,σ7,H7,I7.lp,r7,q7⟩
end
abbrev R2:=V->V->Hp->VK->Prop
def dE(X:Cx)(f:Value->Value->Sem Value)(r:R2):Prop:=
 ∀(pins:List (Addr×Obj)) (s:Shared) (σ:St) (H:Hp) (x y:V) (v u:Value) (Q:VK),Inv X pins σ H s->RelV x v->RelV y u->r x y H Q->
  wpAny (model X.prog X.w) X.A (f v u) (EP X pins σ Q) X.xe s
def O6(X:Cx)(f:Value->Sem Value)(r:V->Hp->VK->Prop):Prop:=
 ∀(pins:List (Addr×Obj)) (s:Shared) (σ:St) (H:Hp) (x:V) (v:Value) (Q:VK),Inv X pins σ H s->RelV x v->r x H Q->
  wpAny (model X.prog X.w) X.A (f v) (EP X pins σ Q) X.xe s
def cY(X:Cx)(f:Value)(r:List V->Hp->VK->Prop):Prop:=
 ∀(pins:List (Addr×Obj)) (s:Shared) (σ:St) (H:Hp) (xs:List V) (us:List Value) (Q:VK),Inv X pins σ H s->Vals xs us->r xs H Q->
  wpAny (model X.prog X.w) X.A (call f us) (EP X pins σ Q) X.xe s
def K9(r:R2)(ta tb:TE):TE:=λ σ H Q=>ta σ H λ x H1=>tb σ H1 λ y H2=>r x y H2 Q
def S6(r:V->Hp->VK->Prop)(ta:TE):TE:=λ σ H Q=>ta σ H λ x H1=>r x H1 Q
def rI(C:Int->Int->Prop)(g:Int->Int->V):R2:=λ x y H Q=>∃i j,x=.int i/\y=.int j/\C i j/\Q (g i j) H
def Cf(g:Int->Int->V):R2:=λ x y H Q=>∃i j,x=.int i/\y=.int j/\Q (g i j) H
def rU(g:Int->V):V->Hp->VK->Prop:=λ x H Q=>∃i,x=.int i/\Q (g i) H
section
variable {X:Cx}{a b c:Expr}{ta tb tc:TE}{pos:Pos}
theorem Kt(ha:PE X a ta)(hb:PE X b tb){pins:List (Addr×Obj)}{s:Shared}{σ:St}{H:Hp}{R:V->V->Hp->Prop}(I:Inv X pins σ H s)
  (h:ta σ H λ x H1=>tb σ H1 λ y H2=>R x y H2) {Q:Value->Shared->Prop} {f:Value->Value->Sem Value}
  (hf:∀v u s2 x y H2,Inv X pins σ H2 s2->RelV x v->RelV y u->R x y H2->wpAny (model X.prog X.w) X.A (f v u) Q X.xe s2):
  wpAny (model X.prog X.w) X.A (eval a X.env) (λ v s₁=>wpAny (model X.prog X.w) X.A (eval b X.env) (λ u s₂=>wpAny (model X.prog X.w) X.A (f v u) Q X.xe s₂) X.xe s₁) X.xe s:=by
 refine ck (ha pins s σ H _ I h) λ v s1 ⟨x,H1,I1,r1,q1⟩=>?_
 refine ck (hb pins s1 σ H1 _ I1 q1) λ u s2 ⟨y,H2,I2,r2,q2⟩=>?_
 exact hf v u s2 x y H2 I2 r1 r2 q2
theorem L6{op:Operator}{r:R2}(ho:dE X (binaryOp op) r)(ha:PE X a ta)(hb:PE X b tb):PE X (.BinOp a op b pos) (K9 r ta tb):=by
 intro pins s σ H Q I h
 exact wpAny_BinOp (Kt ha hb I h λ v u s2 x y H2 I2 rx ry q=>ho pins s2 σ H2 x y v u Q I2 rx ry q)
theorem LY{op:UnaryOp}{r:V->Hp->VK->Prop}(ho:O6 X (unaryOp op) r)(ha:PE X a ta):PE X (.UnaryOp op a pos) (S6 r ta):=by
 intro pins s σ H Q I h
 exact UnaryOp_ (ck (ha pins s σ H _ I h) λ v s1 ⟨x,H1,I1,r1,q1⟩=>ho pins s1 σ H1 x v Q I1 r1 q1)
theorem OL{f:Value->Value->Sem Value}{C:Int->Int->Prop}{g:Int->Int->Int}
  (rule:∀(i j:Int) (t u:Tok) (s:Shared) (Q:Value->Shared->Prop) (E:Value->Shared->Prop),C i j->Q (.int (g i j) s.toks) {s with toks:=s.toks+1}->wpAny (model X.prog X.w) X.A (f (.int i t) (.int j u)) Q E s):
  dE X f (rI C λ i j=>.int (g i j)):=by
 intro pins s σ H x y v u Q I rx ry h
 obtain⟨i,j,rfl,rfl,hc,q⟩:=h
 obtain⟨t,rfl⟩:=rx
 obtain⟨t',rfl⟩:=ry
 exact rule i j t t' s _ _ hc ⟨.int (g i j),H,I.tok _,⟨_,rfl⟩,q⟩
theorem Me{f:Value->Value->Sem Value}{g:Int->Int->Int}
  (rule:∀(i j:Int) (t u:Tok) (s:Shared) (Q:Value->Shared->Prop) (E:Value->Shared->Prop),Q (.int (g i j) s.toks) {s with toks:=s.toks+1}->wpAny (model X.prog X.w) X.A (f (.int i t) (.int j u)) Q E s):
  dE X f (Cf λ i j=>.int (g i j)):=by
 intro pins s σ H x y v u Q I rx ry h
 obtain⟨i,j,rfl,rfl,q⟩:=h
 obtain⟨t,rfl⟩:=rx
 obtain⟨t',rfl⟩:=ry
 exact rule i j t t' s _ _ ⟨.int (g i j),H,I.tok _,⟨_,rfl⟩,q⟩
theorem Eb{f:Value->Value->Sem Value}{g:Int->Int->Bool}
  (rule:∀(i j:Int) (t u:Tok) (s:Shared) (Q:Value->Shared->Prop) (E:Value->Shared->Prop),Q (.bool (g i j)) s->wpAny (model X.prog X.w) X.A (f (.int i t) (.int j u)) Q E s):
  dE X f (Cf λ i j=>.bl (g i j)):=by
 intro pins s σ H x y v u Q I rx ry h
 obtain⟨i,j,rfl,rfl,q⟩:=h
 obtain⟨t,rfl⟩:=rx
 obtain⟨t',rfl⟩:=ry
 exact rule i j t t' s _ _ ⟨.bl (g i j),H,I,rfl,q⟩
def KC(i j:Int):Prop:=0 < j/\j < 1073741824
def Oi(i j:Int):Prop:=0<=j/\j<=1000000/\i.natAbs < 2^64
def qE(i j:Int):Prop:=(-(2^64) < i/\i < 2^64)\/(-(2^64) < j/\j < 2^64)
theorem qE.ok {i j:Int}(h:qE i j):IntMulOk i j:=by
 rcases h with⟨h1,h2⟩|⟨h1,h2⟩
 ·exact .of_left (intBits_le_64 h1 h2)
 ·exact .of_right (intBits_le_64 h1 h2)
theorem Jc:dE X (binaryOp .Add) (Cf λ i j=>.int (i+j)):=Me λ _ _ _ _ _ _ _ q=>add_int q
theorem IM:dE X (binaryOp .Sub) (Cf λ i j=>.int (i - j)):=Me λ _ _ _ _ _ _ _ q=>sub_int q
theorem IT:dE X (binaryOp .Mult) (rI qE λ i j=>.int (i*j)):=OL λ _ _ _ _ _ _ _ hc q=>mul_int q hc.ok
theorem D_:dE X (binaryOp .FloorDiv) (rI KC λ i j=>.int (i / j)):=OL λ i j _ _ _ _ _ hc q=>by
 have h1:(0:Int) < j:=hc.1
 have h2:j < 1073741824:=hc.2
 exact floordiv_int (by omega) (by rw[Int.fdiv_eq_ediv_of_nonneg i (by omega)];exact q) (.inl (PyProof.noPylong_small (by omega)))
theorem IU:dE X (binaryOp .Mod) (rI (λ _ j=>0 < j) λ i j=>.int (i % j)):=OL λ i j _ _ _ _ _ hc q=>by
 have h1:(0:Int) < j:=hc
 exact mod_int' (by omega) (by rw[Int.fmod_eq_emod_of_nonneg i (by omega)];exact q)
theorem IQ:dE X (binaryOp .Pow) (rI Oi λ i j=>.int (i^j.toNat)):=OL λ _ _ _ _ _ _ _ hc q=>pow_int_small hc.1 hc.2.1 hc.2.2 q
theorem S0{f:Value->Sem Value}{g:Int->Int}
  (rule:∀(i:Int) (t:Tok) (s:Shared) (Q:Value->Shared->Prop) (E:Value->Shared->Prop),Q (.int (g i) s.toks) {s with toks:=s.toks+1}->wpAny (model X.prog X.w) X.A (f (.int i t)) Q E s):
  O6 X f (rU λ i=>.int (g i)):=by
 intro pins s σ H x v Q I rx h
 obtain⟨i,rfl,q⟩:=h
 obtain⟨t,rfl⟩:=rx
 exact rule i t s _ _ ⟨.int (g i),H,I.tok _,⟨_,rfl⟩,q⟩
theorem GK:O6 X (unaryOp .USub) (rU λ i=>.int (-i)):=S0 λ _ _ _ _ _ q=>neg_int q
end
def Ll:V->V->Bool
 | .aZ,.aZ=>true| .aZ,.int _=>true| .int _,.aZ=>true| .aZ,.bl _=>true| .bl _,.aZ=>true| .aZ,.str _=>true| .str _,.aZ=>true
 | .int _,.int _=>true| .bl _,.bl _=>true| .str _,.str _=>true| .yI _,.yI _=>true
 | .int _,.str _=>true| .str _,.int _=>true| .bl _,.str _=>true| .str _,.bl _=>true
 |_,_=>false
def Th:R2:=λ x y H Q=>Ll x y=true/\Q (.bl (decide (x=y))) H
def Te:R2:=λ x y H Q=>Ll x y=true/\Q (.bl (!decide (x=y))) H
theorem wy{i j:Int}:decide (V.int i=V.int j)=(i==j):=by
 rw[r9]
 simp
theorem BP{i j:Bool}:decide (V.bl i=V.bl j)=(i==j):=by
 rw[r9]
 simp
theorem wx{i j:Str}:decide (V.str i=V.str j)=(i==j):=by
 rw[r9]
 simp
theorem wz{i j:Array UInt8}:decide (V.yI i=V.yI j)=(i.toList==j.toList):=by
 rw[r9]
 cases i
 cases j
 simp
section
variable {X:Cx}{a b c:Expr}{ta tb tc:TE}{pos:Pos}
theorem aU{pins:List (Addr×Obj)}{σ:St}{H:Hp}{s:Shared}{Q:VK}{k k':Bool}(I:Inv X pins σ H s)(q:Q (.bl k) H)(e:k=k'):EP X pins σ Q (.bool k') s:=by
 subst e
 exact⟨.bl k,H,I,rfl,q⟩
theorem Md:dE X (compareOp .Eq) Th:=by
 intro pins s σ H x y v u Q I rx ry h
 obtain⟨hs,q⟩:=h
 cases x with
 |aZ=>
  cases rx
  cases y with
  |aZ=>cases ry;exact PySem.EqNone.eq_none_none (aU I q (by simp))
  |bl j=>cases ry;exact PySem.EqNone.eq_none_bool (aU I q (by simp))
  |int j=>obtain⟨t',rfl⟩:=ry;exact PySem.EqNone.eq_none_int (aU I q (by simp))
  |str j=>obtain⟨t',rfl⟩:=ry;exact PySem.EqNone.eq_none_str (aU I q (by simp))
  |_=>exact absurd (show false=true from hs) l7
 |bl i=>
  cases rx
  cases y with
  |aZ=>cases ry;exact PySem.EqNone.eq_bool_none (aU I q (by simp))
  |bl j=>cases ry;exact eq_bool (aU I q BP)
  |str j=>obtain⟨t',rfl⟩:=ry;exact PySem.EqMixed.eq_bool_str (aU I q (by simp))
  |_=>exact absurd (show false=true from hs) l7
 |int i=>
  obtain⟨t,rfl⟩:=rx
  cases y with
  |aZ=>cases ry;exact PySem.EqNone.eq_int_none (aU I q (by simp))
  |int j=>obtain⟨t',rfl⟩:=ry;exact eq_int (aU I q wy)
  |str j=>obtain⟨t',rfl⟩:=ry;exact PySem.EqMixed.eq_int_str (aU I q (by simp))
  |_=>exact absurd (show false=true from hs) l7
 |str i=>
  obtain⟨t,rfl⟩:=rx
  cases y with
  |aZ=>cases ry;exact PySem.EqNone.eq_str_none (aU I q (by simp))
  |bl j=>cases ry;exact PySem.EqMixed.eq_str_bool (aU I q (by simp))
  |int j=>obtain⟨t',rfl⟩:=ry;exact PySem.EqMixed.eq_str_int (aU I q (by simp))
  |str j=>obtain⟨t',rfl⟩:=ry;exact eq_str (aU I q wx)
  |_=>exact absurd (show false=true from hs) l7
 |yI i=>
  obtain⟨t,rfl⟩:=rx
  cases y with
  |yI j=>obtain⟨t',rfl⟩:=ry;exact PySem.W.eq_bytes (aU I q wz)
  |_=>exact absurd (show false=true from hs) l7
 |_=>cases y <;> exact absurd (show false=true from hs) l7
theorem L_:dE X (compareOp .NotEq) Te:=by
 intro pins s σ H x y v u Q I rx ry h
 obtain⟨hs,q⟩:=h
 cases x with
 |aZ=>
  cases rx
  cases y with
  |aZ=>cases ry;exact PySem.EqNone.ne_none_none (aU I q (by simp))
  |bl j=>cases ry;exact PySem.EqNone.ne_none_bool (aU I q (by simp))
  |int j=>obtain⟨t',rfl⟩:=ry;exact PySem.EqNone.ne_none_int (aU I q (by simp))
  |str j=>obtain⟨t',rfl⟩:=ry;exact PySem.EqNone.ne_none_str (aU I q (by simp))
  |_=>exact absurd (show false=true from hs) l7
 |bl i=>
  cases rx
  cases y with
  |aZ=>cases ry;exact PySem.EqNone.ne_bool_none (aU I q (by simp))
  |bl j=>cases ry;exact ne_bool (aU I q (A1 not BP))
  |str j=>obtain⟨t',rfl⟩:=ry;exact PySem.EqMixed.ne_bool_str (aU I q (by simp))
  |_=>exact absurd (show false=true from hs) l7
 |int i=>
  obtain⟨t,rfl⟩:=rx
  cases y with
  |aZ=>cases ry;exact PySem.EqNone.ne_int_none (aU I q (by simp))
  |int j=>obtain⟨t',rfl⟩:=ry;exact ne_int (aU I q (A1 not wy))
  |str j=>obtain⟨t',rfl⟩:=ry;exact PySem.EqMixed.ne_int_str (aU I q (by simp))
  |_=>exact absurd (show false=true from hs) l7
 |str i=>
  obtain⟨t,rfl⟩:=rx
  cases y with
  |aZ=>cases ry;exact PySem.EqNone.ne_str_none (aU I q (by simp))
  |bl j=>cases ry;exact PySem.EqMixed.ne_str_bool (aU I q (by simp))
  |int j=>obtain⟨t',rfl⟩:=ry;exact PySem.EqMixed.ne_str_int (aU I q (by simp))
  |str j=>obtain⟨t',rfl⟩:=ry;exact ne_str (aU I q (A1 not wx))
  |_=>exact absurd (show false=true from hs) l7
 |yI i=>
  obtain⟨t,rfl⟩:=rx
  cases y with
  |yI j=>obtain⟨t',rfl⟩:=ry;exact PySem.W.ne_bytes (aU I q (A1 not wz))
  |_=>exact absurd (show false=true from hs) l7
 |_=>cases y <;> exact absurd (show false=true from hs) l7
theorem L':dE X (compareOp .Lt) (Cf λ i j=>.bl (decide (i < j))):=Eb λ _ _ _ _ _ _ _ q=>lt_int q
theorem Ma:dE X (compareOp .LtE) (Cf λ i j=>.bl (decide (i<=j))):=Eb λ _ _ _ _ _ _ _ q=>le_int q
theorem Mb:dE X (compareOp .Gt) (Cf λ i j=>.bl (decide (j < i))):=Eb λ _ _ _ _ _ _ _ q=>gt_int q
theorem Mc:dE X (compareOp .GtE) (Cf λ i j=>.bl (decide (j<=i))):=Eb λ _ _ _ _ _ _ _ q=>ge_int q
theorem xD:dE X (compareOp .In) (λ x y H Q=>∃i j,x=.str i/\y=.str j/\Q (.bl (!(Builtin.Str.occurrences j i 0 j.length 1).isEmpty)) H):=by
 intro pins s σ H x y v u Q I rx ry h
 obtain⟨i,j,rfl,rfl,q⟩:=h
 obtain⟨t,rfl⟩:=rx
 obtain⟨t',rfl⟩:=ry
 exact in_str (aU I q rfl)
theorem IY:dE X (compareOp .Is) (λ x y H Q=>y=.aZ/\Q (.bl (decide (x=.aZ))) H):=by
 intro pins s σ H x y v u Q I rx ry h
 obtain⟨rfl,q⟩:=h
 cases ry
 refine is_none_gen (aU I q ?_)
 cases x <;> first
  |(cases rx;rfl)
  |(obtain⟨t,rfl⟩:=rx;rfl)
theorem D7:dE X (compareOp .IsNot) (λ x y H Q=>y=.aZ/\Q (.bl (!decide (x=.aZ))) H):=by
 intro pins s σ H x y v u Q I rx ry h
 obtain⟨rfl,q⟩:=h
 cases ry
 refine isnot_none_gen (aU I q ?_)
 cases x <;> first
  |(cases rx;rfl)
  |(obtain⟨t,rfl⟩:=rx;rfl)
theorem dE.or {f:Value->Value->Sem Value}{r r':R2}(h:dE X f r)(h':dE X f r'):dE X f (λ x y H Q=>r x y H Q\/r' x y H Q):=by
 intro pins s σ H x y v u Q I rx ry q
 rcases q with q|q
 ·exact h pins s σ H x y v u Q I rx ry q
 ·exact h' pins s σ H x y v u Q I rx ry q
theorem aR(b:Expr){op:CmpOp}(h:op≠.In:=by decide)(h2:op≠.NotIn:=by decide):behindInMarks op b=false:=by
 have e1:(op==CmpOp.In)=false:=by cases op <;> first|rfl|exact absurd rfl h
 have e2:(op==CmpOp.NotIn)=false:=by cases op <;> first|rfl|exact absurd rfl h2
 cases b <;> simp[behindInMarks,e1,e2]
theorem D3{op:CmpOp}{r:R2}(ho:dE X (compareOp op) r)(ha:PE X a ta)(hb:PE X b tb)(hm:behindInMarks op b=false):PE X (.Compare a [op] [b] pos) (K9 r ta tb):=by
 intro pins s σ H Q I h
 exact wpAny_Compare1 (Kt ha hb I h λ v u s2 x y H2 I2 rx ry q=>ho pins s2 σ H2 x y v u Q I2 rx ry q) hm
def FN(t:TE):TT:=λ σ H Q=>t σ H λ x H'=>∃k,x=.bl k/\Q k H'
theorem DQ{op:CmpOp}{r:R2}(ho:dE X (compareOp op) r)(ha:PE X a ta)(hb:PE X b tb)(hm:behindInMarks op b=false):PT X (.Compare a [op] [b] pos) (FN (K9 r ta tb)):=by
 intro pins s σ H Q I h
 refine wpAny_isTrue_Compare1 (ck (ha pins s σ H _ I h) λ v s1 ⟨x,H1,I1,r1,q1⟩=>ck (hb pins s1 σ H1 _ I1 q1) λ u s2 ⟨y,H2,I2,r2,q2⟩=>
  ck (ho pins s2 σ H2 x y v u _ I2 r1 r2 q2) λ c s3 ⟨z,H3,I3,r3,k,e,q3⟩=>?_) hm
 subst e
 cases r3
 exact o7 ⟨H3,I3,q3⟩
def tY(r r':R2)(ta tb tc:TE):TE:=λ σ H Q=>ta σ H λ x H1=>tb σ H1 λ y H2=>r x y H2 λ z H3=>∃k,z=.bl k/\
 (if k=true then tc σ H3 λ w' H4=>r' y w' H4 Q else Q (.bl false) H3)
theorem Am{op lT:CmpOp}{r r':R2}(ho:dE X (compareOp op) r)(gR:dE X (compareOp lT) r')(ha:PE X a ta)(hb:PE X b tb)(hc:PE X c tc)
  (hm:lastMarks [op,lT] [b,c]=false:=by with_unfolding_all rfl):PE X (.Compare a [op,lT] [b,c] pos) (tY r r' ta tb tc):=by
 intro pins s σ H Q I h
 refine Compare_chain (ck (ha pins s σ H _ I h) λ v s1 ⟨x,H1,I1,r1,q1⟩=>chain_link (ck (hb pins s1 σ H1 _ I1 q1) λ u s2 ⟨y,H2,I2,r2,q2⟩=>
  ck (ho pins s2 σ H2 x y v u _ I2 r1 r2 q2) λ d s3 ⟨z,H3,I3,r3,k,e,q3⟩=>?_)) hm
 subst e
 cases r3
 refine o7 ?_
 cases k with
 |false=>exact ite_ff ⟨.bl false,H3,I3,rfl,q3⟩
 |true=>exact ite_tt (chain_last (ck (hc pins s3 σ H3 _ I3 q3) λ w' s4 ⟨z',H4,I4,r4,q4⟩=>gR pins s4 σ H4 y z' u w' Q I4 r2 r4 q4))
theorem zW{op lT:CmpOp}{r r':R2}(ho:dE X (compareOp op) r)(gR:dE X (compareOp lT) r')(ha:PE X a ta)(hb:PE X b tb)(hc:PE X c tc)
  (hm:lastMarks [op,lT] [b,c]=false:=by with_unfolding_all rfl):PT X (.Compare a [op,lT] [b,c] pos) (FN (tY r r' ta tb tc)):=by
 intro pins s σ H Q I h
 refine isTrue_chain (ck (ha pins s σ H _ I h) λ v s1 ⟨x,H1,I1,r1,q1⟩=>test_link (ck (hb pins s1 σ H1 _ I1 q1) λ u s2 ⟨y,H2,I2,r2,q2⟩=>
  ck (ho pins s2 σ H2 x y v u _ I2 r1 r2 q2) λ d s3 ⟨z,H3,I3,r3,k,e,q3⟩=>?_)) hm
 subst e
 cases r3
 refine o7 ?_
 cases k with
 |false=>
  obtain⟨k',e',q'⟩:=q3
  cases e'
  exact ite_ff ⟨H3,I3,q'⟩
 |true=>
  refine ite_tt (test_last (ck (hc pins s3 σ H3 _ I3 q3) λ w' s4 ⟨z',H4,I4,r4,q4⟩=>ck (gR pins s4 σ H4 y z' u w' _ I4 r2 r4 q4) λ d' s5 ⟨z2,H5,I5,r5,k2,e2,q5⟩=>?_))
  subst e2
  cases r5
  exact o7 ⟨H5,I5,q5⟩
theorem jn:(sizeLine:Nat) < 2^63:=by rw[z0];decide
theorem uw:dE X (binaryOp .Add) (λ x y H Q=>∃i j,x=.str i/\y=.str j/\i.length+j.length<=sizeLine/\Q (.str (i++j)) H):=by
 intro pins s σ H x y v u Q I rx ry h
 obtain⟨i,j,rfl,rfl,hz,q⟩:=h
 obtain⟨t,rfl⟩:=rx
 obtain⟨t',rfl⟩:=ry
 exact add_str (λ t' tk=>⟨.str (i++j),H,I.tok _,⟨_,rfl⟩,q⟩) hz
theorem vals1{x:V}{us:List Value}(r:Vals [x] us):∃u,us=[u]/\RelV x u:=by
 cases r with
 |cons r1 r2=>cases r2;exact⟨_,rfl,r1⟩
theorem vals2{x y:V}{us:List Value}(r:Vals [x,y] us):∃u w',us=[u,w']/\RelV x u/\RelV y w':=by
 cases r with
 |cons r1 r2=>
  cases r2 with
  |cons r3 r4=>cases r4;exact⟨_,_,rfl,r1,r3⟩
theorem yp(hc:X.calm=true):cY X (.builtin "min") (λ xs H Q=>∃i j,xs=[.int i,.int j]/\Q (.int (if j < i then j else i)) H):=by
 intro pins s σ H xs us Q I r h
 obtain⟨i,j,rfl,q⟩:=h
 obtain⟨u,w',rfl,⟨t,rfl⟩,⟨t',rfl⟩⟩:=vals2 r
 refine min_two_ints (I.ok.hd hc) λ h' tk k=>⟨_,H,I.kept k,?_,q⟩
 by_cases hj:j < i
 ·rw[A3 hj,A3 hj];exact⟨_,rfl⟩
 ·rw[A4 hj,A4 hj];exact⟨_,rfl⟩
theorem yr:cY X (.type "int") (λ xs H Q=>(∃i,xs=[.int i]/\Q (.int i) H)\/∃k,xs=[.bl k]/\Q (.int (if k then 1 else 0)) H):=by
 intro pins s σ H xs us Q I r h
 rcases h with⟨i,rfl,q⟩|⟨k,rfl,q⟩
 ·obtain⟨u,rfl,t,rfl⟩:=vals1 r
  exact call_int_int ⟨.int i,H,I,⟨_,rfl⟩,q⟩
 ·obtain⟨u,rfl,r1⟩:=vals1 r
  cases r1
  exact call_int_bool ⟨.int (if k then 1 else 0),H,I.tok _,⟨_,rfl⟩,q⟩
end
structure Kx(h:Heap)(x dx C:Addr)(mA:Str->Option Value):Prop where
 obj:h.get? x=some (PySem.W.instObj C dx)
 ns:h.Ns1 dx mA
 ne:dx≠x
set_option tactic.hygienic true in
theorem jm{h:Heap}{dx:Addr}{mA:Str->Option Value}(n:h.Ns1 dx mA):∃od,h.get? dx=some od/\∀name,PySem.W.lookIn name od=some (mA name):=by
 obtain⟨o,es,ep,ho,hd,hk,_,hm⟩:=n
 refine⟨o,ho,λ name=>?_⟩
 have e:=hm name
 unfold nsFind findBy at e
 rw[<- Array.find?_toList]at e
 unfold PySem.W.lookIn
 rw[hd]
 dsimp only
 split
 ·rename_i y q
  rw[q]at e
  exact A1 some e
 ·rename_i q
  rw[q]at e
  have a:es.toList.any (·.refKey)=false:=by
   rw[List.any_eq_false]
   intro y hy
   obtain⟨z,t,Bs⟩:=hk y (Array.mem_toList_iff.mp hy)
   simp[DictEntry.refKey,Bs]
  have a':¬es.toList.any (·.refKey)=true:=by rw[a];exact l7
  rw[A4 a']
  exact A1 some e
theorem Kx.look {h:Heap}{x dx C:Addr}{mA:Str->Option Value}(I:Kx h x dx C mA):∃od,PySem.W.InstAt h x (PySem.W.instObj C dx) C (some od)/\∀name,PySem.W.lookIn name od=some (mA name):=
 let⟨od,ho,hl⟩:=jm I.ns
 ⟨od,⟨I.obj,rfl,rfl,ho⟩,hl⟩
theorem fX.some_of {v:V}{o:Option Value}(r:fX (some v) o):∃u,o=some u/\RelV v u:=by
 cases o with
 |none=>exact(show False from r).elim
 |some u=>exact⟨u,rfl,r⟩
theorem x'{v:V}{u:Value}(r:RelV v u):PySem.W.handedIn u=true:=by
 cases v with
 |aZ=>cases(show u=Value.none from r);rfl
 |bl b=>cases(show u=Value.bool b from r);rfl
 |int i=>obtain⟨t,e⟩:=(show ∃t,u=Value.int i t from r);cases e;rfl
 |str x=>obtain⟨t,e⟩:=(show ∃t,u=Value.str x t from r);cases e;rfl
 |yI b=>obtain⟨t,e⟩:=(show ∃t,u=Value.bytes b t from r);cases e;rfl
 |Kb b=>obtain⟨t,e⟩:=(show ∃t,u=Value.float b t from r);cases e;rfl
 |ref a=>cases(show u=Value.ref a from r);rfl
 |ty n=>cases(show u=Value.type n from r);rfl
section
variable {P:Program}{w:World}{H H':Hp}{h h':Heap}{a C dx:Addr}{fs UU:List (Str×V)}
theorem EO(a_:fw P w H h)(e:H a=some (.ins C dx fs)):∃mA,Kx h a dx C mA/\(∀f,fX (fs.lookup f) (mA f))/\PySem.Within mA (fs.map (·.1))/\fs.length<=1000/\H dx=some (.own a):=by
 obtain⟨d,z,ne,ob,mA,n,r,q⟩:=(show bA P w H h a (.ins C dx fs)from a_ a _ e)
 exact⟨mA,⟨ob,n,ne⟩,r,q,z,d⟩
end
structure RW(K:PySem.W.Frag)(C:Addr):Prop where
 pg:PySem.W.plainGet K C Str.empty=true
 hd:PySem.W.hasDictIn K C=true
 po:PySem.W.plainOver K C=true
 sa:PySem.W.findIn K (.ref C) "__setattr__"=some (some (.builtin "object.__setattr__"))
theorem RW.get {K:PySem.W.Frag}{C:Addr}(c:RW K C)(f:Str):PySem.W.plainGet K C f=true:=c.pg
section
variable {X:Cx}{pins:List (Addr×Obj)}{σ:St}{H:Hp}{s:Shared}{a C dx:Addr}{fs:List (Str×V)}{f:Str}{v:V}{A:Around}{E:Value->Shared->Prop}
theorem Fy{prog:Program}{w:World}{env:Env}{e:Expr}{f:Str}{pos:Pos}{s:Shared}{Q:Value->Shared->Prop}(hb:attributeBase e f env (eval e env)=eval e env)
  (h:wpAny (model prog w) A (eval e env) (λ o s₁=>wpAny (model prog w) A (getAttr o f true) Q E s₁) E s):wpAny (model prog w) A (eval (.Attribute e f pos) env) Q E s:=
 Attribute_any_ h (by rw[arm_eval_Attribute,hb])
end
section
variable {X:Cx}{pins:List (Addr×Obj)}{σ:St}{H:Hp}{s:Shared}{A:Around}{E:Value->Shared->Prop}{Q:Value->Shared->Prop}{c:Value}{b:Bool}
inductive j'(K:PySem.W.Frag)(H:Hp):V->Value->Prop where
 |aZ:j' K H .aZ (.type "NoneType")
 |bl (x:Bool):j' K H (.bl x) (.type "bool")
 |int (i:Int):j' K H (.int i) (.type "int")
 |str (x:Str):j' K H (.str x) (.type "str")
 |Kb (x:UInt64):j' K H (.Kb x) (.type "float")
 |lst {a:Addr} {xs:List V} (e:H a=some (.lst xs)):j' K H (.ref a) (.type "list")
 |kM {a:Addr} {o:Obj} {xs:List V} (e:H a=some (.kM o (.lst xs))):j' K H (.ref a) (.type "list")
 |tup {a:Addr} {xs:List V} (e:H a=some (.tup xs)):j' K H (.ref a) (.type "tuple")
 |dK {a:Addr} {aw:List (Key×V)} (e:H a=some (.dK aw)):j' K H (.ref a) (.type "dict")
 |dT {a:Addr} {aw:List (List Key×V)} (e:H a=some (.dT aw)):j' K H (.ref a) (.type "dict")
 |ins {a C dx:Addr} {fs:List (Str×V)} (e:H a=some (.ins C dx fs)) (cl:RW K C) (ha:PySem.W.findIn K (.ref C) "__class__"=some (some (.builtin "object.__class__")))
   (hn:PySem.W.specialIn K (.builtin "object.__class__") "__get__"=some (some (.builtin "getset_descriptor.__get__"))) (Sg:PySem.W.takesIn K (.builtin "object.__class__")=some true)
   (hm:PySem.W.mroIn K C (.type "object")=some true):j' K H (.ref a) (.ref C)
theorem gL{x:V}{u t:Value}(I:Inv X pins σ H s)(rx:RelV x u)(ty:j' X.K H x t)(e:PySem.W.kitOne X.K t c=some b)(h:∀tk,Q (.bool b) {s with toks:=tk}):
  wpAny (model X.prog X.w) A (call (.builtin "isinstance") [u,c]) Q E s:=by
 cases ty with
 |aZ=>cases(show u=Value.none from rx);exact v9 PySem.W.kitx_none I.fV True.intro e (λ z=>nomatch z) h
 |bl y=>cases(show u=Value.bool y from rx);exact v9 PySem.W.kitx_bool I.fV True.intro e (λ z=>nomatch z) h
 |int i=>obtain⟨t,q⟩:=(show ∃t,u=Value.int i t from rx);cases q;exact v9 PySem.W.kitx_int I.fV True.intro e (λ z=>nomatch z) h
 |str y=>obtain⟨t,q⟩:=(show ∃t,u=Value.str y t from rx);cases q;exact v9 PySem.W.kitx_str I.fV True.intro e (λ z=>nomatch z) h
 |Kb y=>obtain⟨t,q⟩:=(show ∃t,u=Value.float y t from rx);cases q;exact v9 PySem.W.kitx_float I.fV True.intro e (λ z=>nomatch z) h
 |@lst a xs ea=>
  cases(show u=Value.ref a from rx)
  obtain⟨_,_,n,_,h1⟩:=(show bA X.prog X.w H s.heap a (.lst xs)from I.a_ a _ ea)
  exact v9 PySem.W.kitx_list I.fV ⟨_,h1,rfl⟩ e (λ z=>nomatch z) h
 |@kM a ob xs ea=>
  cases(show u=Value.ref a from rx)
  obtain⟨_,_,_,n,_,h1⟩:=(show bA X.prog X.w H s.heap a (.kM ob (.lst xs))from I.a_ a _ ea)
  exact v9 PySem.W.kitx_list I.fV ⟨_,h1,rfl⟩ e (λ z=>nomatch z) h
 |@tup a xs ea=>
  cases(show u=Value.ref a from rx)
  obtain⟨_,_,_,p⟩:=(show bA X.prog X.w H s.heap a (.tup xs)from I.a_ a _ ea)
  obtain⟨o,h1,h2,_⟩:=p
  exact v9 PySem.W.kitx_tuple I.fV ⟨o,h1,h2⟩ e (λ z=>nomatch z) h
 |@dK a aw ea=>
  cases(show u=Value.ref a from rx)
  obtain⟨_,_,vs,_,p⟩:=(show bA X.prog X.w H s.heap a (.dK aw)from I.a_ a _ ea)
  obtain⟨o,es,ep,h1,h2,_⟩:=p
  exact v9 PySem.W.kitx_dict I.fV ⟨o,h1,h2.1⟩ e (λ z=>nomatch z) h
 |@dT a aw ea=>
  cases(show u=Value.ref a from rx)
  obtain⟨_,_,xs,_,o,es,ep,h1,h2,_⟩:=(show bA X.prog X.w H s.heap a (.dT aw)from I.a_ a _ ea)
  exact v9 PySem.W.kitx_dict I.fV ⟨o,h1,h2.1⟩ e (λ z=>nomatch z) h
 |@ins a C dx fs ea cl ha hn Sg hm=>
  cases(show u=Value.ref a from rx)
  obtain⟨mA,O,_⟩:=EO I.a_ ea
  obtain⟨od,J,_⟩:=O.look
  exact v9 (PySem.W.kitx_own (cl.get _) cl.hd ha hn Sg hm) I.fV J e (λ z=>nomatch z) h
end
structure bC(k:Nat)(A:Around):Prop where
 hd:A.handled=none
 dp:A.depth+2*k+5 < recursionLimit
 un:A.units+16*k+200 < cLine
theorem bC.mono {j k:Nat}{A:Around}(r:bC k A)(h:j<=k):bC j A:=⟨r.hd,by have:=r.dp;omega,by have:=r.un;omega⟩
theorem bC.deeper {k:Nat}{A:Around}(r:bC (k+1) A)(env:Env):bC k (A.deeper env):=
 ⟨r.hd,by have:=r.dp;show A.depth+1+2*k+5 < _;omega,by have:=r.un;show A.units+3+16*k+200 < _;omega⟩
theorem bC.in1 {k:Nat}{A:Around}(r:bC (k+1) A):bC k A.in1:=
 ⟨r.hd,by have:=r.dp;show A.depth+2*k+5 < _;omega,by have:=r.un;show A.units+1+16*k+200 < _;omega⟩
theorem uI{A:Around}{C:Addr}{us:List Value}{kw:List (Str×Value)}:(A.under (.builtin "type.__call__" ⟨.ref C::us,kw⟩)).depth=A.depth+1:=by
 first|rfl|simp[Around.under,Code.weight,Code.isCreation,Code.isGuard,Code.isCaller,Code.frames,Code.isFrame,guardIds]
theorem uH{A:Around}{C:Addr}{us:List Value}{kw:List (Str×Value)}:(A.under (.builtin "type.__call__" ⟨.ref C::us,kw⟩)).units=A.units+1:=by
 first|rfl|simp[Around.under,Code.cUnits,Code.frames,Code.isFrame]
theorem bC.make {k:Nat}{A:Around}(r:bC (k+1) A)(C:Addr)(us:List Value)(kw:List (Str×Value)):bC k (A.under (.builtin "type.__call__" ⟨.ref C::us,kw⟩)):=
 ⟨r.hd,by have:=r.dp;rw[uI];omega,by have:=r.un;rw[uH];omega⟩
theorem bC.depth {k:Nat}{A:Around}(r:bC k A):A.depth < recursionLimit:=by have:=r.dp;omega
theorem bC.units {k:Nat}{A:Around}(r:bC k A):A.units+64 < cLine:=by have:=r.un;omega
def CI:TA:=λ _ H Q=>Q [] H
def nO(ta:TE)(tr:TA):TA:=λ σ H Q=>ta σ H λ x H1=>tr σ H1 λ xs H2=>Q (x::xs) H2
section
variable {X:Cx}{e:Expr}{es:List Expr}{te:TE}{t:TA}{pos:Pos}
theorem gn:PA X [] CI:=λ _ _ _ _ H Q I h=>Calls.spliced_nil ⟨[],H,I,.nil,h⟩
theorem cH(ha:PE X e te)(hr:PA X es t)(hs:starEach (e::es) X.env=(false,eval e X.env)::starEach es X.env:=by rfl):PA X (e::es) (nO te t):=by
 intro pos pins s σ H Q I h
 rw[hs]
 show wpAny _ _ (spliced ((false,eval e X.env)::backTo pos (starEach es X.env))) _ _ s
 refine Calls.spliced_cons (ck (ha pins s σ H _ I h) λ u s1 ⟨x,H1,I1,r1,q1⟩=>?_)
 exact ck (hr pos pins s1 σ H1 _ I1 q1) λ us s2 ⟨xs,H2,I2,r2,q2⟩=>⟨x::xs,H2,I2,.cons r1 r2,q2⟩
def K5(t:TA):TE:=λ σ H Q=>t σ H λ xs H1=>xs.length<=sizeLine/\∀p,H1 p=none->Q (.ref p) (upd H1 p (.tup xs))
def Pr(t:TA):TE:=λ σ H Q=>t σ H λ xs H1=>xs.length<=sizeLine/\∀p,H1 p=none->Q (.ref p) (upd H1 p (.lst xs))
theorem Ai{x1}(h:PA X es t):PE X (.Tuple es x1 pos) (K5 t):=by
 intro pins s σ H Q I hq
 refine wpAny_Tuple_spliced (ck (h pos pins s σ H _ I hq) λ us s1 ⟨xs,H1,I1,r,z,q⟩=>⟨by rw[<- r.length];exact z,?_⟩)
 have hf:H1 s1.heap.objs.size=none:=I1.a_.fresh (y9 _)
 refine⟨.ref s1.heap.objs.size,upd H1 s1.heap.objs.size (.tup xs),I1.laid (t':=s1.toks) (λ b u e=>j1 _ e) (y9 _) ?_,rfl,q _ hf⟩
 exact⟨z,us,r,⟨_,l5 _ rfl,rfl,_,rfl⟩⟩
theorem IG(h:PA X es t):PE X (.List es pos) (Pr t):=by
 intro pins s σ H Q I hq
 refine wpAny_List_spliced (ck (h pos pins s σ H _ I hq) λ us s1 ⟨xs,H1,I1,r,z,q⟩=>⟨by rw[<- r.length];exact z,?_⟩)
 have hf:H1 s1.heap.objs.size=none:=I1.a_.fresh (y9 _)
 refine⟨.ref s1.heap.objs.size,upd H1 s1.heap.objs.size (.lst xs),I1.laid (t':=s1.toks) (λ b u e=>j1 _ e) (y9 _) ?_,rfl,q _ hf⟩
 exact⟨z,us,0,r,l5 _ rfl⟩
end
abbrev Sp:=List V->Hp->VK->XK->Prop
abbrev Cb:=List Env->Hp->Shared->XK->Value->Shared->Prop
structure mT(P:Program)(w:World)(K:PySem.W.Frag)(mg:Str->Option Value)(base:Heap)(A:Around)(outer:List Env)(s:Shared)(H:Hp):Prop where
 frames:A.frames=some outer
 mod:Mod K mg base
 bs:∀b o,base.get? b=some o->s.heap.get? b=some o/\H b=none
 yJ:base.objs.size<=s.heap.objs.size
 iS:s.heap.FunFrames base outer
 E_:∀b∈g_ outer,H b=none
 a_:fw P w H s.heap
 bare:AllBare s.gens
def CE(outer:List Env)(P:Program)(w:World)(H:Hp)(s:Shared)(Q:VK)(u:Value)(s':Shared):Prop:=
 ∃v H',s'.os=s.os/\AllBare s'.gens/\Un (g_ outer) [] H H' s.heap s'.heap/\fw P w H' s'.heap/\RelV v u/\Q v H'
def CR(CX:Cb)(outer:List Env)(P:Program)(w:World)(H:Hp)(s:Shared)(Q:VK)(E:XK)(r:Result)(s':Shared):Prop:=
 match r with
 | .ok (.ret u)=>CE outer P w H s Q u s'
 | .ok _=>False
 | .error e=>CX outer H s E e s'
structure bh(P:Program)(w:World)(K:PySem.W.Frag)(mg:Str->Option Value)(base:Heap)(CX:Cb)(k:Nat)(f:Addr)(fd:FuncData)(ps:List Str)(sp:Sp):Prop where
 len:∀vs H Q E,sp vs H Q E->vs.length=ps.length
 run:∀(A:Around) (outer:List Env) (s:Shared) (H:Hp) (args:Args) (us:List Value) (vs:List V) (Q:VK) (E:XK),bC k A->mT P w K mg base A outer s H->BindsTo s fd args (ps.zip us)->Vals vs us->sp vs H Q E->
  codeAny (model P w) A (.call (.ref f) args) (CR CX outer P w H s Q E) s
theorem mT.make {P:Program}{w:World}{K:PySem.W.Frag}{mg:Str->Option Value}{base:Heap}{A:Around}{outer:List Env}{s:Shared}{H:Hp}(e:mT P w K mg base A outer s H)(C:Addr)(us:List Value)(kw:List (Str×Value)):
  mT P w K mg base (A.under (.builtin "type.__call__" ⟨.ref C::us,kw⟩)) outer s H:=⟨by first|exact e.frames|(simpa[Around.under,Code.envs,Code.isFrame,pushEnvs]using e.frames),e.mod,e.bs,e.yJ,e.iS,e.E_,e.a_,e.bare⟩
theorem mT.in1 {P:Program}{w:World}{K:PySem.W.Frag}{mg:Str->Option Value}{base:Heap}{A:Around}{outer:List Env}{s:Shared}{H:Hp}(e:mT P w K mg base A outer s H):
  mT P w K mg base A.in1 outer s H:=⟨e.frames,e.mod,e.bs,e.yJ,e.iS,e.E_,e.a_,e.bare⟩
section
variable {X:Cx}{pins:List (Addr×Obj)}{σ:St}{H:Hp}{s s':Shared}
theorem Inv.Fe (I:Inv X pins σ H s):mT X.prog X.w X.K X.mg X.base X.A X.stack s H:=
 ⟨I.ok.frames,I.ok.mod,I.bs,y8 I.ok.yJ I.sz,I.stack,I.iB,I.a_,I.bare⟩
theorem Inv.after {Q:VK}{u:Value}(I:Inv X pins σ H s)(h:CE X.stack X.prog X.w H s Q u s'):EP X pins σ Q u s':=by
 obtain⟨v,H',os,bare,un,a_,r,q⟩:=h
 obtain⟨hh,g,d,t,ur⟩:=s'
 obtain rfl:ur=s.os:=os
 exact⟨v,H',I.call (h':=hh) (g':=g) (d':=d) (t':=t) (ch:=[]) un a_ bare (λ b z=>absurd z (by simp)),r,q⟩
end
def FP(sp:Sp)(dvs:List V)(E:XK)(t:TA):TE:=λ σ H Q=>t σ H λ vs H1=>sp (vs++dvs) H1 Q E
def Binds(K:PySem.W.Frag)(fd:FuncData)(ps:List Str)(ds:List Value):Prop:=
 ∀(s:Shared) (us:List Value),K.In s.heap->(us++ds).length=ps.length->BindsTo s fd ⟨us,[]⟩ (ps.zip (us++ds))
theorem Binds.all {K:PySem.W.Frag}{fd:FuncData}{ps:List Str}(h:∀us:List Value,us.length=ps.length->bindArgs fd ⟨us,[]⟩=pure (ps.zip us)):Binds K fd ps []:=λ s us _ hl=>by
 rw[s9]at hl ⊢
 exact .of_eq (h us hl)
def Passes(CX:Cb)(X:Cx)(E:XK):Prop:=∀(pins:List (Addr×Obj)) (σ:St) (H:Hp) (s:Shared) (e:Value) (s':Shared),Inv X pins σ H s->CX X.stack H s E e s'->X.xe e s'
section
variable {X:Cx}{CX:Cb}{k:Nat}{f C:Addr}{fd:FuncData}{ps:List Str}{sp:Sp}{dvs:List V}{ds:List Value}{E:XK}{x m:Str}{p pos apos:Pos}{e o:Expr}{es:List Expr}{ta:TE}{t:TA}
theorem Hd{pins:List (Addr×Obj)}{σ:St}{H:Hp}{s:Shared}{Q:VK}{us:List Value}{vs:List V}(F:bh X.prog X.w X.K X.mg X.base CX k f fd ps sp)(hr:bC k X.A)(hb:Binds X.K fd ps ds)(hd:Vals dvs ds)(hx:Passes CX X E)
  (I:Inv X pins σ H s) (r:Vals vs us) (h:sp (vs++dvs) H Q E):wpAny (model X.prog X.w) X.A (call (.ref f) us) (EP X pins σ Q) X.xe s:=by
 have r2:Vals (vs++dvs) (us++ds):=r.append hd
 have hl:(us++ds).length=ps.length:=by rw[<- r2.length];exact F.len _ _ _ _ h
 refine wpAny_call (codeAny_mono (F.run X.A X.stack s H ⟨us,[]⟩ (us++ds) (vs++dvs) Q E hr I.Fe (hb s us I.fV hl) r2 h) λ r s' hq=>?_)
 cases r with
 |error e=>exact hx pins σ H s e s' I hq
 |ok fl=>
  cases fl with
  |ret u=>exact I.after hq
  |next=>exact False.elim hq
  |brk=>exact False.elim hq
  |cont=>exact False.elim hq
theorem vP(F:bh X.prog X.w X.K X.mg X.base CX k f fd ps sp)(hr:bC k X.A)(hg:Gl X x)(hm:X.mg x=some (.ref f))(hk:PySem.W.keepIn X.K (.ref f)=true)(hb:Binds X.K fd ps ds)(hd:Vals dvs ds)(hx:Passes CX X E)
  (ha:PA X (e::es) t) (hdb:(x==("__debug__":Str))=false:=by decide) (he:starEach (e::es) X.env=(false,eval e X.env)::starEach es X.env:=by rfl) (hpl:(backTo pos (starEach es X.env)).any (·.1)=false:=by rfl):
  PE X (.Call (.Name x p) (e::es) [] pos) (FP sp dvs E t):=by
 intro pins s σ H Q I h
 refine m9 (eJ I hg hm ?_ hdb)
 refine PySem.W.callWith_K (h₀:=X.base) I.ok.mod.KL hk (ck (ha pos pins s σ H _ I h) λ us s1 ⟨vs,H1,I1,r,q⟩=>⟨I1.fV,?_⟩) he hpl
 exact Hd F hr hb hd hx I1 r q
end
structure aI(N P:List Str)(sc:Scope):Prop where
 kind:sc.kind=.function
 co:sc.isCoroutine=false
 gen:sc.isGenerator=false
 nd:N.Nodup
 pre:N.take P.length=P
 par:∀x∈P,sc.names.lookup x=some .local\/sc.names.lookup x=some .cell
 Jn:∀y∈sc.names,y.2≠.free
theorem oQ{kindOf:Str->Option NameKind}{x:Str}:∀{binds:List (Str×Value)} {m:Str->Option Value},(∀v,(x,v)∉binds)->bindL kindOf binds m x=m x
 |[],_,_=>rfl
 |(n,v)::r,m,h=>by
  unfold bindL
  rw[oQ λ w hw=>h w (j9 _ hw)]
  split
  ·have:x≠n:=by rintro rfl;exact h v l6
   simp[this]
  ·rfl
theorem oS{kindOf:Str->Option NameKind}{x:Str}:∀{binds:List (Str×Value)} {m:Str->Option Value},(∀v,(x,v)∉binds)->bindC kindOf binds m x=m x
 |[],_,_=>rfl
 |(n,v)::r,m,h=>by
  unfold bindC
  rw[oS λ w hw=>h w (j9 _ hw)]
  split
  ·rfl
  ·have:x≠n:=by rintro rfl;exact h v l6
   simp[this]
theorem oR{kindOf:Str->Option NameKind}{x:Str}{v:Value}:∀{P:List Str} {vs:List Value} {i:Nat} {m:Str->Option Value},P.Nodup->P[i]?=some x->vs[i]?=some v->kindOf x=some .local->
  bindL kindOf (P.zip vs) m x=some v
 |[],_,_,_,_,h,_,_=>by simp at h
 |_::_,[],_,_,_,_,h,_=>by simp at h
 |p::P,w::vs,0,m,nd,h1,h2,hk=>by
  simp at h1 h2;subst h1;subst h2
  show bindL kindOf ((p,w)::P.zip vs) m p=_
  unfold bindL
  rw[oQ λ v hv=>(nodup_cons.mp nd).1 (of_mem_zip hv).1,A3 hk]
  simp
 |p::P,w::vs,i+1,m,nd,h1,h2,hk=>by
  show bindL kindOf ((p,w)::P.zip vs) m x=_
  unfold bindL
  exact oR (i:=i) (nodup_cons.mp nd).2 (by simpa using h1) (by simpa using h2) hk
theorem oU{kindOf:Str->Option NameKind}{x:Str}{v:Value}:∀{P:List Str} {vs:List Value} {i:Nat} {m:Str->Option Value},P.Nodup->P[i]?=some x->vs[i]?=some v->kindOf x≠some .local->
  bindC kindOf (P.zip vs) m x=some v
 |[],_,_,_,_,h,_,_=>by simp at h
 |_::_,[],_,_,_,_,h,_=>by simp at h
 |p::P,w::vs,0,m,nd,h1,h2,hk=>by
  simp at h1 h2;subst h1;subst h2
  show bindC kindOf ((p,w)::P.zip vs) m p=_
  unfold bindC
  rw[oS λ v hv=>(nodup_cons.mp nd).1 (of_mem_zip hv).1,A4 hk]
  simp
 |p::P,w::vs,i+1,m,nd,h1,h2,hk=>by
  show bindC kindOf ((p,w)::P.zip vs) m x=_
  unfold bindC
  exact oU (i:=i) (nodup_cons.mp nd).2 (by simpa using h1) (by simpa using h2) hk
def start(N:List Str)(vs:List V):St:=vs.map some++List.replicate (N.length - vs.length) none
def nv(CX:Cb)(P:Program)(w:World)(K:PySem.W.Frag)(mg:Str->Option Value)(base:Heap)(N:List Str)(qual:Str)(scope:Scope)(f:Addr)(cd:Value)(A:Around)(outer:List Env)(s:Shared)(H:Hp)(E:XK):Cx where
 prog:=P
 w:=w
 K:=K
 mg:=mg
 base:=base
 A:=A.deeper (envOfC qual scope s.heap.objs.size f cd)
 N:=N
 s₀:=s
 H₀:=H
 env:=envOfC qual scope s.heap.objs.size f cd
 outer:=outer
 stack:=envOfC qual scope s.heap.objs.size f cd::outer
 ex:=[]
 calm:=true
 fn:=λ _=>true
 pn:=[]
 xe:=λ e s'=>wpAny (model P w) (A.deeper (envOfC qual scope s.heap.objs.size f cd)) (leaving (envOfC qual scope s.heap.objs.size f cd) e) (λ _ Lm=>CX outer H s E e Lm) (λ e' Lm=>CX outer H s E e' Lm) s'
theorem s_{sc:Scope}{n:Nat}{x:Str}(h:sc.names.lookup x=some .cell):∃c,(cellsFrom n sc.names []).lookup x=some c:=by
 have q:=PySem.W.cellsFrom_some sc.names n [] (.inl h)
 exact Option.isSome_iff_exists.mp q
theorem xY{CX:Cb}{P:Program}{w:World}{K:PySem.W.Frag}{mg:Str->Option Value}{base:Heap}{N ps:List Str}{qual:Str}{scope:Scope}{f:Addr}{cd:Value}{A:Around}{outer:List Env}{s s1:Shared}{H:Hp}{E:XK}{us:List Value}{vs:List V}
  (S:aI N ps scope) (hd:A.handled=none) (e0:mT P w K mg base A outer s H) (hl:vs.length=ps.length) (r:Vals vs us)
  (x:InCallC s s.heap.objs.size (bindL (envOfC qual scope s.heap.objs.size f cd).kindOf (ps.zip us) λ _=>none) (cellsFrom (s.heap.objs.size+1) scope.names []) (bindC (envOfC qual scope s.heap.objs.size f cd).kindOf (ps.zip us) λ _=>none) s1):
  Inv (nv CX P w K mg base N qual scope f cd A outer s H E) [] (start N vs) H s1:=by
 have hpl:ps.length<=N.length:=by have:=A1 List.length S.pre;rw[r6]at this;omega
 obtain⟨h1,tk,rfl,hk⟩:=x.done
 have Mt:∀b:Addr,b∉(nv CX P w K mg base N qual scope f cd A outer s H E).ex:=λ b z=>absurd (show b∈([]:List Addr)from z) (by simp)
 refine⟨⟨e0.mod,S.kind,rfl,rfl,y9 _,λ y z c h1 h2=>?_,λ y hy=>?_,λ y c _ h=>?_,λ _=>hd,Around.frames_deeper e0.frames,.inr ⟨rfl,rfl⟩,λ b z=>absurd z (Mt b),e0.bs,e0.yJ,λ b _ _=>Mt b,λ b z=>absurd z (Mt b),e0.iS,e0.E_⟩,
  rfl,e0.bare,Un.kept hk,⟨_,x.toInCall.ns,λ i y v h1 h2 h3=>?_⟩,λ y c h=>⟨_,x.cell y c h⟩,e0.a_.fresh (y9 _),λ y c h=>?_,λ p hp=>absurd (show p∈([]:List (Addr×Obj))from hp) (by simp),e0.a_.kept hk,?_⟩
 ·exact name_of_addr x.apart (l0 h1) (l0 h2)
 ·have hy:scope.names.lookup y=some .cell\/scope.names.lookup y=some .free:=hy
  rcases hy with hy|hy
  ·exact s_ hy
  ·exact absurd rfl (S.Jn _ (l0 hy))
 ·exact Nat.le_of_lt (x.above y c (l0 h))
 ·have hi:i < vs.length:=by
   unfold start at h2
   by_cases hi:i < vs.length
   ·exact hi
   ·rw[c6 (by simpa using hi)]at h2
    rw[i6]at h2
    split at h2 <;> cases h2
  have ha:vs[i]?=some v:=by
   unfold start at h2
   rw[c8 (by simpa using hi),n0]at h2
   cases e:vs[i]? with
   |none=>rw[e]at h2;cases h2
   |some a=>rw[e]at h2;cases h2;rfl
  obtain⟨u,hu,rv⟩:=r.get ha
  have hp:ps[i]?=some y:=by
   rw[<- S.pre,getElem?_take_of_lt (by omega)];exact h1
  have R7:ps.Nodup:=by rw[<- S.pre];exact S.nd.sublist (take_sublist _ _)
  refine⟨u,rv,?_⟩
  rcases S.par y (k4 hp)with k|k
  ·exact .inl ⟨k,oR R7 hp hu k⟩
  ·obtain⟨c,e⟩:=s_ (n:=s.heap.objs.size+1) k
   refine .inr ⟨.inl k,c,e,?_⟩
   have q:=x.cell y c e
   rw[oU R7 hp hu (by show scope.names.lookup y≠_;rw[k];decide)]at q
   exact q
 ·exact e0.a_.fresh (Nat.le_of_lt (x.above y c (l0 h)))
 ·unfold start
  show _=N.length
  rw[l8,w5,j7]
  omega
theorem Gh{CX:Cb}{P:Program}{w:World}{K:PySem.W.Frag}{mg:Str->Option Value}{base:Heap}{k:Nat}{f:Addr}{name qual:Str}{params:Arguments}{body:List Stmt}{scope:Scope}{dV kV doc pm bW ct oc:Value}{an od:Option Addr}
  {xB:Array (Option Value)} {N ps:List Str} {sp:Sp} (lk:K.lookup f=some ⟨oc,od,.func (PySem.W.fnOf name qual params body scope dV kV doc pm an bW ct),xB⟩) (hcd:PySem.W.codeIn K bW qual=true) (S:aI N ps scope)
  (len:∀vs H Q E,sp vs H Q E->vs.length=ps.length)
  (fg:∀(A:Around) (outer:List Env) (s:Shared) (H:Hp) (vs:List V) (Q:VK) (E:XK),bC k (A.deeper (envOfC qual scope s.heap.objs.size f bW))->sp vs H Q E->
   ∃t,nF (nv CX P w K mg base N qual scope f bW A outer s H E) body t/\t {nx:=λ _ H'=>Q .aZ H',rt:=Q} (start N vs) H):
  bh P w K mg base CX (k+1) f (PySem.W.fnOf name qual params body scope dV kV doc pm an bW ct) ps sp:=by
 refine⟨len,λ A outer s H args us vs Q E hr e0 hb r Bi=>?_⟩
 have hl:=len _ _ _ _ Bi
 have KX:K.In s.heap:=e0.mod.KL.keeps λ b o e=>(e0.bs b o e).1
 have lim:s.heap.NoLimit:=e0.mod.nolimit.keeps λ b o e=>(e0.bs b o e).1
 have Br:∀y∈ps.zip us,scope.names.lookup y.1=some .local\/(scope.names.lookup y.1=some .cell/\((cellsFrom (s.heap.objs.size+1) scope.names []).lookup y.1).isSome=true):=λ⟨n,v⟩ hy=>by
  rcases S.par n (of_mem_zip hy).1 with q|q
  ·exact .inl q
  ·exact .inr ⟨q,PySem.W.cellsFrom_some _ _ _ (.inl q)⟩
 refine codeAny_call_function hr.depth (KX _ _ lk) rfl S.co S.gen rfl (PySem.W.codeRec_of KX hcd) (hb _ _ _ _ ?_)
 refine wpAny_newFunctionEnv_cells S.kind Br λ env he s1 x=>?_
 subst he
 refine⟨lim.keeps x.toInCall.keep,codeAny_func ?_⟩
 obtain⟨t,ht,hq⟩:=fg A outer s H vs Q E (hr.deeper _) Bi
 have I:Inv (nv CX P w K mg base N qual scope f bW A outer s H E) [] (start N vs) H s1:=xY S hr.hd e0 hl r x
 refine z9 (ht [] s1 (start N vs) H _ I hq) (λ fl s' hs=>?_) λ e s' hs=>hs
 have fin:∀{σ':St} {H':Hp} {v:V} {u:Value},Inv (nv CX P w K mg base N qual scope f bW A outer s H E) [] σ' H' s'->RelV v u->Q v H'->CE outer P w H s Q u s':=
  λ{σ' H' v u} J rv q=>⟨v,H',J.os,J.bare,J.base,J.a_,rv,q⟩
 cases fl with
 |ret u=>
  obtain⟨v,σ',H',J,rv,q⟩:=hs
  exact fin J rv q
 |next=>
  obtain⟨σ',H',J,q⟩:=hs
  exact fin (v:=V.aZ) (u:=Value.none) J rfl q
 |brk=>
  obtain⟨_,_,_,q⟩:=hs
  exact False.elim q
 |cont=>
  obtain⟨_,_,_,q⟩:=hs
  exact False.elim q
section
variable {X:Cx}{x:Str}{p pos:Pos}{e:Expr}{es:List Expr}{t:TA}{id T:String}{r:List V->Hp->VK->Prop}
def Lb(r:List V->Hp->VK->Prop)(t:TA):TE:=λ σ H Q=>t σ H λ vs H1=>r vs H1 Q
theorem lQ(hc:cY X (.builtin id) r)(hg:Gl X x)(hm:X.mg x=none)(hv:bootBuiltins x=some (.builtin id))(ha:PA X (e::es) t)(hn:x≠"__name__":=by decide)(hdb:(x==("__debug__":Str))=false:=by decide)
  (he:starEach (e::es) X.env=(false,eval e X.env)::starEach es X.env:=by rfl) (hpl:(backTo pos (starEach es X.env)).any (·.1)=false:=by rfl):PE X (.Call (.Name x p) (e::es) [] pos) (Lb r t):=by
 intro pins s σ H Q I h
 refine m9 (gq I hg hm hv ?_ hn hdb)
 exact PyProof.Rows.callWith_builtin1 (ck (ha pos pins s σ H _ I h) λ us s1 ⟨vs,H1,I1,r1,q1⟩=>hc pins s1 σ H1 vs us Q I1 r1 q1) he hpl
theorem nX(hc:cY X (.type T) r)(hg:Gl X x)(hm:X.mg x=none)(hv:bootBuiltins x=some (.type T))(ha:PA X (e::es) t)(hn:x≠"__name__":=by decide)(hdb:(x==("__debug__":Str))=false:=by decide)
  (he:starEach (e::es) X.env=(false,eval e X.env)::starEach es X.env:=by rfl) (hpl:(backTo pos (starEach es X.env)).any (·.1)=false:=by rfl):PE X (.Call (.Name x p) (e::es) [] pos) (Lb r t):=by
 intro pins s σ H Q I h
 refine m9 (gq I hg hm hv ?_ hn hdb)
 exact c4 (ck (ha pos pins s σ H _ I h) λ us s1 ⟨vs,H1,I1,r1,q1⟩=>hc pins s1 σ H1 vs us Q I1 r1 q1) he hpl
end
end L2
namespace HT
open PySem PyProof.Rows
def lexLt:List Int->List Int->Bool
 |[],[]=>false
 |[],_::_=>true
 |_::_,[]=>false
 |x::xs,y::ys=>if x=y then lexLt xs ys else decide (x < y)
theorem bB(x y:Int)(xs ys:List Int):lexLt (x::xs) (y::ys)=if x=y then lexLt xs ys else decide (x < y):=rfl
theorem bD:lexLt [] []=false:=rfl
theorem bp(y:Int)(ys:List Int):lexLt [] (y::ys)=true:=rfl
theorem bq(x:Int)(xs:List Int):lexLt (x::xs) []=false:=rfl
theorem my(A:Around)(s:Shared)(a:Int)(t:Tok)(c:Int)(u:Tok):∃e,SeqAt.EqAt A s (.int a t) (.int c u) e/\(e=true↔a=c):=
 ⟨(a==c),SeqAt.EqAt.int_int a t c u,by simp⟩
theorem lL(A:Around)(s:Shared)(a:Int)(t:Tok)(c:Int)(u:Tok)(prog:Program)(w:World)(E:Value->Shared->Prop)(Q:Value->Shared->Prop)(h:Q (.bool (decide (a < c))) s):
  wpAny (model prog w) A (richCompare .Lt (.int a t) (.int c u)) Q E s:=
 (PyProof.Rows.lt_int h:wpAny (model prog w) A (compareOp .Lt (.int a t) (.int c u)) Q E s)
section
open PySem.SeqAt
open PySem.AutoSeq1 (wpAny_loadPart')
open PySem.MeetsSeq PySem.MeetsSeq2 PySem.MeetsSeq3
theorem mW(l b:Addr)(items bM:Array Value)(n n2:Nat)(dd Cp:Option Addr)(sl Cd:Array (Option Value))(ns ms:List Int)(hi:IntsAre items.toList ns)(hj:IntsAre bM.toList ms):
  Meets (Builtin.«tuple.__lt__» ⟨[.ref l,.ref b],[]⟩)
   (λ _ R s=>s.heap.get? l=some {cls:=.type "tuple",dict:=dd,data:=.seq items n,slots:=sl}/\s.heap.get? b=some {cls:=.type "tuple",dict:=Cp,data:=.seq bM n2,slots:=Cd}/\
    R (.ok (.ret (.bool (lexLt ns ms)))) s):=
 .of_wp λ prog w A R s h=>by
  obtain⟨hp,g,d,tk,os⟩:=s;obtain⟨hl,hb,h⟩:=h
  have f2:=AutoSeq1.sub_tuple_tuple
  have z1:items.size=ns.length:=by rw[<- hi.length];simp
  have z2:bM.size=ms.length:=by rw[<- hj.length];simp
  wp_walk using u5 hl,u5 hb,wpAny_forIn_list _ (λ rest b s'=>b.1=none/\s'=⟨hp,g,d,tk,os⟩/\∃(vs ws:List Value) (xM xQ:List Int),rest=vs.zip ws/\
   IntsAre vs xM/\IntsAre ws xQ/\xM.length+bM.size=xQ.length+items.size/\R (.ok (.ret (.bool (lexLt xM xQ)))) ⟨hp,g,d,tk,os⟩) _
  case turn=>
   rintro⟨y,x⟩ rest b s' ⟨wj,rfl,vs,ws,xM,xQ,hz,JP,ET,hlen,hR⟩
   cases JP with
   |nil=>rw[zip_nil_left]at hz;cases hz
   |cons a t JO=>
    cases ET with
    |nil=>rw[zip_nil_right]at hz;cases hz
    |cons c u JN=>
     rw[zip_cons_cons]at hz
     injection hz with Qv Bk
     injection Qv with hy hx
     subst hy hx
     rw[bB]at hR
     simp only[p8]at hlen
     obtain⟨e,he,Bt⟩:=my A.in1 ⟨hp,g,d,tk,os⟩ a t c u
     refine z6 (he prog w _ _ ?_)
     cases e with
     |true=>
      rw[A3 (Bt.mp rfl)]at hR
      wp_walk
      exact⟨rfl,rfl,_,_,_,_,Bk,JO,JN,by omega,hR⟩
     |false=>
      rw[A4 (λ q=>absurd (Bt.mpr q) l7)]at hR
      have QK:=lL A.in1 ⟨hp,g,d,tk,os⟩ a t c u prog w
      wp_walk using QK
      exact⟨_,rfl,by simpa using hR⟩
  case fin=>
   rintro⟨b1,b2⟩ s' ⟨wj,rfl,vs,ws,xM,xQ,hz,JP,ET,hlen,hR⟩
   simp only at wj
   subst wj
   have hv:lexLt xM xQ=decide (items.size < bM.size):=by
    cases JP with
    |nil=>
     cases ET with
     |nil=>
      simp only[length_nil]at hlen
      rw[bD]
      exact(u4 (by omega)).symm
     |cons c u hw=>
      simp only[length_nil,p8]at hlen
      rw[bp]
      exact(x3 (by omega)).symm
    |cons a t hv=>
     cases ET with
     |nil=>
      simp only[length_nil,p8]at hlen
      rw[bq]
      exact(u4 (by omega)).symm
     |cons c u hw=>
      rw[zip_cons_cons]at hz
      cases hz
   rw[hv]at hR
   wp_walk
   exact⟨_,rfl,by simpa[Builtin.Tuple.tupleCompareSizes]using hR⟩
  case h=>
   exact⟨rfl,rfl,items.toList,bM.toList,ns,ms,rfl,hi,hj,by omega,h⟩
end
section
variable {prog:Program}{w:World}{A:Around}{E:Value->Shared->Prop}{s:Shared}
theorem uJ{l b:Addr}{items bM:Array Value}{ns ms:List Int}{Q:Value->Shared->Prop}(hl:IsTup s.heap l items)(hb:IsTup s.heap b bM)(hi:IntsAre items.toList ns)(hj:IntsAre bM.toList ms)
  (hu:A.units < cLine) (h:Q (.bool (lexLt ns ms)) s):wpAny (model prog w) A (compareOp .Lt (.ref l) (.ref b)) Q E s:=by
 obtain⟨⟨cls,dd,data,sl⟩,ho,hc,n,hd⟩:=id hl
 obtain⟨⟨NV,Cp,data2,Cd⟩,wc,yH,n2,hd2⟩:=id hb
 simp only at hc hd yH hd2
 subst hc hd yH hd2
 exact richCompare_meets_room (op:=.Lt) ⟨_,ho,rfl⟩ ⟨_,wc,rfl⟩ PySem.F.slot_tuple_lt PySem.F.entry_tuple_lt (PySem.F.args_tuple_lt_2 _ _) (mW l b items bM n n2 dd Cp sl Cd ns ms hi hj)
  ⟨ho,wc,show Value.bool (lexLt ns ms)≠Value.notImplemented/\Q (.bool (lexLt ns ms)) s from⟨(λ x=>nomatch x),h⟩⟩ hu
theorem Ft{t b:Addr}{vs ws:List Value}{Q:Value->Shared->Prop}(ht:IsTup s.heap t vs.toArray)(hb:IsTup s.heap b ws.toArray)(hv:vs≠[])
  (h1:ws=[]->Q (.ref t) s) (h2:ws≠[]->Q (.ref s.heap.objs.size) {s with heap:=s.heap.push {cls:=.type "tuple",data:=.seq (vs++ws).toArray}})
  (hsz:vs.length+ws.length<=sizeLine):wpAny (model prog w) A (binaryOp .Add (.ref t) (.ref b)) Q E s:=by
 obtain⟨⟨cls,dd,data,sl⟩,ho,hc,n,hd⟩:=id ht
 obtain⟨⟨NV,Cp,data2,Cd⟩,wc,yH,n2,hd2⟩:=id hb
 simp only at hc hd yH hd2
 subst hc hd yH hd2
 have e:vs.toArray++ws.toArray=(vs++ws).toArray:=by simp
 by_cases hw:ws=[]
 ·exact concat_meets ⟨_,ho,rfl⟩ ⟨_,wc,rfl⟩ noFill_tuple_add seq_tuple_add PySem.F.slot_tuple_add PySem.F.entry_tuple_add (PySem.F.args_tuple_add_2 _ _)
   (tuple_addW1 t b vs.toArray ws.toArray n n2 dd Cp sl Cd (by simpa using hv) (by simp[hw])) ⟨ho,wc,h1 hw⟩
 ·refine concat_meets ⟨_,ho,rfl⟩ ⟨_,wc,rfl⟩ noFill_tuple_add seq_tuple_add PySem.F.slot_tuple_add PySem.F.entry_tuple_add (PySem.F.args_tuple_add_2 _ _)
   (tuple_addW2 t b vs.toArray ws.toArray n n2 dd Cp sl Cd (by simpa using hv) (by simpa using hw) (by rw[p4,p4];exact hsz)) ⟨ho,wc,?_⟩
  rw[e]
  exact h2 hw
def bQ(n d:Nat):Option Int->Nat
 |none=>d
 |some v=>if v < 0 then(v+(n:Int)).toNat else min v.toNat n
theorem uf(n d:Nat)(hd:d<=n)(o:Option Int):bQ n d o<=n:=by
 cases o with
 |none=>exact hd
 |some v=>
  show(if v < 0 then(v+(n:Int)).toNat else min v.toNat n)<=n
  by_cases hv:v < 0
  ·rw[A3 hv];omega
  ·rw[A4 hv];exact Nat.min_le_right _ _
theorem wF(v:Int)(n d:Nat):(if v < 0 then max (v+(n:Int)) 0 else min v (n:Int))=((bQ n d (some v):Nat):Int):=by
 show(if v < 0 then max (v+(n:Int)) 0 else min v (n:Int))=(((if v < 0 then(v+(n:Int)).toNat else min v.toNat n):Nat):Int)
 by_cases hv:v < 0
 ·simp only[A3 hv];omega
 ·simp only[A4 hv];omega
theorem ve(lo hi:Option Int)(n:Nat):Builtin.Slice.sliceAdjust lo hi 1 (n:Int)=(((bQ n 0 lo:Nat):Int),((bQ n n hi:Nat):Int)):=by
 have h1:¬((1:Int) < 0):=by omega
 unfold Builtin.Slice.sliceAdjust
 simp only[h1,A0]
 refine Prod.ext ?_ ?_
 ·cases lo with
  |none=>rfl
  |some v=>exact wF v n 0
 ·cases hi with
  |none=>rfl
  |some v=>exact wF v n n
theorem uo(i j:Nat):Builtin.Slice.slicePlaces (i:Int) (j:Int) 1=j - i:=by
 unfold Builtin.Slice.slicePlaces
 have h1:(1:Int) > 0:=by omega
 simp only[h1,if_true,Int.ediv_one]
 split <;> omega
theorem lC{v:Value}{o:Option Int}{Q:Option Int->Shared->Prop}(p:IsPart v o)(h:Q o s):wpAny (model prog w) A (Builtin.Slice.slicePartIndex v) Q E s:=by
 cases p with
 |none=>exact slicePart_none h
 |int i t=>exact slicePart_int h
theorem fb{sl:Addr}{vl vu:Value}{lo hi:Option Int}{n:Nat}{Q:Int×Int×Nat->Shared->Prop}(hs:s.heap.IsSliceOf sl vl vu .none)(pl:IsPart vl lo)(pu:IsPart vu hi)
  (h:Q (((bQ n 0 lo:Nat):Int),1,bQ n n hi - bQ n 0 lo) s):wpAny (model prog w) A (Builtin.Slice.sliceApplied (.ref sl) (pure (n:Int))) Q E s:=by
 obtain⟨os,dJ,JX,oE⟩:=id hs
 unfold Builtin.Slice.sliceApplied Builtin.Slice.sliceFields
 refine z6 (z6 (z5 dJ oE (x:=vl) rfl (z6 (z5 dJ oE (x:=vu) rfl (z6 (z5 dJ oE (x:=.none) rfl (z7 ?_)))))))
 refine z6 (slicePart_none ?_)
 show wpAny _ _ (if((1:Int)==0)=true then _ else _) _ _ s
 rw[A4 (by decide)]
 refine z6 (lC pl (z6 (lC pu (z6 (z7 ?_)))))
 show wpAny _ _ (match Builtin.Slice.sliceAdjust lo hi 1 (n:Int)with|(lo,hi)=>pure (lo,(1:Int),Builtin.Slice.slicePlaces lo hi 1)) _ _ s
 rw[ve lo hi n]
 show wpAny _ _ (pure (((bQ n 0 lo:Nat):Int),(1:Int),Builtin.Slice.slicePlaces ((bQ n 0 lo:Nat):Int) ((bQ n n hi:Nat):Int) 1)) _ _ s
 rw[uo]
 exact z7 h
theorem Ac(xs:Array Value)(i k:Nat):((List.range k).filterMap λ(m:Nat)=>xs[((i:Int)+(m:Int)*1).toNat]?).toArray=((xs.toList.drop i).take k).toArray:=by
 have e:(λ(m:Nat)=>xs[((i:Int)+(m:Int)*1).toNat]?)=λ m=>xs[i+m]?:=by
  funext m
  have:((i:Int)+(m:Int)*1).toNat=i+m:=by omega
  rw[this]
 rw[e]
 have:=pick_run xs i k
 rw[filterMap_map]at this
 have e2:((λ x=>xs[x]?)∘λ x=>i+x)=λ m=>xs[i+m]?:=rfl
 rw[e2]at this
 rw[this]
theorem iP{t sl:Addr}{items:Array Value}{vl vu:Value}{lo hi:Option Int}{Q:Value->Shared->Prop}(ht:IsTup s.heap t items)(hs:s.heap.IsSliceOf sl vl vu .none)(pl:IsPart vl lo)(pu:IsPart vu hi)
  (hw:¬(bQ items.size 0 lo=0/\bQ items.size items.size hi=items.size))
  (h:Q (.ref s.heap.objs.size) {s with heap:=s.heap.push {cls:=.type "tuple",data:=.seq ((items.toList.drop (bQ items.size 0 lo)).take (bQ items.size items.size hi - bQ items.size 0 lo)).toArray}})
  (hsz:items.size<=sizeLine):wpAny (model prog w) A (getItem (.ref t) (.ref sl)) Q E s:=by
 have iN:sizeOk (.seq ((items.toList.drop (bQ items.size 0 lo)).take (bQ items.size items.size hi - bQ items.size 0 lo)).toArray):=by
  show((items.toList.drop (bQ items.size 0 lo)).take (bQ items.size items.size hi - bQ items.size 0 lo)).toArray.size<=sizeLine
  rw[p4,r6,p9,l4]
  omega
 have hj:bQ items.size items.size hi<=items.size:=uf _ _ (y9 _) hi
 obtain⟨os,dJ,JX,oE⟩:=id hs
 have Nh:s.TypeIs (.ref sl) "slice":=⟨os,dJ,JX⟩
 unfold getItem
 try with_reducible refine x5 ?_
 first|refine z6 (z7 ?_)|skip
 refine z6 (wpAny_sequenceKey ht.typeIs (by decide) ?_)
 refine z6 (i7 (name:=Str.ofString "__getitem__") ht.typeIs a0
  (q8 a0 ht.typeIs entry_tuple_getitem ?_ (args_tuple_getitem _ _)))
 show wpAny _ _ (Builtin.Tuple.tupleItemsOf (.ref t) >>= _) _ _ s
 refine z6 (tupleItemsOf_ ht ?_)
 refine z6 (wpAny_typeOf Nh ?_)
 rw[A3 (by decide)]
 refine z6 (fb hs pl pu ?_)
 have Q4:¬((((bQ items.size 0 lo:Nat):Int)==0&&(1:Int)==1&&(bQ items.size items.size hi - bQ items.size 0 lo)==items.size)=true):=by
  intro q
  rw[q9,q9]at q
  have q1:((bQ items.size 0 lo:Nat):Int)=0:=eq_of_beq q.1.1
  have q2:bQ items.size items.size hi - bQ items.size 0 lo=items.size:=eq_of_beq q.2
  exact hw ⟨by omega,by omega⟩
 show wpAny _ _ (if(((bQ items.size 0 lo:Nat):Int)==0&&(1:Int)==1&&(bQ items.size items.size hi - bQ items.size 0 lo)==items.size)=true then _ else _) _ _ s
 rw[A4 Q4,Ac]
 first
  |exact z6 (m:=Builtin.Tuple.tupleExact _) (n6 (z7 ⟨_,rfl,z7 h⟩) iN)
  |exact z6 (m:=Builtin.Tuple.tupleExact _) (n6 (z6 (z7 (z7 ⟨_,rfl,z7 h⟩))) iN)
  |exact z6 (z6 (m:=Builtin.Tuple.tupleExact _) (n6 (z7 (z7 ⟨_,rfl,z7 h⟩)) iN))
  |exact z6 (z6 (m:=Builtin.Tuple.tupleExact _) (n6 (z7 ⟨_,rfl,z7 h⟩) iN))
end
end HT
namespace L2
open PySem PySem.Spec PyProof.Rows
abbrev TO:=St->Hp->(Option Int->Hp->Prop)->Prop
def PO(X:Cx)(e:Option Expr)(t:TO):Prop:=
 ∀(pins:List (Addr×Obj)) (s:Shared) (σ:St) (H:Hp) (Q:Option Int->Hp->Prop),Inv X pins σ H s->t σ H Q->
  wpAny (model X.prog X.w) X.A (evalPart e X.env) (λ u s'=>∃o H',Inv X pins σ H' s'/\IsPart u o/\Q o H') X.xe s
def CH:TO:=λ _ H Q=>Q none H
def K8(t:TE):TO:=λ σ H Q=>t σ H λ x H1=>∃i,x=.int i/\Q (some i) H1
theorem intsAre_of{ns:List Int}:∀{us:List Value},Vals (ns.map V.int) us->IntsAre us ns:=by
 induction ns with
 |nil=>intro us r;rw[map_nil]at r;cases r;exact .nil
 |cons n ns ih=>
  intro us r
  rw[y0]at r
  cases r with
  |cons r1 r2=>
   obtain⟨t,e⟩:=r1
   subst e
   exact .cons n t (ih r2)
section
variable {X:Cx}{e:Expr}{te:TE}{lo hi:Option Expr}{tl th:TO}{pos p2:Pos}
theorem DT:PO X none CH:=by
 intro pins s σ H Q I h
 rw[evalPart_none]
 exact z7 ⟨none,H,I,.none,h⟩
theorem DS(h:PE X e te):PO X (some e) (K8 te):=by
 intro pins s σ H Q I hw
 rw[evalPart_some]
 refine ck (h pins s σ H _ I hw) λ u s1 ⟨x,H1,I1,r1,q1⟩=>?_
 obtain⟨i,rfl,q⟩:=q1
 obtain⟨t,rfl⟩:=r1
 exact⟨some i,H1,I1,.int i t,q⟩
def wM(X:Cx)(r:V->Option Int->Option Int->Hp->VK->Prop):Prop:=
 ∀(pins:List (Addr×Obj)) (s:Shared) (σ:St) (H:Hp) (x:V) (v vl vu:Value) (lo hi:Option Int) (sl:Addr) (Q:VK),Inv X pins σ H s->RelV x v->s.heap.IsSliceOf sl vl vu .none->IsPart vl lo->IsPart vu hi->r x lo hi H Q->
  ∃T id,typeLookup (.type T) "__getitem__"=pure (some (.builtin id))/\s.TypeIs v T/\wpAny (model X.prog X.w) X.A (getItem v (.ref sl)) (EP X pins σ Q) X.xe s
theorem wM.or {r r':V->Option Int->Option Int->Hp->VK->Prop}(h:wM X r)(h':wM X r'):wM X (λ x lo hi H Q=>r x lo hi H Q\/r' x lo hi H Q):=by
 intro pins s σ H x v vl vu lo hi sl Q I rx hs pl pu q
 rcases q with q|q
 ·exact h pins s σ H x v vl vu lo hi sl Q I rx hs pl pu q
 ·exact h' pins s σ H x v vl vu lo hi sl Q I rx hs pl pu q
def S7(r:V->Option Int->Option Int->Hp->VK->Prop)(te:TE)(tl th:TO):TE:=λ σ H Q=>te σ H λ x H1=>tl σ H1 λ l H2=>th σ H2 λ u H3=>r x l u H3 Q
theorem Aj{r:V->Option Int->Option Int->Hp->VK->Prop}(hr:wM X r)(he:PE X e te)(hl:PO X lo tl)(hu:PO X hi th):PE X (.Subscript e (.Slice lo hi none p2) pos) (S7 r te tl th):=by
 intro pins s σ H Q I h
 refine Subscript_ (ck (he pins s σ H _ I h) λ v s1 ⟨x,H1,I1,r1,q1⟩=>?_)
 refine wpAny_Slice (ck (hl pins s1 σ H1 _ I1 q1) λ vl s2 ⟨l,H2,I2,pl,q2⟩=>ck (hu pins s2 σ H2 _ I2 q2) λ vu s3 ⟨u,H3,I3,pu,q3⟩=>?_)
 rw[evalPart_none]
 refine z7 ?_
 have I4:Inv X pins σ H3 {s3 with heap:=s3.heap.push {cls:=.type "slice",data:=.fields #[vl,vu,.none]}}:=I3.kept (t':=s3.toks) λ b ob q=>j1 _ q
 obtain⟨T,id,hT,ht,hg⟩:=hr pins {s3 with heap:=s3.heap.push {cls:=.type "slice",data:=.fields #[vl,vu,.none]}} σ H3 x v vl vu l u s3.heap.objs.size Q I4 r1 (Heap.IsSliceOf.new ..) pl pu q3
 show wpAny (model X.prog X.w) X.A (subscriptTail e (.Slice lo hi none p2) v (.ref s3.heap.objs.size)) (EP X pins σ Q) X.xe {s3 with heap:=s3.heap.push {cls:=.type "slice",data:=.fields #[vl,vu,.none]}}
 exact tail_any (ops:=[.ref s3.heap.objs.size,v]) ht hT hg (by with_unfolding_all rfl)
def sV(xs:List V)(lo hi:Option Int):List V:=(xs.drop (HT.bQ xs.length 0 lo)).take (HT.bQ xs.length xs.length hi - HT.bQ xs.length 0 lo)
theorem jN(xs:List V)(lo hi:Option Int):(sV xs lo hi).length<=xs.length:=by
 unfold sV
 rw[r6,p9]
 omega
def Lz(K:PySem.W.Frag):V->Option Int->Option Int->Hp->VK->Prop:=λ x lo hi H Q=>∃a xs,x=.ref a/\fu K H a xs/\
 ¬(HT.bQ xs.length 0 lo=0/\HT.bQ xs.length xs.length hi=xs.length)/\∀p,H p=none->Q (.ref p) (upd H p (.tup (sV xs lo hi)))
theorem G2:wM X (Lz X.K):=by
 intro pins s σ H x v vl vu lo hi sl Q I rx hs pl pu h
 obtain⟨a,xs,rfl,hx,hw,q⟩:=h
 cases rx
 obtain⟨au,r,ht,hz⟩:=I.tuple hx
 have hlen:au.toArray.size=xs.length:=by rw[p4];exact r.length.symm
 refine⟨"tuple",_,a0.lookup,ht.typeIs,?_⟩
 refine HT.iP ht hs pl pu (by rw[hlen];exact hw) ?_ (by rw[hlen];exact hz)
 rw[hlen]
 refine⟨.ref s.heap.objs.size,_,I.laid (t':=s.toks) (o:=.tup (sV xs lo hi)) (λ b ob q=>j1 _ q) (y9 _) ?_,rfl,q _ (I.a_.fresh (y9 _))⟩
 exact⟨y8 (jN xs lo hi) hz,_,(r.drop (HT.bQ xs.length 0 lo)).take (HT.bQ xs.length xs.length hi - HT.bQ xs.length 0 lo),IsTup.new _ _⟩
def LJ(K:PySem.W.Frag):R2:=λ x y H Q=>∃a b xs ys,x=.ref a/\y=.ref b/\fu K H a xs/\fu K H b ys/\xs≠[]/\xs.length+ys.length<=sizeLine/\
 (ys=[]->Q (.ref a) H)/\(ys≠[]->∀p,H p=none->Q (.ref p) (upd H p (.tup (xs++ys))))
theorem Vals.pW {xs:List V}{us:List Value}(r:Vals xs us):us=[]↔xs=[]:=by
 cases r with
 |nil=>simp
 |cons _ _=>simp
theorem D':dE X (binaryOp .Add) (LJ X.K):=by
 intro pins s σ H x y v u Q I rx ry h
 obtain⟨a,b,xs,ys,rfl,rfl,ha,hb,hx,hz,q1,q2⟩:=h
 cases rx
 cases ry
 obtain⟨au,r1,p1,_⟩:=I.tuple ha
 obtain⟨AY,r2,p2,_⟩:=I.tuple hb
 refine HT.Ft p1 p2 (λ z=>hx (r1.pW.mp z)) (λ z=>⟨.ref a,H,I,rfl,q1 (r2.pW.mp z)⟩) (λ z=>?_) (by rw[<- r1.length,<- r2.length];exact hz)
 refine⟨.ref s.heap.objs.size,_,I.laid (t':=s.toks) (o:=.tup (xs++ys)) (λ b ob q=>j1 _ q) (y9 _) ?_,rfl,q2 (λ w=>z (r2.pW.mpr w)) _ (I.a_.fresh (y9 _))⟩
 exact⟨by rw[l8];exact hz,_,r1.append r2,IsTup.new _ _⟩
end
def tL(n:Nat)(i:Int):Option Nat:=if 0<=i then(if i < n then some i.toNat else none)else if -(n:Int)<=i then some (i+n).toNat else none
def eV{α:Type}(xs:List α)(i:Int):Option α:=(tL xs.length i).bind λ j=>xs[j]?
theorem vZ{n:Nat}{i:Int}{j:Nat}(h:tL n i=some j):seqIndex? i n=some j/\j < n/\-(n:Int)<=i/\i < n:=by
 unfold tL at h
 by_cases h0:0<=i
 ·rw[A3 h0]at h
  by_cases h1:i < n
  ·rw[A3 h1]at h
   have e:i.toNat=j:=u7 h
   exact⟨by rw[seqIndex_of h0 h1,e],by omega,by omega,h1⟩
  ·rw[A4 h1]at h;cases h
 ·rw[A4 h0]at h
  by_cases h1: -(n:Int)<=i
  ·rw[A3 h1]at h
   have e:(i+n).toNat=j:=u7 h
   exact⟨by rw[seqIndex_neg (by omega) h1,e],by omega,h1,by omega⟩
  ·rw[A4 h1]at h;cases h
theorem qz{α:Type}{xs:List α}{i:Int}{v:α}(h:eV xs i=some v):∃j,seqIndex? i xs.length=some j/\xs[j]?=some v/\j < xs.length/\-(xs.length:Int)<=i/\i < xs.length:=by
 unfold eV at h
 cases e:tL xs.length i with
 |none=>rw[e]at h;cases h
 |some j=>
  rw[e]at h
  obtain⟨h1,h2,h3,h4⟩:=vZ e
  exact⟨j,h1,h,h2,h3,h4⟩
theorem cI{α:Type}{xs:List α}{j:Nat}{v:α}(h:xs[j]?=some v):eV xs (j:Int)=some v:=by
 have hj:j < xs.length:=(g9.mp h).1
 have e:tL xs.length (j:Int)=some j:=by
  unfold tL
  rw[A3 (by omega),A3 (by omega)];simp
 unfold eV;rw[e];exact h
theorem B3{α:Type}(xs:List α)(v:α):eV (xs++[v]) (-1)=some v:=by
 have hl:(xs++[v]).length=xs.length+1:=by simp
 have e:tL (xs++[v]).length (-1)=some xs.length:=by
  unfold tL
  rw[hl,A4 (by decide),A3 (by omega)]
  congr 1
  omega
 unfold eV
 rw[e]
 show(xs++[v])[xs.length]?=some v
 simp
def qC(b:Expr):Prop:=∀o i,subscripted b false o i=operate [o,i] (getItem o i)
def vh(X:Cx)(r:R2):Prop:=
 ∀(value slice:Expr) (pins:List (Addr×Obj)) (s:Shared) (σ:St) (H:Hp) (x y:V) (v u:Value) (Q:VK),Inv X pins σ H s->RelV x v->RelV y u->r x y H Q->
  subscripted slice false v u=operate [v,u] (getItem v u)->wpAny (model X.prog X.w) X.A (subscriptTail value slice v u) (EP X pins σ Q) X.xe s
def RQ(X:Cx)(id:String)(r:V->List V->Hp->VK->Prop):Prop:=
 ∀(pins:List (Addr×Obj)) (s:Shared) (σ:St) (H:Hp) (x:V) (xs:List V) (v:Value) (us:List Value) (Q:VK),Inv X pins σ H s->RelV x v->Vals xs us->r x xs H Q->
  wpAny (model X.prog X.w) X.A (call (.builtin id) (v::us)) (EP X pins σ Q) X.xe s
section
variable {X:Cx}{a b:Expr}{ta tb:TE}{pos:Pos}
theorem vh.or {r r':R2}(h:vh X r)(h':vh X r'):vh X (λ x y H Q=>r x y H Q\/r' x y H Q):=by
 intro value slice pins s σ H x y v u Q I rx ry q hs
 rcases q with q|q
 ·exact h value slice pins s σ H x y v u Q I rx ry q hs
 ·exact h' value slice pins s σ H x y v u Q I rx ry q hs
theorem L7{r:R2}(hr:vh X r)(ha:PE X a ta)(hb:PE X b tb)(hs:qC b):PE X (.Subscript a b pos) (K9 r ta tb):=by
 intro pins s σ H Q I h
 exact Subscript_ (Kt ha hb I h λ v u s2 x y H2 I2 rx ry q=>hr a b pins s2 σ H2 x y v u Q I2 rx ry q (hs _ _))
def LG(K:PySem.W.Frag):R2:=λ x y H Q=>∃p xs i v,x=.ref p/\y=.int i/\dN K H p xs/\eV xs i=some v/\Q v H
def LD(K:PySem.W.Frag):R2:=λ x y H Q=>∃p xs i v,x=.ref p/\y=.int i/\fu K H p xs/\eV xs i=some v/\Q v H
def LF:R2:=λ x y H Q=>∃z i c,x=.str z/\y=.int i/\z.length<=sizeLine/\eV z.cps.toList i=some c/\Q (.str ⟨#[c]⟩) H
theorem EI:vh X (LG X.K):=by
 intro value slice pins s σ H x y v u Q I rx ry h hs
 obtain⟨p,xs,i,z,rfl,rfl,hq,he,q⟩:=h
 cases rx
 obtain⟨t,rfl⟩:=ry
 obtain⟨au,r,pl,hz⟩:=I.list hq
 obtain⟨j,h1,h2,h3,h4,h5⟩:=qz he
 obtain⟨w,ew,xk⟩:=r.get h2
 have hl:=r.length
 have hn:=jn
 have fin:EP X pins σ Q w s:=⟨z,H,I,xk,q⟩
 by_cases h0:0<=i
 ·have hj:i.toNat=j:=by
   rw[seqIndex_of h0 h5]at h1
   exact u7 h1
  exact item_listR pl.isList h0 (by omega) (by rw[hj];simpa using ew) fin hs
 ·have hj:(i+(au.toArray.size:Int)).toNat=j:=by
   rw[seqIndex_neg (by omega) h4]at h1
   rw[p4,<- hl]
   exact u7 h1
  exact subscriptTail_builtinR (x:=w) pl.isList.typeIs slot_list_getitem.lookup
   (wpAny_getItem_list_neg (Q:=λ r s'=>r=w/\EP X pins σ Q r s') pl.isList (by omega) (by rw[p4] <;> omega) (by omega) (by rw[hj];simpa using ew) ⟨rfl,fin⟩) hs
theorem JD:vh X (LD X.K):=by
 intro value slice pins s σ H x y v u Q I rx ry h hs
 obtain⟨p,xs,i,z,rfl,rfl,hq,he,q⟩:=h
 cases rx
 obtain⟨t,rfl⟩:=ry
 obtain⟨au,r,pl,hz⟩:=I.tuple hq
 obtain⟨j,h1,h2,h3,h4,h5⟩:=qz he
 obtain⟨w,ew,xk⟩:=r.get h2
 have hl:=r.length
 have hn:=jn
 have fin:EP X pins σ Q w s:=⟨z,H,I,xk,q⟩
 exact subscriptTail_builtinR (x:=w) pl.typeIs slot_tuple_getitem.lookup
  (getItem_tuple (j:=j) (Q:=λ r s'=>r=w/\EP X pins σ Q r s') pl (by omega) (by omega) (by rw[p4,<- hl];exact h1) (by simpa using ew) ⟨rfl,fin⟩) hs
theorem JE:vh X LF:=by
 intro value slice pins s σ H x y v u Q I rx ry h hs
 obtain⟨z,i,c,rfl,rfl,hz,he,q⟩:=h
 obtain⟨t,rfl⟩:=rx
 obtain⟨t',rfl⟩:=ry
 obtain⟨j,h1,h2,h3,h4,h5⟩:=qz he
 have hl:z.cps.toList.length=z.length:=by simp[Str.length]
 rw[hl]at h1 h4 h5
 have hn:=jn
 exact tail_any (typeIs_str s z t) slot_str_getitem.lookup (getItem_str (c:=c) (by
  have e1:decide (i < -(2^63:Int))=false:=u4 (by omega)
  have e2:decide (i ≥ 2^63)=false:=u4 (by omega)
  rw[e1,e2,Bool.or_false]) (by rw[h1];simpa using h2) ⟨.str ⟨#[c]⟩,H,I.tok _,⟨_,rfl⟩,q⟩) hs
def Tf(K:PySem.W.Frag):R2:=λ x y H Q=>LG K x y H Q\/LD K x y H Q\/LF x y H Q
theorem JF:vh X (Tf X.K):=EI.or (JD.or JE)
theorem uG(au:List Value)(n j:Nat)(u:Value):Obj.mapSeq (·.setIfInBounds j u) {cls:=.type "list",data:=.seq au.toArray n}={cls:=.type "list",data:=.seq (au.set j u).toArray n}:=by
 simp[Obj.mapSeq]
theorem Inv.lst {pins:List (Addr×Obj)}{σ:St}{H:Hp}{s:Shared}{p:Addr}{xs:List V}(I:Inv X pins σ H s)(h:H p=some (.lst xs)):
  ∃(au:List Value) (n:Nat),Vals xs au/\s.heap.get? p=some {cls:=.type "list",data:=.seq au.toArray n}/\xs.length<=sizeLine:=by
 obtain⟨z,au,n,r,e⟩:=I.a_ p _ h
 exact⟨au,n,r,e,z⟩
theorem Inv.Jp {pins:List (Addr×Obj)}{σ:St}{H:Hp}{s:Shared}{p:Addr}{xs ys:List V}{au its':List Value}{n n':Nat}{f:Obj->Obj}(I:Inv X pins σ H s)(h:H p=some (.lst xs))
  (ho:s.heap.get? p=some {cls:=.type "list",data:=.seq au.toArray n}) (hf:f {cls:=.type "list",data:=.seq au.toArray n}={cls:=.type "list",data:=.seq its'.toArray n'}) (r:Vals ys its') (hz:ys.length<=sizeLine) (t:Nat):
  Inv X pins σ (upd H p (.lst ys)) {s with heap:=s.heap.update p f,toks:=t}:=by
 have e:(s.heap.update p f).get? p=some {cls:=.type "list",data:=.seq its'.toArray n'}:=by
  rw[j3 f ho (by rw[hf] <;> rfl),hf]
 refine I.write (x:=p) (e:=p) (by rw[h];trivial) (.inl rfl) (λ b u hb q=>(j2 _ _ (A2 hb)).trans q) ⟨_,e⟩ ?_
 exact⟨hz,its',n',r,e⟩
def LB:V->V->V->Hp->(Hp->Prop)->Prop:=λ o i v H Q=>∃p xs k j,o=.ref p/\i=.int k/\H p=some (.lst xs)/\tL xs.length k=some j/\Q (upd H p (.lst (xs.set j v)))
theorem set_list:qD X LB:=by
 intro pins s σ H o i v ov iv u Q I ro ri rv h
 obtain⟨p,xs,k,j,rfl,rfl,hp,hj,q⟩:=h
 cases ro
 obtain⟨t,rfl⟩:=ri
 obtain⟨au,n,r,ho,hz⟩:=I.lst hp
 obtain⟨h1,h2,h3,h4⟩:=vZ hj
 have hl:=r.length
 have hn:=jn
 have I':Inv X pins σ (upd H p (.lst (xs.set j v))) {s with heap:=s.heap.update p (Obj.mapSeq (·.setIfInBounds j u))}:=
  I.Jp hp ho (uG au n j u) (r.set rv j) (by rw[length_set];exact hz) s.toks
 by_cases h0:0<=k
 ·have hk:k.toNat=j:=by
   rw[seqIndex_of h0 h4]at h1
   exact u7 h1
  exact PySem.W.ki_setAt ho h0 (by omega) (by rw[p4,<- hl];exact h4) (by rw[hk];exact⟨_,I',q⟩)
 ·have hk:(k+(au.toArray.size:Int)).toNat=j:=by
   rw[seqIndex_neg (by omega) h3]at h1
   rw[p4,<- hl]
   exact u7 h1
  exact PySem.W.ki_setBack ho (by omega) (by rw[p4,<- hl];exact h3) (by omega) (by rw[hk];exact⟨_,I',q⟩)
theorem iD(lo hi:Option Int)(n:Nat):(sliceBounds lo hi none n).1=((HT.bQ n 0 lo:Nat):Int)/\(sliceBounds lo hi none n).2.1=((HT.bQ n n hi:Nat):Int)/\(sliceBounds lo hi none n).2.2=1:=by
 refine⟨?_,?_,rfl⟩
 ·cases lo with
  |none=>simp[sliceBounds,HT.bQ]
  |some i=>
   simp only[sliceBounds,HT.bQ,Option.getD_none,show(1:Int) > 0 by decide,if_true]
   by_cases h:i < 0
   ·simp only[h,if_true] <;> omega
   ·simp only[h,A0] <;> omega
 ·cases hi with
  |none=>simp[sliceBounds,HT.bQ]
  |some i=>
   simp only[sliceBounds,HT.bQ,Option.getD_none,show(1:Int) > 0 by decide,if_true]
   by_cases h:i < 0
   ·simp only[h,if_true] <;> omega
   ·simp only[h,A0] <;> omega
theorem mY(au:List Value)(lo hi:Option Int):slicePick au.toArray lo hi none=((au.drop (HT.bQ au.length 0 lo)).take (HT.bQ au.length au.length hi - HT.bQ au.length 0 lo)).toArray:=by
 obtain⟨h1,h2,h3⟩:=iD lo hi au.toArray.size
 unfold slicePick
 rw[h1,h2,h3]
 simp only[sliceRange_one,pick_run,p4] <;> rfl
def LA(K:PySem.W.Frag):V->Option Int->Option Int->Hp->VK->Prop:=λ x lo hi H Q=>∃a xs,x=.ref a/\dN K H a xs/\∀p,H p=none->Q (.ref p) (upd H p (.lst (sV xs lo hi)))
theorem CN:wM X (LA X.K):=by
 intro pins s σ H x v vl vu lo hi sl Q I rx hs pl pu h
 obtain⟨a,xs,rfl,hx,q⟩:=h
 cases rx
 obtain⟨au,r,ht,hz⟩:=I.list hx
 have hlen:=r.length
 refine⟨"list",_,slot_list_getitem.lookup,ht.isList.typeIs,?_⟩
 refine wpAny_getItem_list_slice ht.isList hs pl pu .none (by simp) ?_ (by rw[p4] <;> omega)
 rw[mY,<- hlen]
 refine⟨.ref s.heap.objs.size,_,I.laid (t':=s.toks) (o:=.lst (sV xs lo hi)) (λ b ob q=>j1 _ q) (y9 _) ?_,rfl,q _ (I.a_.fresh (y9 _))⟩
 exact⟨y8 (jN xs lo hi) hz,_,0,(r.drop (HT.bQ xs.length 0 lo)).take (HT.bQ xs.length xs.length hi - HT.bQ xs.length 0 lo),l5 _ rfl⟩
def fO:V->Bool
 | .aZ=>true
 | .bl _=>true
 | .int _=>true
 | .str _=>true
 |_=>false
def Gm:V->V->Bool
 | .aZ,.aZ=>true
 | .bl a,.bl b=>a==b
 | .bl a,.int b=>(if a then 1 else 0)==b
 | .int a,.bl b=>a==(if b then 1 else 0)
 | .int a,.int b=>a==b
 | .str a,.str b=>a==b
 |_,_=>false
theorem Kf{A:Around}{s:Shared}{y x:V}{u v:Value}(ry:RelV y u)(rx:RelV x v)(fy:fO y=true)(fx:fO x=true):SeqAt.EqAt A s u v (Gm y x):=by
 cases y with
 |aZ=>
  cases ry
  cases x with
  |aZ=>cases rx;exact SeqAt.EqAt.same _
  |bl b=>cases rx;exact SeqAt.EqAt.none_bool b
  |int b=>obtain⟨t,rfl⟩:=rx;exact SeqAt.EqAt.none_int b t
  |str b=>obtain⟨t,rfl⟩:=rx;exact SeqAt.EqAt.none_str b t
  |_=>exact absurd (show false=true from fx) l7
 |bl a=>
  cases ry
  cases x with
  |aZ=>cases rx;exact SeqAt.EqAt.bool_none a
  |bl b=>cases rx;exact SeqAt.EqAt.bool_bool a b
  |int b=>obtain⟨t,rfl⟩:=rx;exact SeqAt.EqAt.bool_int a b t
  |str b=>obtain⟨t,rfl⟩:=rx;exact SeqAt.EqAt.bool_str a b t
  |_=>exact absurd (show false=true from fx) l7
 |int a=>
  obtain⟨t',rfl⟩:=ry
  cases x with
  |aZ=>cases rx;exact SeqAt.EqAt.int_none a t'
  |bl b=>cases rx;exact SeqAt.EqAt.int_bool a t' b
  |int b=>obtain⟨t,rfl⟩:=rx;exact SeqAt.EqAt.int_int a t' b t
  |str b=>obtain⟨t,rfl⟩:=rx;exact SeqAt.EqAt.int_str a t' b t
  |_=>exact absurd (show false=true from fx) l7
 |str a=>
  obtain⟨t',rfl⟩:=ry
  cases x with
  |aZ=>cases rx;exact SeqAt.EqAt.str_none a t'
  |bl b=>cases rx;exact SeqAt.EqAt.str_bool a t' b
  |int b=>obtain⟨t,rfl⟩:=rx;exact SeqAt.EqAt.str_int a t' b t
  |str b=>obtain⟨t,rfl⟩:=rx;exact SeqAt.EqAt.str_str a t' b t
  |_=>exact absurd (show false=true from fx) l7
 |_=>exact absurd (show false=true from fy) l7
def Fd(x:V)(u:Value):Bool:=match u with
 | .none=>Gm .aZ x
 | .bool b=>Gm (.bl b) x
 | .int i _=>Gm (.int i) x
 | .str z _=>Gm (.str z) x
 |_=>false
theorem BM{x y:V}{u:Value}(r:RelV y u)(f:fO y=true):Fd x u=Gm y x:=by
 cases y with
 |aZ=>cases r;rfl
 |bl b=>cases r;rfl
 |int i=>obtain⟨t,rfl⟩:=r;rfl
 |str z=>obtain⟨t,rfl⟩:=r;rfl
 |_=>exact absurd (show false=true from f) l7
theorem qA{x:V}:∀{xs:List V} {us:List Value},Vals xs us->xs.all fO=true->us.any (Fd x)=xs.any λ y=>Gm y x
 |_,_,.nil,_=>rfl
 |y::xs,u::us,.cons r t,f=>by
  rw[all_cons,q9]at f
  rw[any_cons,any_cons,BM r f.1,qA t f.2]
theorem lZ{A:Around}{s:Shared}{x:V}{v:Value}(rx:RelV x v)(fx:fO x=true):∀{xs:List V} {us:List Value},Vals xs us->xs.all fO=true->∀u∈us,SeqAt.EqAt A s u v (Fd x u)
 |_,_,.nil,_=>λ u hu=>by cases hu
 |y::xs,u::us,.cons r t,f=>λ u' hu=>by
  rw[all_cons,q9]at f
  rcases y1.mp hu with rfl|hu
  ·rw[BM r f.1];exact Kf r rx f.1 fx
  ·exact lZ rx fx t f.2 u' hu
def Gb(x:V)(xs:List V):Bool:=xs.any λ y=>Gm y x
def Tg(K:PySem.W.Frag)(neg:Bool):R2:=λ x y H Q=>∃p xs,y=.ref p/\(dN K H p xs\/fu K H p xs)/\fO x=true/\xs.all fO=true/\Q (.bl (if neg then !Gb x xs else Gb x xs)) H
theorem xE:dE X (compareOp .In) (Tg X.K false):=by
 intro pins s σ H x y v u Q I rx ry h
 obtain⟨p,xs,rfl,hq,fx,fs,q⟩:=h
 cases ry
 rcases hq with hq|hq
 ·obtain⟨au,r,pl,hz⟩:=I.list hq
  refine SeqAt.in_listAt (Fd x) pl.isList (λ w hw=>lZ rx fx r fs w (by simpa using hw)) ⟨.bl _,H,I,rfl,?_⟩
  rw[show au.toArray.any (Fd x)=au.any (Fd x) by simp,qA r fs]
  exact q
 ·obtain⟨au,r,pl,hz⟩:=I.tuple hq
  refine SeqAt.in_tupleAt (Fd x) pl (λ w hw=>lZ rx fx r fs w (by simpa using hw)) ⟨.bl _,H,I,rfl,?_⟩
  rw[show au.toArray.any (Fd x)=au.any (Fd x) by simp,qA r fs]
  exact q
theorem qx:cY X (.builtin "len") (λ xs H Q=>∃p ys,xs=[.ref p]/\(dN X.K H p ys\/fu X.K H p ys)/\Q (.int ys.length) H):=by
 intro pins s σ H xs us Q I r h
 obtain⟨p,ys,rfl,hq,q⟩:=h
 obtain⟨u,rfl,rx⟩:=vals1 r
 cases rx
 have hn:=jn
 rcases hq with hq|hq
 ·obtain⟨au,r',pl,hz⟩:=I.list hq
  have hlen:=r'.length
  exact Calls.call_len_list pl.isList (by simp only[p4] <;> omega) ⟨.int ys.length,H,I.tok _,⟨s.toks+1,by rw[p4,hlen]⟩,q⟩
 ·obtain⟨au,r',pl,hz⟩:=I.tuple hq
  have hlen:=r'.length
  exact len_tuple pl (by simp only[p4] <;> omega) ⟨.int ys.length,H,I.tok _,⟨s.toks+1,by rw[p4,hlen]⟩,q⟩
theorem qw:cY X (.builtin "len") (λ xs H Q=>∃z,xs=[.str z]/\z.length<=sizeLine/\Q (.int z.length) H):=by
 intro pins s σ H xs us Q I r h
 obtain⟨z,rfl,hz,q⟩:=h
 obtain⟨u,rfl,t,rfl⟩:=vals1 r
 have hn:=jn
 exact len_str (by omega) ⟨.int z.length,H,I.tok _,⟨_,rfl⟩,q⟩
theorem cY.or {f:Value}{r r':List V->Hp->VK->Prop}(h:cY X f r)(h':cY X f r'):cY X f (λ xs H Q=>r xs H Q\/r' xs H Q):=by
 intro pins s σ H xs us Q I rs q
 rcases q with q|q
 ·exact h pins s σ H xs us Q I rs q
 ·exact h' pins s σ H xs us Q I rs q
theorem qv:cY X (.type "list") (λ xs H Q=>∃p ys,xs=[.ref p]/\(dN X.K H p ys\/fu X.K H p ys)/\∀l,H l=none->Q (.ref l) (upd H l (.lst ys))):=by
 intro pins s σ H xs us Q I r h
 obtain⟨p,ys,rfl,hq,q⟩:=h
 obtain⟨u,rfl,rx⟩:=vals1 r
 cases rx
 have fin:∀(au:List Value),Vals ys au->ys.length<=sizeLine->∀(h':Heap) (c':Nat),(∀b o',s.heap.get? b=some o'->h'.get? b=some o')->
   h'.get? s.heap.objs.size=some {cls:=.type "list",dict:=none,data:=.seq au.toArray c',slots:=#[]}->EP X pins σ Q (.ref s.heap.objs.size) {s with heap:=h'}:=λ au r' hz h' c' kp e=>
  ⟨.ref s.heap.objs.size,_,I.laid (t':=s.toks) kp (y9 _) (show bA X.prog X.w _ h' _ (.lst ys)from⟨hz,au,c',r',e⟩),rfl,q _ (I.a_.fresh (y9 _))⟩
 rcases hq with hq|hq
 ·obtain⟨au,r',pl,hz⟩:=I.list hq
  have hlen:=r'.length
  obtain⟨o,ho,hc,n,hd⟩:=pl.isList
  exact call_list_seq p (.inl rfl) ho hc hd (λ h' c' kp e=>fin au r' hz h' c' kp e) (by simp only[p4] <;> omega)
 ·obtain⟨au,r',pl,hz⟩:=I.tuple hq
  have hlen:=r'.length
  obtain⟨o,ho,hc,n,hd⟩:=pl
  exact call_list_seq p (.inr rfl) ho hc hd (λ h' c' kp e=>fin au r' hz h' c' kp e) (by simp only[p4] <;> omega)
theorem nz:cY X (.type "tuple") (λ xs H Q=>∃p ys,xs=[.ref p]/\((dN X.K H p ys/\∀l,H l=none->Q (.ref l) (upd H l (.tup ys)))\/(fu X.K H p ys/\Q (.ref p) H))):=by
 intro pins s σ H xs us Q I r h
 obtain⟨p,ys,rfl,h⟩:=h
 obtain⟨u,rfl,rx⟩:=vals1 r
 cases rx
 rcases h with⟨hq,q⟩|⟨hq,q⟩
 ·obtain⟨au,r',pl,hz⟩:=I.list hq
  have hlen:=r'.length
  refine call_tuple_list pl.isList (λ h' kp=>?_) (by simp only[p4] <;> omega)
  have I1:Inv X pins σ H {s with heap:=h'}:=I.kept (t':=s.toks) kp
  have I2:Inv X pins σ (upd H h'.objs.size (.tup ys)) {s with heap:=h'.push {cls:=.type "tuple",data:=.seq au.toArray}}:=
   I1.laid (t':=s.toks) (λ b o e=>j1 _ e) (y9 _) (show bA X.prog X.w _ _ _ (.tup ys)from⟨hz,au,r',IsTup.new _ _⟩)
  exact⟨.ref h'.objs.size,_,I2,rfl,q _ (I1.a_.fresh (y9 _))⟩
 ·obtain⟨au,r',pl,hz⟩:=I.tuple hq
  exact call_tuple_same pl ⟨.ref p,H,I,rfl,q⟩
def Pe(K:PySem.W.Frag)(T:String)(x:V)(H:Hp):Prop:=match x with
 | .str _=>T="str"
 | .int _=>T="int"
 | .ref p=>(T="list"/\∃xs,dN K H p xs)\/(T="tuple"/\∃o,K.lookup p=some o/\o.cls=.type "tuple"/\o.dict=none)\/
   (T="dict"/\((∃aw,H p=some (.dK aw))\/∃aw,H p=some (.dT aw)))\/(T="set"/\∃S n,H p=some (.set S n))
 |_=>False
theorem GL{pins:List (Addr×Obj)}{σ:St}{H:Hp}{s:Shared}{T:String}{x:V}{v:Value}(I:Inv X pins σ H s)(r:RelV x v)(ty:Pe X.K T x H):
  s.TypeIs v T/\∀a,v=.ref a->∃ob,s.heap.get? a=some ob/\ob.dict=none:=by
 cases x with
 |str z=>
  obtain⟨t,rfl⟩:=r
  cases(show T="str" from ty)
  exact⟨typeIs_str s z t,λ _ e=>nomatch e⟩
 |int i=>
  obtain⟨t,rfl⟩:=r
  cases(show T="int" from ty)
  exact⟨typeIs_int s i t,λ _ e=>nomatch e⟩
 |ref p=>
  cases r
  rcases ty with⟨rfl,xs,hq⟩|⟨rfl,o,hk,hc,hd⟩|⟨rfl,hk⟩|⟨rfl,S,n,hk⟩
  ·obtain⟨au,_,pl,_⟩:=I.list hq
   refine⟨pl.isList.typeIs,λ a e=>?_⟩
   cases e
   obtain⟨o,n,e,c,hd,_⟩:=pl
   exact⟨o,e,hd⟩
  ·refine⟨⟨o,I.fV p o hk,hc⟩,λ a e=>?_⟩
   cases e
   exact⟨o,I.fV _ o hk,hd⟩
  ·have z:∃o,s.heap.get? p=some o/\o.ExactDict:=by
    rcases hk with⟨aw,hk⟩|⟨aw,hk⟩
    ·obtain⟨_,_,_,_,o,_,_,e,ex,_⟩:=I.a_ p _ hk
     exact⟨o,e,ex⟩
    ·obtain⟨_,_,_,_,o,_,_,e,ex,_⟩:=I.a_ p _ hk
     exact⟨o,e,ex⟩
   obtain⟨o,e,ex⟩:=z
   refine⟨⟨o,e,ex.1⟩,λ a e2=>?_⟩
   cases e2
   exact⟨o,e,ex.2.1⟩
  ·obtain⟨o,_,_,_,e,ex,_⟩:=I.a_ p _ hk
   refine⟨⟨o,e,ex.1⟩,λ a e2=>?_⟩
   cases e2
   exact⟨o,e,ex.2.1⟩
 |_=>exact False.elim ty
def S_(K:PySem.W.Frag)(T:String)(r:V->List V->Hp->VK->Prop)(to:TE)(t:TA):TE:=λ σ H Q=>to σ H λ x H1=>Pe K T x H1/\t σ H1 λ xs H2=>r x xs H2 Q
variable {o e:Expr}{es:List Expr}{to:TE}{t:TA}{name:Str}{apos bT:Pos}{T id:String}{r:V->List V->Hp->VK->Prop}
theorem F7(pa:PlainAttrs T)(slot:Slot T name id)(hty:typeOf (.builtin id)=pure (.type "method_descriptor"))(hm:RQ X id r)(ho:PE X o to)(ha:PA X (e::es) t)
  (hbase:attributeBase o name X.env (eval o X.env)=eval o X.env:=by rfl)
  (hfew:((backTo bT (starEach (e::es) X.env)).all (λ x=>!x.1)&&(backToKw bT (keywordEach [] X.env)).all (λ x=>x.1.isSome)
   &&decide ((e::es).length+([]:List Keyword).length+(if([]:List Keyword).isEmpty then 0 else 1) < 30))=true:=by rfl)
  (hline:(apos.endLine==bT.line)=true:=by rfl) (hs:starEach (e::es) X.env=(false,eval e X.env)::starEach es X.env:=by rfl) (hplain:(backTo bT (starEach es X.env)).any (·.1)=false:=by rfl):
  PE X (.Call (.Attribute o name apos) (e::es) [] bT) (S_ X.K T r to t):=by
 intro pins s σ H Q I h
 refine wpAny_Call_method_late hbase hfew hline rfl (ck (ho pins s σ H _ I h) λ v s1 ⟨x,H1,I1,r1,ty,q1⟩=>?_)
 obtain⟨h1,h2⟩:=GL I1 r1 ty
 refine⟨T,id,pa,slot,hty,h1,h2,?_⟩
 have hA:=ha bT pins s1 σ H1 _ I1 q1
 rw[hs]at hA ⊢
 refine Calls.callWith_builtin (by show(false||(backTo bT (starEach es X.env)).any (·.1))=false;rw[hplain] <;> rfl) (Calls.evalArgs_plain ?_)
 exact ck hA λ us s2 ⟨vs,H2,I2,r2,q2⟩=>hm pins s2 σ H2 x vs v us Q I2 r1 r2 q2
end
def V3(X:Cx)(id:String)(r:V->List V->Hp->VK->Prop):Prop:=
 ∀(pins:List (Addr×Obj)) (s:Shared) (σ:St) (H:Hp) (x:V) (xs:List V) (v:Value) (us:List Value) (Q:VK),Inv X pins σ H s->RelV x v->Vals xs us->r x xs H Q->
  wpAny (model X.prog X.w) X.A (call (.builtin id) (v::us)) (EP X pins σ Q) X.xe s
theorem Vals.one:∀{x:V} {us:List Value},Vals [x] us->∃u,us=[u]/\RelV x u
 |_,_,.cons r .nil=>⟨_,rfl,r⟩
theorem Vals.rep {xs:List V}{us:List Value}(h:Vals xs us):∀k:Nat,Vals (List.replicate k xs).flatten (List.replicate k us).flatten
 |0=>.nil
 |k+1=>by
  rw[l3,l3,n9,n9]
  exact Vals.append h (Vals.rep h k)
theorem foldl_rep(au:List Value):∀(k:Nat) (acc:List Value),
  List.foldl (λ x1 x2=>x1++x2) acc.toArray (List.replicate k au.toArray)=(acc++(List.replicate k au).flatten).toArray
 |0,acc=>by simp
 |k+1,acc=>by
  have e:acc.toArray++au.toArray=(acc++au).toArray:=by simp
  have e2:(acc++au)++(List.replicate k au).flatten=acc++(List.replicate (k+1) au).flatten:=by
   rw[l3,n9,append_assoc]
  rw[<- e2,<- foldl_rep au k (acc++au),<- e,l3,foldl_cons]
section
variable {X:Cx}{pins:List (Addr×Obj)}{σ:St}{H:Hp}{s:Shared}{l b:Addr}{xs ys zs:List V}
theorem Inv.Qj {au its':List Value}{n:Nat}{f:Array Value->Array Value}{t':Nat}(I:Inv X pins σ H s)(hH:H l=some (.lst xs))
  (e:s.heap.get? l=some {cls:=.type "list",data:=.seq au.toArray n}) (hf:f au.toArray=its'.toArray) (hv:Vals ys its') (hz:ys.length<=sizeLine):
  Inv X pins σ (upd H l (.lst ys)) {s with heap:=s.heap.update l (Obj.mapSeq f),toks:=t'}:=by
 have q:=PySem.IsL.update e f
 rw[hf]at q
 refine I.write (x:=l) (e:=l) (by rw[hH];exact trivial) (.inl rfl) (λ b' u hb hu=>(j2 s.heap (Obj.mapSeq f) (A2 hb)).trans hu) ⟨_,q⟩ ?_
 exact⟨hz,its',_,hv,q⟩
theorem Inv.Mx {au:List Value}{t':Nat}(I:Inv X pins σ H s)(hv:Vals ys au)(hz:ys.length<=sizeLine):
  Inv X pins σ (upd H s.heap.objs.size (.lst ys)) {s with heap:=s.heap.push {cls:=.type "list",data:=.seq au.toArray},toks:=t'}:=
 I.laid (λ _ _ q=>j1 _ q) (y9 _) ⟨hz,au,0,hv,l5 _ rfl⟩
theorem Inv.fresh (I:Inv X pins σ H s):H s.heap.objs.size=none:=I.a_.fresh (y9 _)
theorem Inv.Eu (I:Inv X pins σ H s)(hH:H l=some (.lst xs)):xs.length<=sizeLine/\∃(au:List Value) (n:Nat),Vals xs au/\xs.length=au.length/\s.heap.get? l=some {cls:=.type "list",data:=.seq au.toArray n}:=by
 obtain⟨z,au,n,r,e⟩:=I.a_ l _ hH
 exact⟨z,au,n,r,r.length,e⟩
theorem AA{n:Nat}(h:n<=sizeLine):Builtin.List.listTooLong n=false:=by
 unfold Builtin.List.listTooLong
 exact u4 (by omega)
end
section
variable {X:Cx}
def vH:V->List V->Hp->VK->Prop:=λ x vs H Q=>∃l xs y,x=.ref l/\vs=[y]/\H l=some (.lst xs)/\xs.length < sizeLine/\Q .aZ (upd H l (.lst (xs++[y])))
theorem xP:V3 X "list.append" vH:=by
 intro pins s σ H x vs v us Q I rx rv h
 obtain⟨l,xs,y,rfl,rfl,hH,hz,q⟩:=h
 cases rx
 obtain⟨u,rfl,ru⟩:=rv.one
 obtain⟨z,au,n,r,hl,e⟩:=I.Eu hH
 refine z8 F.slot_list_append ⟨_,e,rfl⟩ F.entry_list_append (F.args_list_append_2 _ _) (PySem.list_append l au.toArray n u (by rw[p4];omega)) ⟨e,?_⟩
 refine⟨.aZ,_,I.Qj (its':=au++[u]) hH e (by simp) (r.append (.cons ru .nil)) ?_,rfl,q⟩
 rw[l8,j5]
 omega
def PQ:R2:=λ x y H Q=>∃l b xs zs,x=.ref l/\y=.ref b/\H l=some (.lst xs)/\H b=some (.lst zs)/\xs.length+zs.length<=sizeLine/\∀p,H p=none->Q (.ref p) (upd H p (.lst (xs++zs)))
theorem Jb:dE X (binaryOp .Add) PQ:=by
 intro pins s σ H x y v u Q I rx ry h
 obtain⟨l,b,xs,zs,rfl,rfl,hH,hB,hz,q⟩:=h
 cases rx
 cases ry
 obtain⟨z,au,n,r,hl,e⟩:=I.Eu hH
 obtain⟨z2,AY,n2,r2,Q_,e2⟩:=I.Eu hB
 refine PySem.P.add_list e e2 ?_ (by rw[p4,p4];omega)
 have ea:au.toArray++AY.toArray=(au++AY).toArray:=by simp
 rw[ea]
 exact⟨.ref _,_,I.Mx (t':=s.toks) (r.append r2) (by rw[l8];omega),rfl,q _ I.fresh⟩
def PM:R2:=λ x y H Q=>∃l k xs,x=.ref l/\y=.int k/\H l=some (.lst xs)/\-(2^63)<=k/\k < 2^63/\xs.length*k.toNat<=sizeLine/\
 ∀p,H p=none->Q (.ref p) (upd H p (.lst (List.replicate k.toNat xs).flatten))
theorem len_rep{α:Type}(xs:List α)(k:Nat):(List.replicate k xs).flatten.length=k*xs.length:=by
 induction k with
 |zero=>simp
 |succ k ih=>rw[l3,n9,l8,ih,Nat.succ_mul,Nat.add_comm]
theorem IP:dE X (binaryOp .Mult) PM:=by
 intro pins s σ H x y v u Q I rx ry h
 obtain⟨l,k,xs,rfl,rfl,hH,h1,h2,hz,q⟩:=h
 cases rx
 obtain⟨t,rfl⟩:=ry
 obtain⟨z,au,n,r,hl,e⟩:=I.Eu hH
 have hlen:au.toArray.size*k.toNat<=sizeLine:=by rw[p4,<- hl];exact hz
 have Rk:¬au.toArray.size*k.toNat > (2^63 - 1) / 8:=by
  have:(sizeLine:Nat)<=(2^63 - 1) / 8:=by decide
  omega
 have M_:¬(!Builtin.List.listFitsIndex k)=true:=by
  rw[fitsIndex_both h1 h2]
  exact l7
 have MX:¬Builtin.List.listTooLong (au.toArray.size*k.toNat)=true:=by
  rw[AA hlen]
  exact l7
 have JS:List.foldl (λ x1 x2=>x1++x2) #[] (List.replicate (if au.toArray.isEmpty=true then 0 else k.toNat) au.toArray)=(List.replicate k.toNat au).flatten.toArray:=by
  have f0:∀m:Nat,List.foldl (λ x1 x2=>x1++x2) #[] (List.replicate m au.toArray)=(List.replicate m au).flatten.toArray:=λ m=>by
   have:=foldl_rep au m []
   rw[nil_append]at this
   exact this
  rw[f0]
  cases au with
  |nil=>simp
  |cons a r'=>rw[A4 (by simp)]
 refine wpAny_binaryOp_repeat_ref (T:="list") (U:="int") (by decide) ⟨_,e,rfl⟩ (λ s'=>typeIs_int s' k t) noFill_list_mul F.fills_int_mul F.slot_int_rmul repeat_list F.slot_int_index.lookup
  (z8 F.slot_int_rmul (typeIs_int s k t) F.entry_int_rmul (F.args_int_rmul_2 _ _) (int___rmul___int_list k t l au.toArray n)
   ⟨e,rfl,⟨_,e,rfl⟩,z8 F.slot_list_mul ⟨_,e,rfl⟩ F.entry_list_mul (F.args_list_mul_2 _ _) (AutoListH.list___mul___list_int_3 l au.toArray n k t M_ Rk MX) ⟨e,?_⟩⟩)
 rw[JS]
 exact⟨.ref _,_,I.Mx (t':=s.toks) (r.rep k.toNat) (by rw[len_rep,Nat.mul_comm];exact hz),rfl,q _ I.fresh⟩
end
section
variable {prog:Program}{w:World}{A:Around}{E:Value->Shared->Prop}{s:Shared}
set_option maxRecDepth 100000 in
end
end L2
namespace SW
open PySem PySem.W PySem.Calls PyProof.Rows
theorem jY{P:Params}{h:Heap}:∀(ns:List Int) (vs:List Value),WellAll P h vs (ns.map WData.int)->IntsAre vs ns:=by
 intro ns
 induction ns with
 |nil=>
  intro vs w
  rw[map_nil]at w
  cases w
  exact .nil
 |cons n ns ih=>
  intro vs w
  rw[y0]at w
  cases w with
  |cons a b=>
   cases a
   exact .cons _ _ (ih _ b)
theorem xg{l:OpenLaw}{n:Nat}(hn:l.most=some n){P:Params}{h:Heap}{args:List WData}{vals:List Value}
  (EW:l.row.toRowW.claim.pre args=true) (QF:WellAll P h vals args):
  ∃a vs ns,vals=[Value.ref a]/\args=[WData.list (ns.map WData.int)]/\h.get? a=some {cls:=.type "list",data:=.seq vs.toArray}/\IntsAre vs ns/\ns.length<=n:=by
 have T2:WShape.hasAll [] args [.list .int]=true:=(pre_splitW EW).1
 have hc:l.pre.holds [] {args:=args}=true:=(pre_splitW EW).2
 obtain⟨d,r,rfl,h1,h2⟩:=hasAllW_cons T2
 obtain rfl:=hasAllW_nil h2
 obtain⟨xs,rfl,h3⟩:=hasW_list h1
 obtain⟨ns,rfl⟩:=items_int h3
 have hlen:ns.length<=n:=by
  unfold OpenLaw.pre at hc
  have h4:(WTm.not (.lt (.lit (.int (n:Int))) (.len (.arg 0)))).holds [] {args:=[.list (ns.map .int)]}=true:=by
   have h4:=(holds_andW hc).1
   rw[hn]at h4
   exact h4
  have h5:=condW_of h4 (w_not (w_lt w_lit (w_len_list (w_arg rfl))))
  rw[w5]at h5
  refine p7 λ q=>?_
  have q':(n:Int) < ((ns.length:Nat):Int):=by omega
  first
   |(rw[x3 q']at h5;exact absurd h5 (by decide))
   |(simp at h5;omega)
 cases QF with
 |cons w1 w2=>
  cases w2
  cases w1 with
  |list ho Bz=>exact⟨_,_,ns,rfl,rfl,ho,jY ns _ Bz,hlen⟩
theorem xw(l:OpenLaw)(args:List WData):l.row.toRowW.claim.post args (.bool true) args=true:=
 postW_of (r:=l.row.toRowW) (X:=(true==true))
  (show WShape.has [] (.bool true) .bool=true by first|rfl|decide|simp[WShape.has,WShape.arms,WShape.armsAll])
  (show(WTm.eq .res (.lit (.bool true))).value [] {args:=args,res:=some (.bool true),after:=args}=some (.bool (true==true))from w_eq_bool (w_res rfl) w_lit) rfl
theorem tx{l:OpenLaw}{n:Nat}{q:Program}{loose:List Str}{XP:(Str->Option Value)->Heap->Prop}{YP:World->Heap->Prop}{d:DefRec}
  (hn:l.most=some n) (Bw:d.params.defaults=[])
  (call:∀(w:World) (s₀ s₁:Shared) (mg mb:Str->Option Value) (fa:Addr) (o:Obj) (pm cd doc:Value) (a:Addr) (vs:List Value) (ns:List Int),
   Ground q loose [] XP w s₀ mg mb s₁.heap->YP w s₁.heap->
   s₁.heap.get? fa=some o->o.data=.func (docDef d.name d.params d.body d.scope pm cd doc)->s₁.heap.CodeRec cd d.name->mg d.name=some (.ref fa)->
   s₁.heap.get? a=some {cls:=.type "list",data:=.seq vs.toArray}->IntsAre vs ns->ns.length<=n->s₁.gens=#[]->
   codeAny (model l.prog w) callerA (.call (.ref fa) ⟨[.ref a],[]⟩) (λ r s'=>r=.ok (.ret (.bool true))/\OldK s₁.heap s'.heap/\s'.os=s₁.os/\AllBare s'.gens) s₁):
  WalkO q loose XP YP l.row.toRowW d [] (λ f vs=>PySem.call f vs):=by
 intro w s₀ s₁ mg mb G Y fa o pm cd doc dV kV ho hd hcd hD MT hg args vals as EW Uh Wh QF Wl
 obtain rfl:dV=.none:=Dflts.none hD Bw
 obtain rfl:kV=.none:=Dflts.noKw hD
 obtain⟨a,vs,ns,rfl,rfl,Bm,hints,hlen⟩:=xg hn EW QF
 refine enter_call (codeAny_mono (call w s₀ s₁ mg mb fa o pm cd doc a vs ns G Y ho (fd_plain hd) hcd MT Bm hints hlen hg) λ r s' hq=>?_)
 obtain⟨rfl,h2,h3,h4⟩:=hq
 exact⟨.inl ⟨.bool true,.bool true,[],rfl,λ _=>rfl,.bool true,xw l _,λ _=>⟨List.Pairwise.nil,λ _ hm=>(nomatch hm)⟩⟩,h2,h3,h4⟩
end SW
namespace L2
open PySem PySem.Spec PyProof.Rows
theorem nK:∀{vs:List Value} {ns:List Int},IntsAre vs ns->Vals (ns.map V.int) vs
 |_,_,.nil=>.nil
 |_,_,.cons n t h=>.cons ⟨t,rfl⟩ (nK h)
def FG(H:Hp):Prop:=∀b,H b=none\/∃o xs,H b=some (.kM o (.lst xs))
theorem AM{P:Program}{w:World}{K:PySem.W.Frag}{mg mb:Str->Option Value}{CX:Cb}{k:Nat}{fa a:Addr}{fd:FuncData}{x:Str}{sp:Sp}{s₁:Shared}{vs:List Value}{ns:List Int}
  (KX:K.In s₁.heap) (KQ:s₁.heap.Ns mainGlobals mg) (hb:s₁.heap.Ns builtinsNs mb) (UD:∀x:Str,x≠"__name__"->mb x=bootBuiltins x) (Q9:s₁.heap.NoLimit) (hg:s₁.gens=#[])
  (ha:s₁.heap.get? a=some {cls:=.type "list",data:=.seq vs.toArray}) (hi:IntsAre vs ns) (hl:ns.length<=sizeLine) (hr:bC k callerA)
  (F:∀base:Heap,K.In base->base.Ns mainGlobals mg->bh P w K mg base CX k fa fd [x] sp) (Nd:∀(s:Shared) (u:Value),BindsTo s fd ⟨[u],[]⟩ [(x,u)])
  (Bi:∀H:Hp,FG H->dN K H a (ns.map V.int)->sp [.ref a] H (λ v _=>v=.bl true) λ _ _ _=>False)
  (Ro:∀H e s',CX [] H s₁ (λ _ _ _=>False) e s'->False):
  codeAny (model P w) callerA (.call (.ref fa) ⟨[.ref a],[]⟩) (λ r s'=>r=.ok (.ret (.bool true))/\OldK s₁.heap s'.heap/\s'.os=s₁.os/\AllBare s'.gens) s₁:=by
 have rv:=nK hi
 have Qm:=hi.length
 have core:∀H:Hp,FG H->dN K H a (ns.map V.int)->fw P w H s₁.heap->(∀b,H b≠none->b=a)->(H a≠none->K.lookup a=none)->
   codeAny (model P w) callerA (.call (.ref fa) ⟨[.ref a],[]⟩) (λ r s'=>r=.ok (.ret (.bool true))/\OldK s₁.heap s'.heap/\s'.os=s₁.os/\AllBare s'.gens) s₁:=by
  intro H hO hS a_ hA hK
  have wJ:∀{b:Addr} {o:Obj},s₁.heap.get? b=some o->H b=none->(qg s₁.heap H).get? b=some o:=λ e n=>Bu e n
  have Mt:∀{b:Addr} {o:Obj} {es:Array DictEntry} {ep:Nat},s₁.heap.get? b=some o->o.data=.dict es ep->H b=none:=λ{b o es ep} e d=>by
   cases q:H b with
   |none=>rfl
   |some u=>
    have e':b=a:=hA b (by rw[q];simp)
    subst e'
    rw[ha]at e;cases e
    have d':Data.seq vs.toArray _=Data.dict es ep:=d
    cases d'
  have ON:∀{b:Addr} {m:Str->Option Value},s₁.heap.Ns b m->(qg s₁.heap H).Ns b m:=λ{b m} ⟨o,es,ep,e,d,r⟩=>⟨o,es,ep,wJ e (Mt e d),d,r⟩
  have Sx:K.In (qg s₁.heap H):=λ b o e=>wJ (KX b o e) (by
   cases q:H b with
   |none=>rfl
   |some u=>
    have e':b=a:=hA b (by rw[q];simp)
    subst e'
    rw[hK (by rw[q];simp)]at e;cases e)
  have hM:Mod K mg (qg s₁.heap H):=⟨Sx,ON KQ,⟨mb,ON hb,UD⟩,let⟨mc,h1,h2⟩:=Q9;⟨mc,ON h1,h2⟩⟩
  have e0:mT P w K mg (qg s₁.heap H) callerA [] s₁ H:=⟨rfl,hM,λ b o e=>Eh e,Nat.le_of_eq (x_ _ _),trivial,λ b hb=>absurd (show b∈([]:List Addr)from hb) (by simp),a_,.of_eq hg⟩
  refine codeAny_mono ((F _ Sx (ON KQ)).run callerA [] s₁ H ⟨[.ref a],[]⟩ [.ref a] [.ref a] _ _ hr e0 (Nd s₁ (.ref a)) (.cons rfl .nil) (Bi H hO hS)) λ r s' h=>?_
  cases r with
  |error e=>exact(Ro H e s' h).elim
  |ok fl=>
   cases fl with
   |next=>exact False.elim h
   |brk=>exact False.elim h
   |cont=>exact False.elim h
   |ret u=>
    obtain⟨v,H',os,bare,un,QY,r',q⟩:=h
    have q':v=.bl true:=q
    subst q'
    obtain rfl:u=Value.bool true:=r'
    refine⟨rfl,OldK.of_keep λ b o e=>?_,os,bare⟩
    cases q:H b with
    |none=>exact un.keep b o e q (by intro z;exact absurd (show b∈([]:List Addr)from z) (by simp)) (by simp)
    |some u=>
     rcases hO b with z|⟨ob,xs,z⟩
     ·rw[q]at z;cases z
     ·have z2:=un.eT b ob _ z
      obtain⟨e1,_⟩:=a_ b _ z
      obtain⟨e2,_⟩:=QY b _ z2
      rw[e]at e1;cases e1
      exact e2
 cases hk:K.lookup a with
 |some o=>
  have e:=KX a o hk
  rw[ha]at e
  cases e
  refine core (λ _=>none) (λ _=>.inl rfl) (.inr ⟨_,vs.toArray,_,hk,rfl,rfl,rfl,by rw[p4,Qm];exact hl,by simpa using rv⟩) (λ b u z=>by have z':(none:Option HO)=some u:=z;cases z') (λ b z=>absurd rfl z) λ z=>absurd rfl z
 |none=>
  refine core (λ b=>if b=a then some (.kM {cls:=.type "list",data:=.seq vs.toArray} (.lst (ns.map V.int)))else none) (λ b=>?_) (.inl (.inr ⟨{cls:=.type "list",data:=.seq vs.toArray},A3 rfl⟩)) (λ b u z=>?_) (λ b z=>?_) λ _=>hk
  ·by_cases hb:b=a
   ·exact .inr ⟨_,_,A3 hb⟩
   ·exact .inl (A4 hb)
  ·by_cases hb:b=a
   ·have z':=(A3 hb).symm.trans z
    cases z'
    subst hb
    exact⟨ha,by rw[w5];exact hl,vs,_,rv,ha⟩
   ·have z':=(A4 hb).symm.trans z
    cases z'
  ·by_cases hb:b=a
   ·exact hb
   ·exact absurd (A4 hb) z
theorem Cy{l:PySem.W.OpenLaw}{n k:Nat}{q:Program}{loose:List Str}{XP:(Str->Option Value)->Heap->Prop}{YP:World->Heap->Prop}{d:DefRec}{K:Params->PySem.W.Frag}{CX:World->Cb}{sp:World->Sp}{x:Str}
  (hn:l.most=some n) (T9:n<=sizeLine) (Bw:d.params.defaults=[]) (hr:bC k callerA)
  (hY:∀(w:World) (h:Heap),YP w h->(K w.params).In h)
  (F:∀(w:World) (mg:Str->Option Value) (fa:Addr) (h:Heap),(K w.params).In h->h.Ns mainGlobals mg->mg d.name=some (.ref fa)->
   ∃fd:FuncData,(∀(s:Shared) (u:Value),BindsTo s fd ⟨[u],[]⟩ [(x,u)])/\
    ∀base:Heap,(K w.params).In base->base.Ns mainGlobals mg->bh l.prog w (K w.params) mg base (CX w) k fa fd [x] (sp w))
  (Bi:∀(w:World) (H:Hp) (a:Addr) (ns:List Int),ns.length<=n->FG H->dN (K w.params) H a (ns.map V.int)->sp w [.ref a] H (λ v _=>v=.bl true) λ _ _ _=>False)
  (Ro:∀(w:World) (H:Hp) (s:Shared) (e:Value) (s':Shared),CX w [] H s (λ _ _ _=>False) e s'->False):
  PySem.W.WalkO q loose XP YP l.row.toRowW d [] (λ f vs=>PySem.call f vs):=by
 refine SW.tx hn Bw λ w s₀ s₁ mg mb fa o pm cd doc a vs ns G Y ho hd hcd MT Bm hints hlen hg=>?_
 have KX:=hY w _ Y
 obtain⟨fd,hb,hF⟩:=F w mg fa _ KX G.T.g MT
 exact AM KX G.T.g G.T.b G.T.builtins G.T.nolimit hg Bm hints (y8 hlen T9) hr hF hb (λ H hO hS=>Bi w H a ns hlen hO hS) λ H e s'=>Ro w H s₁ e s'
def dM(s:Stmt):Arguments:=match s with
 | .FunctionDef _ a _ _ _ _ _ _ _ _=>a
 |_=>{posonlyargs:=[],args:=[],vararg:=none,kwonlyargs:=[],kw_defaults:=[],kwarg:=none,defaults:=[]}
def cb(s:Stmt):List Stmt:=match s with
 | .FunctionDef _ _ b _ _ _ _ _ _ _=>b
 |_=>[]
def aj(s:Stmt):Scope:=match s with
 | .FunctionDef _ _ _ _ _ _ sc _ _ _=>sc
 |_=>{kind:=.function,names:=[],isGenerator:=false,isCoroutine:=false}
abbrev eO:Cb:=λ _ _ _ _ _ _=>False
abbrev E0:XK:=λ _ _ _=>False
theorem L9{X:Cx}:Passes eO X E0:=λ _ _ _ _ _ _ _ h=>h.elim
structure eN(K:PySem.W.Frag)(x qual:Str)(st:Stmt)(f:Addr)(fd:FuncData):Prop where
 ex:∃(oc:Value) (od:Option Addr) (kV doc pm:Value) (an:Option Addr) (bW ct:Value) (xB:Array (Option Value)),
  fd=PySem.W.fnOf x qual (dM st) (cb st) (aj st) .none kV doc pm an bW ct/\K.lookup f=some ⟨oc,od,.func fd,xB⟩/\PySem.W.codeIn K bW qual=true
 kp:PySem.W.keepIn K (.ref f)=true
section
variable {P:Program}{w:World}{K:PySem.W.Frag}{mg:Str->Option Value}{base:Heap}
theorem eN.ok {x qual:Str}{st:Stmt}{f:Addr}{fd:FuncData}{N ps:List Str}{k:Nat}{sp:Sp}(F:eN K x qual st f fd)(S:aI N ps (aj st))(len:∀vs H Q E,sp vs H Q E->vs.length=ps.length)
  (fg:∀(bW:Value) (A:Around) (outer:List Env) (s:Shared) (H:Hp) (vs:List V) (Q:VK) (E:XK),bC k (A.deeper (envOfC qual (aj st) s.heap.objs.size f bW))->sp vs H Q E->
   ∃t,nF (nv eO P w K mg base N qual (aj st) f bW A outer s H E).vR (cb st) t/\t {nx:=λ _ H'=>Q .aZ H',rt:=Q} (start N vs) H):bh P w K mg base eO (k+1) f fd ps sp:=by
 obtain⟨oc,od,kV,doc,pm,an,bW,ct,xB,rfl,lk,hcd⟩:=F.ex
 refine Gh lk hcd S len λ A outer s H vs Q E hr Bi=>?_
 obtain⟨t,h,q⟩:=fg bW A outer s H vs Q E hr Bi
 exact⟨t,h.vR,q⟩
theorem eN.binds {x qual:Str}{st:Stmt}{f:Addr}{fd:FuncData}{ps:List Str}(F:eN K x qual st f fd)
  (h:∀(kV doc pm:Value) (an:Option Addr) (bW ct:Value) (us:List Value),us.length=ps.length->bindArgs (PySem.W.fnOf x qual (dM st) (cb st) (aj st) .none kV doc pm an bW ct) ⟨us,[]⟩=pure (ps.zip us)):Binds K fd ps []:=by
 obtain⟨oc,od,kV,doc,pm,an,bW,ct,xB,rfl,lk,hcd⟩:=F.ex
 exact .all (h kV doc pm an bW ct)
theorem BE{x qual:Str}{st:Stmt}{f:Addr}{oc:Value}{od an:Option Addr}{xB:Array (Option Value)}{kV doc pm bW ct:Value}(l:K.lookup f=some ⟨oc,od,.func (PySem.W.fnOf x qual (dM st) (cb st) (aj st) .none kV doc pm an bW ct),xB⟩)
  (c:PySem.W.codeIn K bW qual=true) (k:PySem.W.keepIn K (.ref f)=true):eN K x qual st f (PySem.W.fnOf x qual (dM st) (cb st) (aj st) .none kV doc pm an bW ct):=⟨⟨oc,od,kV,doc,pm,an,bW,ct,xB,rfl,l,c⟩,k⟩
end
section
variable {X:Cx}
theorem pv(i:Nat){x:Str}{pos:Pos}(hN:X.N[i]?=some x:=by rfl)(hv:N6 X.env.scope x:=by first|exact Or.inl rfl|exact Or.inr (Or.inl rfl)|exact Or.inr (Or.inr rfl))(hd:(x==("__debug__":Str))=false:=by decide)
  (hcd:(x==("__classdict__":Str))=false:=by decide):PE X (.Name x pos) (yY i):=Ah hN hv hd hcd
end
end L2
namespace L2
open PySem PySem.Spec PyProof.Rows
section
variable {X:Cx}{pins:List (Addr×Obj)}{σ:St}{H:Hp}{s:Shared}
theorem Inv.vn {D:Addr}{o:HO}(I:Inv X pins σ H s)(hn:H D=none)(new:bA X.prog X.w (upd H D o) s.heap D o)
  (hL:D≠X.env.locals) (hs:X.s₀.heap.objs.size<=D) (hc:∀x c,X.env.cells.lookup x=some c->c≠D) (hp:∀p∈X.pn++pins,p.1≠D):Inv X pins σ (upd H D o) s:=by
 have ne:∀{b:Addr} {u:HO},H b=some u->b≠D:=λ e=>bZ e hn
 have nb:∀(b:Addr) (ob:Obj),X.s₀.heap.get? b=some ob->b≠D:=λ b ob e=>y3 (m7 (y4 e) hs)
 refine⟨I.ok,I.os,I.bare,⟨I.base.keep,I.base.slot,λ b ob e n hx=>?_,I.base.there,λ b xs e=>?_,λ b ob u e=>?_,λ b ps e=>?_⟩,I.loc,I.cell,?_,λ x c e=>?_,λ p MM=>?_,λ b u e=>?_,I.len⟩
 ·rw[az (nb b ob e)];exact I.base.free b ob e n hx
 ·have q:=I.base.eZ b xs e;rw[az (ne q)];exact q
 ·have q:=I.base.eT b ob u e;rw[az (ne q)];exact q
 ·obtain⟨m,q⟩:=I.base.fE b ps e;exact⟨m,by rw[az (ne q)];exact q⟩
 ·rw[az (A2 hL)];exact I.free
 ·rw[az (hc x c e)];exact I.d_ x c e
 ·obtain⟨e,n,r⟩:=I.pin p MM;exact⟨e,by rw[az (hp p MM)];exact n,r⟩
 ·by_cases hb:b=D
  ·subst hb;rw[aS]at e;cases e;exact new
  ·rw[az hb]at e
   exact(I.a_ b u e).dU (λ c v _ q=>q) (λ c q=>by rw[az (ne q)];exact q) λ c xs q=>by rw[az (ne q)];exact q
end
def dD(cells:List (Str×Addr)):List (Str×NameKind)->List (Str×Addr)->List (Str×Addr)
 |[],acc=>acc
 |(n,k)::r,acc=>if(k==.free)=true then dD cells r ((n,(cells.lookup n).getD 0)::acc)else dD cells r acc
theorem ig{cells:List (Str×Addr)}:∀(names:List (Str×NameKind)) (acc:List (Str×Addr)),(∀n,(n,NameKind.free)∈names->∃c,cells.lookup n=some c)->
  (∀x c,acc.lookup x=some c->cells.lookup x=some c)->∀x c,(dD cells names acc).lookup x=some c->cells.lookup x=some c
 |[],acc,_,h,x,c,e=>h x c e
 |(n,k)::r,acc,hc,h,x,c,e=>by
  unfold dD at e
  by_cases hk:(k==NameKind.free)=true
  ·rw[A3 hk]at e
   refine ig r _ (λ m hm=>hc m (j9 _ hm)) (λ y d q=>?_) x c e
   have E1:k=NameKind.free:=by simpa using hk
   obtain⟨c0,e0⟩:=hc n (by rw[E1];exact l6)
   rw[p6]at q
   cases hy:(y==n)with
   |true=>
    rw[hy]at q
    have yn:y=n:=by simpa using hy
    subst yn
    rw[e0]at q
    rw[e0];exact q
   |false=>rw[hy]at q;exact h y d q
  ·rw[A4 hk]at e
   exact ig r _ (λ m hm=>hc m (j9 _ hm)) h x c e
theorem gy{cells:List (Str×Addr)}{x:Str}:∀(names:List (Str×NameKind)) (acc:List (Str×Addr)),((acc.lookup x).isSome=true)->((dD cells names acc).lookup x).isSome=true
 |[],acc,h=>h
 |(n,k)::r,acc,h=>by
  unfold dD
  split
  ·refine gy r _ ?_
   rw[p6]
   cases hy:(x==n)with
   |true=>rfl
   |false=>exact h
  ·exact gy r _ h
theorem js{cells:List (Str×Addr)}{x:Str}:∀(names:List (Str×NameKind)) (acc:List (Str×Addr)),(x,NameKind.free)∈names->((dD cells names acc).lookup x).isSome=true
 |[],acc,h=>absurd h (by simp)
 |(n,k)::r,acc,h=>by
  unfold dD
  rcases y1.mp h with e|h
  ·cases e
   rw[A3 (by decide)]
   refine gy r _ ?_
   rw[p6]
   simp
  ·split
   ·exact js r _ h
   ·exact js r _ h
theorem fm{scope:Scope}{env:Env}(hc:∀n,(n,NameKind.free)∈scope.names->∃c,env.cells.lookup n=some c):closureFor scope env=pure (dD env.cells scope.names []):=by
 unfold closureFor
 have all:∀(names:List (Str×NameKind)) (acc:List (Str×Addr)),(∀n,(n,NameKind.free)∈names->∃c,env.cells.lookup n=some c)->
   (forIn names acc (λ(x:Str×NameKind) (cs:List (Str×Addr))=>(match x with|(name,kind)=>if(kind==.free)=true then(do let c <- cellOf env name;pure (ForInStep.yield ((name,c)::cs)))else pure (ForInStep.yield cs):Sem (ForInStep (List (Str×Addr))))))=(pure (dD env.cells names acc):Sem (List (Str×Addr))):=by
  intro names
  induction names with
  |nil=>intro acc _;rfl
  |cons y r ih=>
   intro acc hc
   obtain⟨n,k⟩:=y
   rw[forIn_cons]
   unfold dD
   dsimp only
   by_cases hk:(k==NameKind.free)=true
   ·rw[A3 hk,A3 hk]
    have E1:k=NameKind.free:=by simpa using hk
    obtain⟨c0,e0⟩:=hc n (by rw[E1];exact l6)
    unfold cellOf
    rw[e0]
    exact ih _ λ m hm=>hc m (j9 _ hm)
   ·rw[A4 hk,A4 hk]
    exact ih _ λ m hm=>hc m (j9 _ hm)
 have q:=all scope.names [] hc
 refine Eq.trans ?_ (A1 (λ m=>m >>= pure) q)
 rfl
theorem lJ{env:Env}:∀{names:List (Str×NameKind)} {x:Str},names.lookup x=some .free->
  (names.map λ(n,k)=>if(k==NameKind.free&&env.scope.kind==.function&&env.kindOf n==some .cell)then(n,NameKind.cell)else(n,k)).lookup x=some .cell\/
  (names.map λ(n,k)=>if(k==NameKind.free&&env.scope.kind==.function&&env.kindOf n==some .cell)then(n,NameKind.cell)else(n,k)).lookup x=some .free
 |[],_,h=>by simp at h
 |(n,k)::r,x,h=>by
  have ih:=@lJ env r x
  rw[y0]
  dsimp only
  cases hx:x==n with
  |true=>
   rw[p6,hx]at h
   have h':k=NameKind.free:=by simpa using h
   subst h'
   split
   ·left;rw[p6,hx]
   ·right;rw[p6,hx]
  |false=>
   rw[p6,hx]at h
   have ih:=ih h
   split
   ·rw[p6,hx];exact ih
   ·rw[p6,hx];exact ih
theorem qr{prog:Program}{w:World}{A:Around}{R:Result->Shared->Prop}{s:Shared}{elt target iter:Expr}{ifs:List Expr}{scope:Scope}{pos:Pos}{it acc:Value}{env:Env}(I:Nat->Shared->Prop)
  (turn:∀n s,I n s->wpAny (model prog w) A (pyNext it) (λ r s1=>match r with
   |none=>R (.ok .next) s1
   |some v=>wpAny (model prog w) A (letOwnedTupleGo target it v) (λ _ s2=>wpAny (model prog w) A (assign target env v) (λ _ s3=>
     wpAny (model prog w) A (forIn ifs true λ c r=>if r=true then do let ok <- isTrue c env (eval c env);pure (ForInStep.yield ok)else pure (ForInStep.yield r)) (λ ok s4=>
      if ok=true then wpAny (model prog w) A (eval elt env) (λ x s5=>
       wpAny (model prog w) A (call (.builtin "list.append") [acc,x]) (λ _ s6=>∃m,m < n/\I m s6) (λ _ _=>False) s5) (λ _ _=>False) s4
      else ∃m,m < n/\I m s4) (λ _ _=>False) s3) (λ _ _=>False) s2) (λ _ _=>False) s1) (λ _ _=>False) s)
  (n:Nat) (h:I n s):
  codeAny (model prog w) A (.compLoop (.ListComp elt [⟨target,iter,ifs,0⟩] scope pos) 0 it acc env) R s:=by
 refine codeAny_loop rfl I (λ n s hI=>?_) n h
 show wpAny _ A ((compTurn (.ListComp elt [⟨target,iter,ifs,0⟩] scope pos) 0 it acc env).onRaise (λ x=>do noteFrame x env;theTreesLotGoes x)) _ _ s
 refine wpAny_noted ?_
 rw[compTurn_list]
 refine wpAny_noRaise (z6 (wpAny_standAt (z6 (z9 (turn n s hI) (λ r s1 h1=>?_) λ _ _ h'=>h'))))
 cases r with
 |none=>exact z7 h1
 |some v=>
  refine z6 (z9 h1 (λ _ s2 h2=>?_) λ _ _ h'=>h')
  refine z6 (z9 h2 (λ _ s3 h3=>z6 (z9 h3 (λ ok s4 h4=>?_) λ _ _ h'=>h')) λ _ _ h'=>h')
  cases ok with
  |false=>exact z7 ⟨rfl,h4⟩
  |true=>
   exact z6 (z6 (z9 h4 (λ x s5 h5=>z6 (z9 h5 (λ _ s6 h6=>z7 (z7 ⟨rfl,h6⟩)) λ _ _ h'=>h')) λ _ _ h'=>h'))
end L2
namespace L2
open PySem PySem.Spec PyProof.Rows
def bE(X:Cx)(scope:Scope)(cl:List (Str×Addr))(tgs:List Str)(fr:List Nat)(C:Addr)(fp:List Addr)(s:Shared)(H:Hp):Cx:=
 {X with N:=tgs++fr.map (λ j=>X.N.getD j ""),s₀:=s,H₀:=H,env:=compEnvC scope cl C X.env,outer:=X.stack,ex:=fp,fn:=λ x=>scope.names.lookup x==some .cell,pn:=[]}
def eL(n:Nat)(fr:List Nat)(σ:St):St:=List.replicate n none++fr.map (λ j=>σ.getD j none)
structure Cc(X:Cx)(scope:Scope)(C:Addr)(h1:Heap)(cl:List (Str×Addr)):Prop where
 look:∀x c,cl.lookup x=some c->X.env.cells.lookup x=some c\/(C < c/\h1.IsCell c none)
 inj:∀x y c,cl.lookup x=some c->cl.lookup y=some c->x=y
 has:∀x,(x,NameKind.free)∈scope.names\/(x,NameKind.cell)∈scope.names->∃c,cl.lookup x=some c
 UW:∀x c,scope.names.lookup x=some .free->cl.lookup x=some c->X.env.cells.lookup x=some c
 own:∀x c,scope.names.lookup x=some .cell->cl.lookup x=some c->C < c
structure i_(X:Cx)(scope:Scope)(fr:List Nat):Prop where
 kind:scope.kind=.function
 cells:∀y∈scope.names,y.2=.cell->scope.names.lookup y.1=some .cell
 names:∀y∈scope.names,y.2=.local->scope.names.lookup y.1=some .local
 has:∀n,(n,NameKind.free)∈scope.names->X.env.kindOf n=some .cell\/X.env.kindOf n=some .free
 fr:∀j∈fr,j < X.N.length/\scope.names.lookup (X.N.getD j "")=some .free
def mR(n:Nat)(g:TG):Prop:=∀x σ H Q,g x σ H Q->g x σ H λ σ2 H2=>Q σ2 H2/\σ2.length=σ.length/\∀k,n<=k->σ2[k]?=σ[k]?
theorem E6{n i:Nat}(h:i < n):mR n (iR i):=λ x σ H Q q=>⟨q,by simp,λ k hk=>by rw[getElem?_set_ne (by omega)]⟩
def K0(X:Cx)(ifs:List Expr)(t:TT):Prop:=
 ∀(pins:List (Addr×Obj)) (s:Shared) (σ:St) (H:Hp) (Q:Bool->Hp->Prop),Inv X pins σ H s->t σ H Q->
  wpAny (model X.prog X.w) X.A (forIn ifs true λ c r=>if r=true then do let ok <- isTrue c X.env (eval c X.env);pure (ForInStep.yield ok)else pure (ForInStep.yield r)) (TP X pins σ Q) X.xe s
def Ph:TT:=λ _ H Q=>Q true H
theorem DX{X:Cx}:K0 X [] Ph:=λ _ s σ H Q I h=>wpAny_tests_nil ⟨H,I,h⟩
theorem DW{X:Cx}{c:Expr}{t:TT}(h:PT X c t):K0 X [c] t:=λ pins s σ H Q I q=>wpAny_tests_one (h pins s σ H Q I q)
def nP(wi:TI)(g:TG)(tt:TT)(te:TE)(n:Nat)(fr:List Nat):TE:=λ σ H Q=>wi σ H λ J H1=>∃W:Nat->Nat->List V->Hp->Prop,(∃m,W 0 m [] H1)/\∀i m acc H,W i m acc H->
 acc.length<=sizeLine/\((J.stop i H/\∀p,H p=none->Q (.ref p) (upd H p (.lst acc)))\/
  (J.go i H/\∃N:List V->Hp->Prop,(∀B5 H',N B5 H'->∃m',m' < m/\W (i+1) m' B5 H')/\∀x H',J.Cr i H x H'->g x (eL n fr σ) H' λ σ2 H2=>tt σ2 H2 λ b H3=>if b=true then te σ2 H3 λ y H4=>N (acc++[y]) H4 else N acc H3))
theorem gh{env:Env}:∀{names:List (Str×NameKind)} {x:Str} {k0:NameKind},
  (names.map λ(n,k)=>if(k==NameKind.free&&env.scope.kind==.function&&env.kindOf n==some .cell)then(n,NameKind.cell)else(n,k)).lookup x=some k0->(k0=.cell\/k0=.free)->(x,NameKind.free)∈names\/(x,NameKind.cell)∈names
 |[],_,_,h,_=>by simp at h
 |(n,k)::r,x,k0,h,hk=>by
  have ih:=@gh env r x k0
  rw[y0]at h
  dsimp only at h
  cases hx:x==n with
  |true=>
   have xn:x=n:=by simpa using hx
   subst xn
   by_cases Nb:(k==NameKind.free&&env.scope.kind==.function&&env.kindOf x==some .cell)=true
   ·have:k=NameKind.free:=by
     have:=(q9 _ _).mp Nb
     have:=(q9 _ _).mp this.1
     simpa using this.1
    subst this
    exact .inl l6
   ·rw[A4 Nb,p6,hx]at h
    have h':k=k0:=by simpa using h
    subst h'
    rcases hk with e|e
    ·subst e;exact .inr l6
    ·subst e;exact .inl l6
  |false=>
   have z:(x,NameKind.free)∈r\/(x,NameKind.cell)∈r:=by
    refine ih ?_ hk
    split at h
    ·rw[p6,hx]at h;exact h
    ·rw[p6,hx]at h;exact h
   exact z.imp (j9 _) (j9 _)
theorem gI{x n:Str}{a:Addr}{acc:List (Str×Addr)}{c:Addr}(h:((n,a)::acc).lookup x=some c):(x=n/\c=a)\/(x≠n/\acc.lookup x=some c):=by
 rw[p6]at h
 cases e:x==n with
 |true=>rw[e]at h;exact .inl ⟨by simpa using e,(u7 h).symm⟩
 |false=>rw[e]at h;exact .inr ⟨by simpa using e,h⟩
set_option tactic.hygienic true in
theorem qu:∀(names:List (Str×NameKind)) (h:Heap) (acc:List (Str×Addr)) (x:Str) (c:Addr),(cellsFrom h.objs.size names acc).lookup x=some c->acc.lookup x=some c\/(h.objs.size<=c/\(pushCells h names).IsCell c none)
 |[],_,_,_,_,e=>.inl e
 |(n,k)::r,h,acc,x,c,e=>by
  unfold cellsFrom at e
  unfold pushCells
  split at e
  ·rename_i hk
   rw[A3 hk]
   have sz:=x4 h {cls:=.type "cell",data:=.cell none}
   rw[<- sz]at e
   rcases qu r _ _ x c e with z|z
   ·rcases gI z with⟨_,q⟩|⟨_,q⟩
    ·subst q
     exact .inr ⟨y9 _,_,pushCells_keeps r _ _ _ (l5 _ rfl),rfl⟩
    ·exact .inl q
   ·exact .inr ⟨by have:=z.1;rw[sz]at this;omega,z.2⟩
  ·rename_i hk
   rw[A4 hk]
   exact qu r h acc x c e
theorem uZ:∀(names:List (Str×NameKind)) (n:Nat) (acc:List (Str×Addr)),(∀x c,acc.lookup x=some c->c < n)->(∀x y c,acc.lookup x=some c->acc.lookup y=some c->x=y)->∀x y c,(cellsFrom n names acc).lookup x=some c->(cellsFrom n names acc).lookup y=some c->x=y
 |[],_,_,_,hi=>hi
 |(m,k)::r,n,acc,lt,hi=>by
  unfold cellsFrom
  split
  ·refine uZ r (n+1) _ (λ x c e=>?_) (λ x y c e1 e2=>?_)
   ·rcases gI e with⟨_,q⟩|⟨_,q⟩
    ·rw[q];exact Nat.lt_succ_self n
    ·exact Nat.lt_succ_of_lt (lt x c q)
   ·rcases gI e1 with⟨a1,q1⟩|⟨a1,q1⟩ <;> rcases gI e2 with⟨a2,q2⟩|⟨a2,q2⟩
    ·rw[a1,a2]
    ·exact absurd (q1▸lt y c q2) (x9 _)
    ·exact absurd (q2▸lt x c q1) (x9 _)
    ·exact hi x y c q1 q2
  ·exact uZ r n acc lt hi
theorem kQ{x:Str}:∀(names:List (Str×NameKind)) (n:Nat) (acc:List (Str×Addr)),(∃c,acc.lookup x=some c)->∃c,(cellsFrom n names acc).lookup x=some c
 |[],_,_,h=>h
 |(m,k)::r,n,acc,⟨c,h⟩=>by
  unfold cellsFrom
  split
  ·refine kQ r _ _ ?_
   rw[p6]
   cases x==m with
   |true=>exact⟨_,rfl⟩
   |false=>exact⟨c,h⟩
  ·exact kQ r n acc ⟨c,h⟩
theorem u_{x:Str}:∀(names:List (Str×NameKind)) (n:Nat) (acc:List (Str×Addr)),(x,NameKind.cell)∈names->∃c,(cellsFrom n names acc).lookup x=some c
 |[],_,_,h=>absurd h (by simp)
 |(m,k)::r,n,acc,h=>by
  unfold cellsFrom
  rcases y1.mp h with e|h
  ·cases e
   rw[A3 (by decide)]
   exact kQ r _ _ ⟨n,by rw[p6];simp⟩
  ·split
   ·exact u_ r _ _ h
   ·exact u_ r _ _ h
set_option tactic.hygienic true in
theorem va{x:Str}:∀(names:List (Str×NameKind)) (n:Nat) (acc:List (Str×Addr)),(x,NameKind.cell)∉names->(cellsFrom n names acc).lookup x=acc.lookup x
 |[],_,_,_=>rfl
 |(m,k)::r,n,acc,h=>by
  unfold cellsFrom
  split
  ·rename_i hk
   rw[va r _ _ λ z=>h (j9 _ z),p6]
   cases e:x==m with
   |false=>rfl
   |true=>
    have e1:x=m:=by simpa using e
    have e2:k=.cell:=by simpa using hk
    subst e1 e2
    exact absurd l6 h
  ·exact va r n acc λ z=>h (j9 _ z)
set_option tactic.hygienic true in
theorem uY{x:Str}{lo:Nat}:∀(names:List (Str×NameKind)) (n:Nat) (acc:List (Str×Addr)),lo<=n->((x,NameKind.cell)∈names\/∀c,acc.lookup x=some c->lo<=c)->∀c,(cellsFrom n names acc).lookup x=some c->lo<=c
 |[],_,_,_,h,c,e=>by
  rcases h with h|h
  ·cases h
  ·exact h c e
 |(m,k)::r,n,acc,hn,h,c,e=>by
  unfold cellsFrom at e
  split at e
  ·refine uY r (n+1) _ (by omega) ?_ c e
   rcases h with h|h
   ·rcases y1.mp h with q|q
    ·cases q
     exact .inr λ c e=>by
      rcases gI e with⟨_,z⟩|⟨z,_⟩
      ·rw[z];exact hn
      ·exact absurd rfl z
    ·exact .inl q
   ·exact .inr λ c e=>by
     rcases gI e with⟨_,z⟩|⟨_,z⟩
     ·rw[z];exact hn
     ·exact h c z
  ·rename_i hk
   refine uY r n acc hn ?_ c e
   rcases h with h|h
   ·rcases y1.mp h with q|q
    ·cases q;exact absurd rfl hk
    ·exact .inl q
   ·exact .inr h
section
variable {M:Model}{A:Around}{E:Value->Shared->Prop}{s:Shared}
theorem xO{scope:Scope}{globals:Addr}{closure:List (Str×Addr)}{qual:Str}{func:Option Addr}{code:Value}{env:Env}{builtins:Addr}{Q:Env->Shared->Prop}
  (hQ:Q (newEnv scope s.heap.objs.size globals (cellsFrom (s.heap.objs.size+1) scope.names closure) qual func code (some env) builtins) {s with heap:=pushCells (s.heap.push {cls:=.type "dict",data:=.dict #[]}) scope.names}):
  wpAny M A (newFunctionEnv scope globals closure [] qual func code (some env) builtins) Q E s:=by
 simp only[newFunctionEnv,Option.isSome_some,if_true]
 refine z6 (wpAny_alloc ?_)
 refine z6 (wpAny_layCells _ (λ name kind cells=>by cases Um:kind==NameKind.cell <;> simp[Um]) _ _ _ _ ?_)
 rw[show({s with heap:=s.heap.push {cls:=.type "dict",data:=.dict #[]}}:Shared).heap.objs.size=s.heap.objs.size+1 from x4 ..]
 exact z6 (z7 (z7 hQ))
end
section
variable {X:Cx}{scope:Scope}{tgs:List Str}{fr:List Nat}
theorem Kr{pins:List (Addr×Obj)}{σ:St}{H:Hp}{s:Shared}{fp:List Addr}{C:Addr}{h1:Heap}{cl:List (Str×Addr)}(B:i_ X scope fr)(L:Cc X scope C h1 cl)(I:Inv X pins σ H s)(hC:s.heap.objs.size<=C)(f:∀b∈fp,ip X pins H b)(Ck:∀b∈fp,b < s.heap.objs.size):
  (bE X scope cl tgs fr C fp s H).Ok:=by
 refine⟨I.ok.mod,B.kind,I.ok.glob,I.ok.blt,hC,L.inj,λ x hx=>?_,λ x c h e=>?_,I.ok.hd,I.ok.frames,.inl rfl,λ b hb=>⟨y3 (m7 (Ck b hb) hC),λ x c e=>?_⟩,
  I.bs,y8 I.ok.yJ I.sz,λ b o e hb=>?_,λ b hb hs=>?_,I.stack,I.iB⟩
 ·rcases hx with hx|hx
  ·exact L.has x (gh hx (.inl rfl))
  ·exact L.has x (gh hx (.inr rfl))
 ·exact y8 hC (Nat.le_of_lt (L.own x c (by simpa[bE]using h) e))
 ·rcases L.look x c e with z|z
  ·exact(f b hb).2.2.2.2.1 x c z
  ·exact λ q=>absurd (m6 hC z.1) (Nat.not_lt.mpr (Nat.le_of_lt (q▸Ck b hb)))
 ·rcases(f b hb).2.2.2.1 with z|z
  ·exact I.ok.uC b o e z
  ·exact absurd (m7 (y4 e) (y8 I.ok.yJ z)) (x9 _)
 ·rcases y1.mp (I.pz b hs)with z|z
  ·exact(f b hb).2.1 z
  ·exact(f b hb).2.2.1 z
theorem Fx{pins:List (Addr×Obj)}{σ:St}{H:Hp}{s s1:Shared}{fp:List Addr}{C:Addr}{m:Str->Option Value}{cl:List (Str×Addr)}(B:i_ X scope fr)(L:Cc X scope C s1.heap cl)(I:Inv X pins σ H s)(hC:s.heap.objs.size<=C)(f:∀b∈fp,ip X pins H b)(Ck:∀b∈fp,b < s.heap.objs.size)
  (ho:s1.os=s.os) (hg:AllBare s1.gens) (hk:∀b o,s.heap.get? b=some o->s1.heap.get? b=some o) (hn:s1.heap.Ns C m):
  Inv (bE X scope cl tgs fr C fp s H) [] (eL tgs.length fr σ) H s1:=by
 refine⟨Kr B L I hC f Ck,ho,hg,Un.kept hk,⟨m,hn,λ i x v e1 e2 e3=>?_⟩,λ x c e=>?_,I.a_.fresh hC,λ x c e=>?_,λ p hp=>absurd hp (by simp[bE]),I.a_.kept hk,by simp[eL,bE]⟩
 ·-- a free name:au RG value
  have e1:(tgs++fr.map (λ j=>X.N.getD j ""))[i]?=some x:=e1
  have hi:tgs.length<=i:=by
   refine p7 λ mU=>?_
   unfold eL at e2
   rw[c8 (by simpa using mU),i6,A3 mU]at e2
   cases e2
  unfold eL at e2
  rw[c6 (by simpa using hi),j7,n0]at e2
  rw[c6 hi,n0]at e1
  cases ej:fr[i - tgs.length]? with
  |none=>rw[ej]at e1;cases e1
  |some j=>
   rw[ej]at e1 e2
   have Nt:X.N.getD j ""=x:=u7 e1
   have SH:σ.getD j none=some v:=u7 e2
   obtain⟨hj,hl⟩:=B.fr j (k4 ej)
   have hN:X.N[j]?=some x:=by
    rw[c7,i4 hj]at Nt
    rw[i4 hj]
    exact A1 some Nt
   have hs:σ[j]?=some (some v):=by
    have OX:j < σ.length:=by rw[I.len];exact hj
    rw[c7,i4 OX]at SH
    rw[i4 OX]
    exact A1 some SH
   rw[Nt]at hl
   obtain⟨m0,Bp,Uk⟩:=I.loc
   have EZ:(x,NameKind.free)∈scope.names:=l0 hl
   have kinds:=B.has x EZ
   obtain⟨u,ru,lu⟩:=Uk j x v hN hs (by rcases kinds with z|z;exact .inr (.inl z);exact .inr (.inr z))
   refine⟨u,ru,.inr ⟨lJ hl,?_⟩⟩
   obtain⟨c,hc⟩:=L.has x (.inl EZ)
   refine⟨c,hc,?_⟩
   rcases lu with⟨kl,_⟩|⟨_,c',sj,z⟩
   ·rcases kinds with z|z <;> (rw[z]at kl;cases kl)
   ·have:c=c':=by
     have:=L.UW x c hl hc
     rw[this]at sj
     exact u7 sj
    subst this
    obtain⟨o,ho,hd⟩:=z
    exact⟨o,hk _ _ ho,hd⟩
 ·rcases L.look x c e with z|z
  ·obtain⟨v,o,gR,hd⟩:=I.cell x c z
   exact⟨v,o,hk _ _ gR,hd⟩
  ·exact⟨none,z.2⟩
 ·rcases L.look x c e with z|z
  ·exact I.d_ x c z
  ·exact I.a_.fresh (y8 hC (Nat.le_of_lt z.1))
theorem Ks{pins:List (Addr×Obj)}{σ:St}{H:Hp}{s:Shared}{h2:Heap}(B:i_ X scope fr)(I:Inv X pins σ H s)(hs:s.heap.objs.size<=h2.objs.size):
  Cc X scope h2.objs.size (pushCells (h2.push {cls:=.type "dict",data:=.dict #[]}) scope.names) (cellsFrom (h2.objs.size+1) scope.names (dD X.env.cells scope.names [])):=by
 have look:∀x c,(dD X.env.cells scope.names []).lookup x=some c->X.env.cells.lookup x=some c:=
  ig scope.names [] (λ n hn=>I.ok.has n (B.has n hn)) λ x c e=>by simp at e
 have sz:=x4 h2 {cls:=.type "dict",data:=.dict #[]}
 refine⟨λ x c e=>?_,uZ _ _ _ (λ x c e=>?_) (λ x y c e1 e2=>I.ok.inj x y c (look x c e1) (look y c e2)),λ x h=>?_,λ x c h e=>?_,λ x c h e=>?_⟩
 ·rw[<- sz]at e
  rcases qu _ _ _ x c e with z|z
  ·exact .inl (look x c z)
  ·exact .inr ⟨m7 (by rw[sz];exact Nat.lt_succ_self _) z.1,z.2⟩
 ·obtain⟨v,hv⟩:=I.cell x c (look x c e)
  exact Nat.lt_succ_of_lt (m7 hv.lt hs)
 ·rcases h with h|h
  ·exact kQ _ _ _ (Option.isSome_iff_exists.mp (js scope.names [] h))
  ·exact u_ _ _ _ h
 ·rw[va _ _ _ λ z=>by have:=B.cells _ z rfl;rw[h]at this;cases this]at e
  exact look x c e
 ·exact uY (lo:=h2.objs.size+1) _ _ _ (y9 _) (.inl (l0 h)) c e
end
end L2
namespace L2
open PySem PySem.Spec PyProof.Rows
section
variable {X:Cx}{scope:Scope}{tgs:List Str}{fr:List Nat}{tg elt iter:Expr}{ifs:List Expr}{pos:Pos}{wi:TI}{g:TG}{tt:TT}{te:TE}
theorem toF{α:Type}{M:Model}{A:Around}{E:Value->Shared->Prop}{s:Shared}{t:Sem α}{Q Q':α->Shared->Prop}(hE:∀e s,E e s->False)(h:wpAny M A t Q E s)(hQ:∀a s,Q a s->Q' a s):wpAny M A t Q' (λ _ _=>False) s:=
 z9 h hQ hE
theorem oN{pins:List (Addr×Obj)}{σ:St}{H:Hp}{s:Shared}{R:Value->Addr->Result->Shared->Prop}{E:Value->Shared->Prop}{J:It}{fp:List Addr}{it:Addr}{tn:Nat->Heap->Prop}{Qe:List V->Hp->Prop}
  (B:i_ X scope fr) (hc:X.calm=true) (hE:∀e s,X.xe e s->False)
  (hg:∀cl C fp s H,PG (bE X scope cl tgs fr C fp s H) tg g) (gk:mR tgs.length g)
  (ht:∀cl C fp s H,K0 (bE X scope cl tgs fr C fp s H) ifs tt)
  (he:∀cl C fp s H,PE (bE X scope cl tgs fr C fp s H) elt te)
  (I:Inv X pins σ H s) (T:Turn X.prog X.w X.K tg J fp it tn) (st:tn 0 s.heap) (f:∀b∈fp,ip X pins H b)
  (W:Nat->Nat->List V->Hp->Prop) (m0:Nat) (w0:W 0 m0 [] H)
  (turn:∀i m acc H,W i m acc H->acc.length<=sizeLine/\((J.stop i H/\Qe acc H)\/(J.go i H/\∃N:List V->Hp->Prop,(∀B5 H',N B5 H'->∃m',m' < m/\W (i+1) m' B5 H')/\∀x H',J.Cr i H x H'->g x (eL tgs.length fr σ) H' λ σ2 H2=>tt σ2 H2 λ b H3=>
   if b=true then te σ2 H3 λ y H4=>N (acc++[y]) H4 else N acc H3)))
  (fin:∀(D C:Addr) (s1:Shared) (H1:Hp) (acc:List V) (au:List Value),s.heap.objs.size<=D->s.heap.objs.size<=C->D≠C->Inv X pins σ H1 s1->H1 C=none->H1 D=none->(∃m,s1.heap.Ns C m)->
   s1.heap.PlainList D au.toArray->Vals acc au->acc.length<=sizeLine->Qe acc H1->R (.ref D) C (.ok .next) s1):
  wpAny (model X.prog X.w) X.A (newList []) (λ acc s3=>wpAny (model X.prog X.w) X.A (newFunctionEnv scope X.env.globals (dD X.env.cells scope.names []) [] X.env.qual none .none (some X.env)) (λ NX s4=>
   codeAny (model X.prog X.w) X.A (.compStart (.ListComp elt [⟨tg,iter,ifs,0⟩] scope pos) 0 (.ref it) acc {NX with scope:=relabel scope X.env}) (R acc NX.locals) s4) E s3) E s:=by
 have Ck:∀b∈fp,b < s.heap.objs.size:=λ b hb=>by obtain⟨o,e,_⟩:=T.obj 0 _ st b hb;exact y4 e
 refine n6 (xO ?_)
 dsimp only
 generalize Rm:s.heap.push {cls:=.type "list",dict:=none,data:=.seq ([]:List Value).toArray}=H2
 have hC:H2.objs.size=s.heap.objs.size+1:=by rw[<- Rm,x4]
 have L0:=Ks (h2:=H2) B I (by omega)
 have MR:(pushCells (H2.push {cls:=.type "dict",data:=.dict #[]}) scope.names).Ns H2.objs.size (λ _=>none):=(Heap.Ns.new H2 (.type "dict")).keeps (pushCells_keeps _ _)
 have Qo:∀b o,H2.get? b=some o->(pushCells (H2.push {cls:=.type "dict",data:=.dict #[]}) scope.names).get? b=some o:=λ b o e=>pushCells_keeps _ _ b o (j1 _ e)
 generalize pushCells (H2.push {cls:=.type "dict",data:=.dict #[]}) scope.names=h1 at L0 MR Qo ⊢
 have J':s.heap.objs.size≠H2.objs.size:=by omega
 have E5:s.heap.objs.size<=H2.objs.size:=by omega
 have below:∀b,b < s.heap.objs.size->b≠H2.objs.size/\b≠s.heap.objs.size:=λ b hb=>⟨by omega,by omega⟩
 have old:∀b o,s.heap.get? b=some o->h1.get? b=some o:=λ b o e=>Qo b o (Rm▸j1 _ e)
 have Rl:h1.PlainList s.heap.objs.size #[]:=⟨_,Qo _ _ (Rm▸l5 _ rfl)⟩
 have R5:tn 0 h1:=T.keep _ _ _ st λ b _ o e=>old b o e
 have Qk:∀x c,(cellsFrom (H2.objs.size+1) scope.names (dD X.env.cells scope.names [])).lookup x=some c->X.env.cells.lookup x=some c\/H2.objs.size < c:=λ x c e=>(L0.look x c e).imp id λ z=>z.1
 generalize cellsFrom (H2.objs.size+1) scope.names (dD X.env.cells scope.names [])=cl at L0 Qk ⊢
 generalize Wq:H2.objs.size=C at*
 generalize Nk:s.heap.objs.size=D at*
 have UO:∀b,b < D->b < s.heap.objs.size:=λ b hb=>by rw[Nk];exact hb
 have fD:=I.mm (b:=D) (H':=H) (Nat.le_of_eq Nk) (I.a_.fresh (Nat.le_of_eq Nk))
 have FQ:∀b,b≠X.env.locals->b∉X.fs->b∉g_ X.stack:=λ b h1 h2 hb=>(y1.mp (I.pz b hb)).elim h1 h2
 have E3:∀b∈fp,b∉g_ X.stack:=λ b hb=>FQ b (f b hb).2.1 (f b hb).2.2.1
 have VF:∀x c,cl.lookup x=some c->c≠D:=λ x c e=>(Qk x c e).elim (fD.2.2.2.2.1 x c) λ z q=>absurd (m6 E5 (q▸z)) (x9 _)
 have loop:∀s3:Shared,s3={s with heap:=h1}->
   codeAny (model X.prog X.w) X.A (.compLoop (.ListComp elt [⟨tg,iter,ifs,0⟩] scope pos) 0 (.ref it) (.ref D) (compEnvC scope cl C X.env)) (R (.ref D) C) s3:=by
  rintro s3 rfl
  have V5:Inv (bE X scope cl tgs fr C fp s H) [] (eL tgs.length fr σ) H {s with heap:=h1}:=
   Fx B L0 I (by rw[Nk];exact E5) f (λ b hb=>UO b (Ck b hb)) rfl I.bare old MR
  refine qr (λ n s'=>∃(i:Nat) (acc:List V) (au:List Value) (H':Hp),Inv (bE X scope cl tgs fr C fp s H) [] (eL tgs.length fr σ) H' s'/\tn i s'.heap/\(∀b∈fp,H' b=none)/\H' D=none/\
   s'.heap.PlainList D au.toArray/\Vals acc au/\W i n acc H') ?_ m0 ⟨0,[],[],H,V5,R5,λ b hb=>(f b hb).1,fD.1,Rl,.nil,w0⟩
  rintro n s3 ⟨i,acc,au,H3,I3,Lf,Nn,UP,⟨nl,Bm⟩,OJ,w3⟩
  obtain⟨hz,h⟩:=turn i n acc H3 w3
  have SV:Inv (bE X scope cl tgs fr C fp s H) [(D,{cls:=.type "list",data:=.seq au.toArray nl})] (eL tgs.length fr σ) H3 s3:=I3.dH λ p hp=>by
   have e:p=(D,{cls:=.type "list",data:=.seq au.toArray nl}):=by simpa using hp
   subst e
   exact⟨Bm,UP,J',FQ D fD.2.1 fD.2.2.1,λ v e=>by cases e⟩
  have fY:∀{H':Hp},(∀b∈fp,H' b=none)->∀b∈fp,ip (bE X scope cl tgs fr C fp s H) [(D,{cls:=.type "list",data:=.seq au.toArray nl})] H' b:=λ hn b hb=>
   ⟨hn b hb,(below b (Ck b hb)).1,E3 b hb,.inl hb,λ x c e=>(Qk x c e).elim ((f b hb).2.2.2.2.1 x c) λ z q=>absurd (m7 (Ck b hb) (y8 E5 (Nat.le_of_lt (q▸z)))) (x9 _),λ p hp=>by
    have e:p=(D,{cls:=.type "list",data:=.seq au.toArray nl}):=by simpa[bE]using hp
    subst e
    exact A2 (below b (Ck b hb)).2⟩
  rcases h with⟨stop,q⟩|⟨go,N,hN,step⟩
  ·refine ck (T.done (bE X scope cl tgs fr C fp s H) rfl rfl rfl hc i _ s3 _ H3 _ SV (fY Nn) Lf stop) λ r s4 ⟨hr,I4⟩=>?_
   subst hr
   have pD:=I4.pin (D,{cls:=.type "list",data:=.seq au.toArray nl}) (by simp)
   have IX:Inv X pins σ H3 s4:=I.oO (ch:=fp) I4.os I4.base I4.a_ I4.bare λ b hb=>⟨(f b hb).2.2.2.1,(f b hb).2.1,(f b hb).2.2.2.2.1,(f b hb).2.2.2.2.2⟩
   obtain⟨m4,T8,_⟩:=I4.loc
   exact fin D C s4 H3 acc au (y9 _) E5 J' IX I4.free pD.2.1 ⟨m4,T8⟩ ⟨nl,pD.1⟩ OJ hz q
  ·refine ck (T.item (bE X scope cl tgs fr C fp s H) rfl rfl rfl hc i _ s3 _ H3 _ SV (fY Nn) Lf go) λ r s4 ⟨u,hr,h4⟩=>?_
   subst hr
   refine ck h4 λ _ s5 ⟨x,H5,I5,r5,y5,CJ,Rw⟩=>?_
   have RV:=I5.pinned (fY Rw) (T.obj _ _ CJ)
   refine toF hE (hg _ _ _ _ _ _ s5 _ H5 x u _ RV r5 (gk x _ H5 _ (step x H5 y5))) λ _ s6 ⟨σ6,H6,I6,q6,Qn,k6⟩=>?_
   refine toF hE (ht _ _ _ _ _ _ s6 σ6 H6 _ I6 q6) λ ok s7 ⟨H7,I7,q7⟩=>?_
   have wk:∀{H':Hp} {s':Shared} {pl:List (Addr×Obj)},Inv (bE X scope cl tgs fr C fp s H) pl σ6 H' s'->Inv (bE X scope cl tgs fr C fp s H) pl (eL tgs.length fr σ) H' s':=λ J=>
    J.weak Qn.symm λ k v e=>by
     by_cases hk:tgs.length<=k
     ·rw[k6 k hk];exact e
     ·unfold eL at e
      rw[c8 (by simpa using hk),i6,A3 (by omega)]at e
      cases e
   cases ok with
   |false=>
    simp only[l9,A0]at q7 ⊢
    obtain⟨m',hm,w7⟩:=hN _ _ q7
    have pD:=I7.pin (D,{cls:=.type "list",data:=.seq au.toArray nl}) (by simp)
    refine⟨m',hm,i+1,acc,au,H7,wk (I7.dH (pins':=[]) λ p hp=>absurd hp (by simp)),T.keep _ _ _ CJ λ b hb o e=>(I7.pin (b,o) (j4 _ (j4 _ (de hb e)))).1,λ b hb=>?_,pD.2.1,⟨nl,pD.1⟩,OJ,w7⟩
    obtain⟨o,e,d⟩:=T.obj _ _ CJ b hb
    exact(I7.pin (b,o) (j4 _ (j4 _ (de hb e)))).2.1
   |true=>
    simp only[if_true]at q7 ⊢
    refine toF hE (he _ _ _ _ _ _ s7 σ6 H7 _ I7 q7) λ uy s8 ⟨y,H8,I8,r8,n8⟩=>?_
    obtain⟨m',hm,w8⟩:=hN _ _ n8
    have pD:=I8.pin (D,{cls:=.type "list",data:=.seq au.toArray nl}) (by simp)
    have hits:au.toArray.size<=sizeLine:=by
     have:=OJ.length
     simp only[p4]
     omega
    refine wpAny_list_append_plain (hsz:=hits) (show s8.heap.PlainList D au.toArray from⟨nl,pD.1⟩) λ h9 Ui Sh=>?_
    have I9:Inv (bE X scope cl tgs fr C fp s H) [] σ6 H8 {s8 with heap:=h9,toks:=s8.toks}:=
     (I8.dH (pins':=[]) λ p hp=>absurd hp (by simp)).turned (it:=D) (λ b o hb e=>Sh.extBut b o hb e) pD.2.1 J' (.inr (Nat.le_of_eq Nk)) VF λ p hp=>absurd hp (by simp[bE])
    refine⟨m',hm,i+1,acc++[y],au++[uy],H8,wk I9,T.keep _ _ _ CJ λ b hb o e=>Sh.extBut b o (below b (Ck b hb)).2 (I8.pin (b,o) (j4 _ (j4 _ (de hb e)))).1,λ b hb=>?_,pD.2.1,?_,OJ.append (.cons r8 .nil),w8⟩
    ·obtain⟨o,e,d⟩:=T.obj _ _ CJ b hb
     exact(I8.pin (b,o) (j4 _ (j4 _ (de hb e)))).2.1
    ·have e:(au++[uy]).toArray=au.toArray.push uy:=by simp
     rw[e];exact Ui
 exact codeAny_compStart_list (loop _ rfl) (T.self _ 0 _ _ _ R5 (loop _ rfl))
theorem kz(B:i_ X scope fr)(hc:X.calm=true)(hE:∀e s,X.xe e s->False)(hi:PI X tg iter wi)
  (hg:∀cl C fp s H,PG (bE X scope cl tgs fr C fp s H) tg g) (gk:mR tgs.length g)
  (ht:∀cl C fp s H,K0 (bE X scope cl tgs fr C fp s H) ifs tt)
  (he:∀cl C fp s H,PE (bE X scope cl tgs fr C fp s H) elt te)
  (hs:∀x,foldedSetIterable iter X.env x=pure x:=by intro _;rfl):PE X (.ListComp elt [⟨tg,iter,ifs,0⟩] scope pos) (nP wi g tt te tgs.length fr):=by
 intro pins s σ H Q I h
 rw[eval_ListComp]
 have By:=fm (scope:=scope) (env:=X.env) λ n hn=>I.ok.has n (B.has n hn)
 refine wpAny_comprehension_free (use:=none) rfl hs By B.kind B.names (z9 (hi pins s σ H _ I h) (λ xv s1 h1=>z9 h1 (λ OR s2 h2=>?_) λ _ _ e=>e) λ _ _ e=>e)
 obtain⟨it,fp,tn,J,H2,rfl,I2,T,Lg,f2,W,⟨m0,w0⟩,turn⟩:=h2
 refine oN (R:=λ acc C=>compPost (model X.prog X.w) X.A X.xe none (EP X pins σ Q) acc C) (Qe:=λ acc H=>∀p,H p=none->Q (.ref p) (upd H p (.lst acc))) B hc hE hg gk ht he I2 T Lg f2 W m0 w0 turn ?_
 intro D C s1 H1 acc au hD hC J' I1 nC nD ⟨m,hn⟩ hl rv hz q
 refine⟨m,hn,λ h' mi=>?_⟩
 have fC:=I2.mm (b:=C) (H':=H1) hC nC
 have fD:=I2.mm (b:=D) (H':=H1) hD nD
 have I3:Inv X pins σ H1 {s1 with heap:=h',toks:=s1.toks}:=I1.turned (it:=C) (λ b o hb e=>mi.extBut b o hb e) nC fC.2.1 fC.2.2.2.1 fC.2.2.2.2.1 fC.2.2.2.2.2
 obtain⟨k,e⟩:=hl.extBut mi.extBut J'
 exact⟨.ref D,upd H1 D (.lst acc),I3.vn nD ⟨hz,au,k,rv,e⟩ fD.2.1 (y8 I2.sz hD) fD.2.2.2.2.1 fD.2.2.2.2.2,rfl,q D nD⟩
theorem um{i:Nat}{y:Str}{py iC:Pos}(hN:X.N.Nodup)(hiy:X.N[i]?=some y)(hy:Loc X.env.scope y)(B:i_ X scope fr)(hc:X.calm=true)(hE:∀e s,X.xe e s->False)(hi:PI X tg iter wi)
  (hg:∀cl C fp s H,PG (bE X scope cl tgs fr C fp s H) tg g) (gk:mR tgs.length g)
  (ht:∀cl C fp s H,K0 (bE X scope cl tgs fr C fp s H) ifs tt)
  (he:∀cl C fp s H,PE (bE X scope cl tgs fr C fp s H) elt te)
  (hsw:swapsWith (.ListComp elt [⟨tg,iter,ifs,0⟩] scope pos) (some (.Name y py)) iC.line X.env=pure true:=by rfl)
  (hf:X.fn y=true\/X.env.scope.names.lookup y=some .local:=by first|exact .inl rfl|exact .inr rfl|assumption)
  (hs:∀x,foldedSetIterable iter X.env x=pure x:=by intro _;rfl):PS X (.Assign [.Name y py] (.ListComp elt [⟨tg,iter,ifs,0⟩] scope pos) iC) (yZ (nP wi g tt te tgs.length fr) (iR i)):=by
 intro pins s σ H D0 I h
 rw[exec_Assign_Name_used _ _ _ _ hsw]
 have By:=fm (scope:=scope) (env:=X.env) λ n hn=>I.ok.has n (B.has n hn)
 refine z6 (wpAny_standAt (z6 ?_))
 show wpAny _ X.A (do let _ <- comprehension (.ListComp elt [⟨tg,iter,ifs,0⟩] scope pos) scope X.env _ (newList []) false (eval iter X.env) (some (assign (.Name y py) X.env))) _ _ s
 refine z6 (z9 (wpAny_comprehension_free (use:=some (assign (.Name y py) X.env)) (Q:=λ _ s'=>SP X pins D0 .next s') rfl hs By B.kind B.names
  (z9 (hi pins s σ H _ I h) (λ xv s1 h1=>z9 h1 (λ OR s2 h2=>?_) λ _ _ e=>e) λ _ _ e=>e)) (λ _ s' hq=>z7 (z7 hq)) λ _ _ e=>e)
 obtain⟨it,fp,tn,J,H2,rfl,I2,T,Lg,f2,W,⟨m0,w0⟩,turn⟩:=h2
 refine oN (R:=λ acc C=>compPost (model X.prog X.w) X.A X.xe (some (assign (.Name y py) X.env)) (λ _ s'=>SP X pins D0 .next s') acc C) (Qe:=λ acc H=>∀p,H p=none->iR i (.ref p) σ (upd H p (.lst acc)) D0.nx) B hc hE hg gk ht he I2 T Lg f2 W m0 w0 turn ?_
 intro D C s1 H1 acc au hD hC J' I1 nC nD ⟨m,hn⟩ hl rv hz q
 have fC:=I2.mm (b:=C) (H':=H1) hC nC
 have fD:=I2.mm (b:=D) (H':=H1) hD nD
 obtain⟨k,e⟩:=hl
 have I3:Inv X pins σ (upd H1 D (.lst acc)) s1:=I1.vn nD ⟨hz,au,k,rv,e⟩ fD.2.1 (y8 I2.sz hD) fD.2.2.2.2.1 fD.2.2.2.2.2
 show wpAny _ X.A (assign (.Name y py) X.env (.ref D)) _ _ s1
 refine wpAny_assign_Name (nR I3 hN hiy hy (show RelV (.ref D) (.ref D)from rfl) (λ s2 J2 ⟨a,T3,ha⟩=>?_) hf)
 have aC:C≠a:=by
  rcases ha with z|z
  ·rw[z];exact fC.2.1
  ·exact A2 (fC.2.2.2.2.1 _ _ z)
 refine⟨m,hn.sameBut T3 aC,λ h' mi=>?_⟩
 have Tr:(upd H1 D (.lst acc)) C=none:=by rw[az (A2 J')];exact nC
 have I4:Inv X pins (σ.set i (some (.ref D))) (upd H1 D (.lst acc)) {s2 with heap:=h',toks:=s2.toks}:=J2.turned (it:=C) (λ b o hb e=>mi.extBut b o hb e) Tr fC.2.1 fC.2.2.2.1 fC.2.2.2.2.1 fC.2.2.2.2.2
 exact⟨_,_,I4,q D nD⟩
end
end L2
namespace L2
open PySem PySem.Spec PyProof.Rows
def dm(x:Str)(lo hi:Option Int):Str:=⟨((x.cps.toList.drop (HT.bQ x.length 0 lo)).take (HT.bQ x.length x.length hi - HT.bQ x.length 0 lo)).toArray⟩
theorem qp(x:Str)(lo hi:Option Int):(dm x lo hi).length<=x.length:=by
 show((x.cps.toList.drop (HT.bQ x.length 0 lo)).take (HT.bQ x.length x.length hi - HT.bQ x.length 0 lo)).toArray.size<=x.cps.size
 rw[p4,r6,p9,l4]
 omega
theorem y_(lo hi:Option Int)(n:Nat):Builtin.Str.strSliceIndices lo hi 1 n=sliceRange ((HT.bQ n 0 lo:Nat):Int) ((HT.bQ n n hi:Nat):Int) 1:=by
 obtain⟨h1,h2,h3⟩:=iD lo hi n
 rw[<- h1,<- h2]
 rfl
set_option tactic.hygienic true in
theorem xf(x:Str)(lo hi:Option Int):Txt.slice x lo hi=dm x lo hi:=by
 have e:((Builtin.Str.strSliceIndices lo hi 1 x.length).filterMap (x.cps[·]?)).toArray=(dm x lo hi).cps:=by
  rw[y_,sliceRange_one,pick_run]
  rfl
 unfold Txt.slice
 split
 ·rename_i h
  have hl:(Builtin.Str.strSliceIndices lo hi 1 x.length).length=x.length:=by simpa using h
  rw[y_,sliceRange_one,w5,o9]at hl
  have b1:=HT.uf x.length 0 (z4 _) lo
  have b2:=HT.uf x.length x.length (y9 _) hi
  have hlen:x.cps.toList.length=x.length:=by simp[Str.length]
  unfold dm
  by_cases h0:x.length=0
  ·have:x.cps.toList=[]:=i8.mp (by omega)
   rw[this]
   cases x with
   |mk c=>simp at this;subst this;simp
  ·have ea:HT.bQ x.length 0 lo=0:=by omega
   have eb:HT.bQ x.length x.length hi=x.length:=by omega
   rw[ea,eb,drop_zero,Nat.sub_zero,i9 (by omega)]
 ·exact A1 Str.mk e
section
variable {X:Cx}
def PL:V->Option Int->Option Int->Hp->VK->Prop:=λ x lo hi H Q=>∃z,x=.str z/\z.length<=sizeLine/\Q (.str (dm z lo hi)) H
theorem uM{h:Heap}{sl:Addr}{vl vu:Value}{lo hi:Option Int}(hs:h.IsSliceOf sl vl vu .none)(pl:IsPart vl lo)(pu:IsPart vu hi):
  ∃l u:Option (Int×Tok),h.IsSlice sl l u none/\l.map (·.1)=lo/\u.map (·.1)=hi:=by
 cases pl with
 |none=>
  cases pu with
  |none=>exact⟨none,none,hs,rfl,rfl⟩
  |int i t=>exact⟨none,some (i,t),hs,rfl,rfl⟩
 |int i t=>
  cases pu with
  |none=>exact⟨some (i,t),none,hs,rfl,rfl⟩
  |int j u=>exact⟨some (i,t),some (j,u),hs,rfl,rfl⟩
theorem G3:wM X PL:=by
 intro pins s σ H x v vl vu lo hi sl Q I rx hs pl pu h
 obtain⟨z,rfl,hz,q⟩:=h
 obtain⟨t,rfl⟩:=rx
 obtain⟨l,u,QH,rfl,rfl⟩:=uM hs pl pu
 refine⟨"str",_,PySem.F.slot_str_getitem.lookup,typeIs_str _ _ _,wpAny_getItem_str_slice (l:=l) (u:=u) (st:=none) QH rfl ?_⟩
 rw[<- xf]at q
 exact post_val_or_str ⟨y8 (Txt.slice_le z _ _) hz,λ t' k=>⟨.str (Txt.slice z (l.map (·.1)) (u.map (·.1))),H,I.tok k,⟨_,rfl⟩,q⟩⟩
theorem xC:dE X (compareOp .LtE) (λ x y H Q=>∃i j,x=.str i/\y=.str j/\Q (.bl (!decide (j.cps.toList < i.cps.toList))) H):=by
 intro pins s σ H x y v u Q I rx ry h
 obtain⟨i,j,rfl,rfl,q⟩:=h
 obtain⟨t,rfl⟩:=rx
 obtain⟨t',rfl⟩:=ry
 exact PySem.P.le_str ⟨.bl (!decide (j.cps.toList < i.cps.toList)),H,I,rfl,q⟩
theorem tZ{ys:List Str}:∀{us:List Value},Vals (ys.map V.str) us->StrsAre us ys:=by
 induction ys with
 |nil=>intro us r;rw[map_nil]at r;cases r;exact .nil
 |cons n ns ih=>
  intro us r
  rw[y0]at r
  cases r with
  |cons r1 r2=>
   obtain⟨t,e⟩:=r1
   subst e
   exact .cons n t (ih r2)
def rJoin(K:PySem.W.Frag):V->List V->Hp->VK->Prop:=λ x vs H Q=>∃(z:Str) (p:Addr) (ys:List Str),x=.str z/\vs=[.ref p]/\dN K H p (ys.map V.str)/\(ys.map (·.length)).sum+ys.length*z.length<=16777216/\Q (.str (Txt.join z ys)) H
theorem En:RQ X "str.join" (rJoin X.K):=by
 intro pins s σ H x xs v us Q I rx r h
 obtain⟨z,p,ys,rfl,rfl,hq,hz,q⟩:=h
 obtain⟨t,rfl⟩:=rx
 obtain⟨u,rfl,r1⟩:=Vals.one r
 cases r1
 obtain⟨au,rv,pl,_⟩:=I.list hq
 exact join_list pl.isList (by simpa using tZ rv) hz λ t' k=>⟨.str (Txt.join z ys),H,I.tok k,⟨_,rfl⟩,q⟩
def LC:R2:=λ x y H Q=>∃z n,x=.str z/\y=.int n/\MulOk z n/\Q (.str (Txt.mul z n)) H
theorem uv:dE X (binaryOp .Mult) LC:=by
 intro pins s σ H x y v u Q I rx ry h
 obtain⟨z,n,rfl,rfl,a_,q⟩:=h
 obtain⟨t,rfl⟩:=rx
 obtain⟨t',rfl⟩:=ry
 exact SB.mul a_ λ t' k=>⟨.str (Txt.mul z n),H,I.tok k,⟨_,rfl⟩,q⟩
theorem tm(hc:X.calm=true):cY X (.builtin "all") (λ xs H Q=>∃(p:Addr) (bs:List Bool),xs=[.ref p]/\dN X.K H p (bs.map V.bl)/\Q (.bl (bs.all id)) H):=by
 intro pins s σ H xs us Q I r h
 obtain⟨p,bs,rfl,hq,q⟩:=h
 obtain⟨u,rfl,r1⟩:=vals1 r
 cases r1
 obtain⟨au,rv,pl,hz⟩:=I.list hq
 refine call_all_walk (o8 pl.isList ?_)
 have eG:p≠s.heap.objs.size:=by
  obtain⟨o,n,e,_⟩:=pl
  exact y3 (y4 e)
 have hlen:au.length=bs.length:=by rw[<- rv.length,w5]
 refine⟨s.heap.objs.size,_,_,_,_,_,λ i=>(bs[i]?).getD false,rfl,Walks.list (A:=X.A.in1) (show X.A.in1.handled=none from I.ok.hd hc) s.heap.objs.size p eG au.toArray,⟨⟨_,l5 _ rfl,rfl,rfl⟩,pl.isList.at λ o e=>j1 _ e⟩,?_,λ h' tk hk=>?_⟩
 ·intro i v s' Q' E' hP hQ
  have Ni:au[i]?=some v:=by simpa using hP
  have hi:i < bs.length:=by rw[<- hlen];exact(g9.mp Ni).1
  have hb:(bs.map V.bl)[i]?=some (V.bl bs[i]):=by simp[hi]
  obtain⟨u,hu,ru⟩:=rv.get hb
  rw[Ni]at hu
  cases hu
  have e:v=Value.bool bs[i]:=ru
  subst e
  have:(bs[i]?).getD false=bs[i]:=by simp[hi]
  dsimp only at hQ
  rw[this]at hQ
  exact o7 hQ
 ·refine⟨.bl (bs.all id),H,I.kept (t':=tk) λ b o e=>hk b o (by simpa using y3 (y4 e)) (j1 _ e),?_,q⟩
  show Value.bool _=Value.bool _
  congr 1
  rw[p4,hlen]
  rw[r9]
  simp only[List.all_eq_true,mem_range,id]
  constructor
  ·intro h b hb
   obtain⟨i,hi,rfl⟩:=mem_iff_getElem.mp hb
   have:=h i hi
   simpa[hi]using this
  ·intro h i hi
   simpa[hi]using h bs[i] (getElem_mem hi)
end
def K1(x:Str):It:=⟨λ i _=>i < x.cps.size,λ i H v H'=>H'=H/\∃c,x.cps[i]?=some c/\v=.str ⟨#[c]⟩,λ i _=>i=x.cps.size⟩
theorem qK{P:Program}{w:World}{K:PySem.W.Frag}{tg:Expr}(it:Addr)(x:Str)(t:Tok)(ty:String)(hty:["enumerate","zip","dict_itemiterator","dict_reverseitemiterator","odict_iterator","itertools.zip_longest","itertools.pairwise"].contains ty=false)
  (W:∀A':Around,A'.handled=none->Walks P w A' it [it] [it] x.cps.size (SignAt x) (λ i h=>h.IsStrIter it ty x t i))
  (self:∀(A:Around) (i:Nat) (s:Shared) (Q:Value->Shared->Prop) (E:Value->Shared->Prop),s.heap.IsStrIter it ty x t i->Q (.ref it) s->wpAny (model P w) A (pyIter (.ref it)) Q E s):
  Turn P w K tg (K1 x) [it] it (λ i h=>h.IsStrIter it ty x t i) where
 mem:=by simp
 obj:=λ i h st b hb=>by
  have e:b=it:=by simpa using hb
  subst e
  obtain⟨o,e,c,d⟩:=st
  exact⟨o,e,λ v z=>by rw[d]at z;cases z⟩
 keep:=λ i h h' st k=>by
  obtain⟨o,e,c,d⟩:=st
  exact⟨o,k it (by simp) o e,c,d⟩
 item:=by
  intro X hP hw hK hc i pins s σ H E I hf st hg
  subst hP hw hK
  obtain⟨f0,f1,f2,f3,f4,f5⟩:=hf it (by simp)
  refine(W X.A (I.ok.hd hc)).item i s _ _ hg st λ v h' tk hv tK kk=>?_
  obtain⟨c,u,hx,rfl⟩:=hv
  have I1:Inv X pins σ H {s with heap:=h',toks:=tk}:=I.turned (λ b o hb e=>kk b o (by simpa using hb) e) f0 f1 f3 f4 f5
  obtain⟨o,e,cc,d⟩:=id tK
  exact⟨_,rfl,wo (s:={s with heap:=h',toks:=tk}) e cc d hty ⟨.str ⟨#[c]⟩,H,I1,⟨u,rfl⟩,⟨rfl,c,hx,rfl⟩,tK,λ b hb=>(hf b hb).1⟩⟩
 done:=by
  intro X hP hw hK hc i pins s σ H E I hf st hg
  subst hP hw hK
  obtain⟨f0,f1,f2,f3,f4,f5⟩:=hf it (by simp)
  have hg:i=x.cps.size:=hg
  subst hg
  exact(W X.A (I.ok.hd hc)).done s _ _ st λ h' tk kk=>⟨rfl,I.turned (λ b o hb e=>kk b o (by simpa using hb) e) f0 f1 f3 f4 f5⟩
 self:=self
end L2
namespace L2
open PySem PySem.Spec PyProof.Rows
section
variable {X:Cx}
theorem vh.imp {r r':R2}(h:vh X r)(k:∀x y H Q,r' x y H Q->r x y H Q):vh X r':=λ value slice pins s σ H x y v u Q I rx ry q=>h value slice pins s σ H x y v u Q I rx ry (k x y H Q q)
theorem wM.imp {r r':V->Option Int->Option Int->Hp->VK->Prop}(h:wM X r)(k:∀x lo hi H Q,r' x lo hi H Q->r x lo hi H Q):wM X r':=
 λ pins s σ H x v vl vu lo hi sl Q I rx hs pl pu q=>h pins s σ H x v vl vu lo hi sl Q I rx hs pl pu (k x lo hi H Q q)
def V2(K:PySem.W.Frag):R2:=λ x y H Q=>match x,y with
 | .ref p,.int i=>∃xs v,(dN K H p xs\/fu K H p xs)/\eV xs i=some v/\Q v H
 | .str z,.int i=>z.length<=sizeLine/\∃c,eV z.cps.toList i=some c/\Q (.str ⟨#[c]⟩) H
 |_,_=>False
theorem bN:vh X (V2 X.K):=JF.imp λ x y H Q q=>by
 cases x <;> cases y <;> first
  |exact False.elim q
  |(obtain⟨xs,v,h|h,e,q⟩:=q
    ·exact .inl ⟨_,xs,_,v,rfl,rfl,h,e,q⟩
    ·exact .inr (.inl ⟨_,xs,_,v,rfl,rfl,h,e,q⟩))
  |(obtain⟨hz,c,e,q⟩:=q
    exact .inr (.inr ⟨_,_,c,rfl,rfl,hz,e,q⟩))
def V1(K:PySem.W.Frag):V->Option Int->Option Int->Hp->VK->Prop:=λ x lo hi H Q=>match x with
 | .str z=>z.length<=sizeLine/\Q (.str (dm z lo hi)) H
 | .ref a=>LA K (.ref a) lo hi H Q\/Lz K (.ref a) lo hi H Q
 |_=>False
theorem uc:wM X (V1 X.K):=(G3.or (CN.or G2)).imp λ x lo hi H Q q=>by
 cases x <;> first|exact False.elim q|exact .inl ⟨_,rfl,q⟩|exact .inr q
end
end L2
namespace L2
open PySem PySem.Spec PyProof.Rows
structure bI(P:Program)(w:World)(K:PySem.W.Frag)(mg:Str->Option Value)(base:Heap)(k:Nat)(x:Str)(ps:List Str)(sp:Sp):Prop where
 ex:∃(f:Addr) (fd:FuncData),bh P w K mg base eO k f fd ps sp/\mg x=some (.ref f)/\PySem.W.keepIn K (.ref f)=true/\Binds K fd ps []
theorem bI.of {P:Program}{w:World}{K:PySem.W.Frag}{mg:Str->Option Value}{base:Heap}{k:Nat}{x qual:Str}{ps:List Str}{sp:Sp}{st:Stmt}{f:Addr}{fd:FuncData}(F:eN K x qual st f fd)(G:bh P w K mg base eO k f fd ps sp)(hm:mg x=some (.ref f))(b:Binds K fd ps []):
  bI P w K mg base k x ps sp:=⟨f,fd,G,hm,F.kp,b⟩
def tD(sp:Sp)(t:TA):TE:=λ σ H Q=>t σ H λ vs H1=>sp vs H1 Q E0
section
variable {X:Cx}{x:Str}{p pos:Pos}{e:Expr}{es:List Expr}{t:TA}{k j:Nat}{ps:List Str}{sp:Sp}
theorem II(d:bI X.prog X.w X.K X.mg X.base k x ps sp)(hr:bC k X.A)(hg:Gl X x)(ha:PA X (e::es) t)(hdb:(x==("__debug__":Str))=false:=by decide)(he:starEach (e::es) X.env=(false,eval e X.env)::starEach es X.env:=by rfl)
  (hpl:(backTo pos (starEach es X.env)).any (·.1)=false:=by rfl):PE X (.Call (.Name x p) (e::es) [] pos) (tD sp t):=by
 obtain⟨f,fd,G,hm,kp,b⟩:=d.ex
 intro pins s σ H Q I h
 have h':FP sp [] E0 t σ H Q:=by
  show t σ H λ vs H1=>sp (vs++[]) H1 Q E0
  have e:(λ(vs:List V) (H1:Hp)=>sp (vs++[]) H1 Q E0)=λ vs H1=>sp vs H1 Q E0:=by
   funext vs H1
   rw[s9]
  rw[e]
  exact h
 exact vP (E:=E0) G hr hg hm kp b .nil L9 ha hdb he hpl pins s σ H Q I h'
end
def tu(X:Cx)(scope:Scope)(fr:List Nat):Bool:=
 (scope.kind==.function)&&(scope.names.all λ y=>(y.2 != .cell||scope.names.lookup y.1==some .cell)&&(y.2 != .local||scope.names.lookup y.1==some .local)&&(y.2 != .free||X.env.kindOf y.1==some .cell||X.env.kindOf y.1==some .free))&&
 (fr.all λ j=>decide (j < X.N.length)&&scope.names.lookup (X.N.getD j "")==some .free)
theorem cv{X:Cx}{scope:Scope}{fr:List Nat}(h:tu X scope fr=true):i_ X scope fr:=by
 unfold tu at h
 rw[q9,q9]at h
 obtain⟨⟨h1,h2⟩,h3⟩:=h
 rw[List.all_eq_true]at h2 h3
 refine⟨by simpa using h1,λ y hy hl=>?_,λ y hy hl=>?_,λ n hn=>?_,λ j hj=>?_⟩
 ·have:=h2 y hy
  simp only[q9]at this
  have:=this.1.1
  rw[hl]at this
  simpa using this
 ·have:=h2 y hy
  simp only[q9]at this
  have:=this.1.2
  rw[hl]at this
  simpa using this
 ·have:=h2 _ hn
  simp only[q9]at this
  have:=this.2
  simpa using this
 ·have:=h3 j hj
  rw[q9]at this
  exact⟨by simpa using this.1,by simpa using this.2⟩
section
variable {X:Cx}{tg:Expr}
def Qr(K:PySem.W.Frag)(tl:TE):TI:=λ σ H R=>tl σ H λ x H1=>match x with
 | .str z=>R (K1 z) H1
 | .ref a=>(∃xs,dN K H1 a xs/\R (O9 K a) H1)\/(∃xs,fu K H1 a xs/\R (RT K a) H1)
 |_=>False
theorem Iw{l:Expr}{tl:TE}(hl:PE X l tl):PI X tg l (Qr X.K tl):=by
 intro pins s σ H R I h
 have Bq:PE X l (λ σ' H' Q=>Q=Q/\tl σ' H' Q):=λ pins s σ H Q I q=>hl pins s σ H Q I q.2
 refine ck (hl pins s σ H _ I h) λ v s1 ⟨x,H1,I1,r1,q1⟩=>?_
 have fp:∀b∈[s1.heap.objs.size],ip X pins H1 b:=λ b hb=>by
  have e:b=s1.heap.objs.size:=by simpa using hb
  subst e
  exact I1.mm (y9 _) (I1.a_.fresh (y9 _))
 cases x with
 |str z=>
  have q:R (K1 z) H1:=q1
  obtain⟨t,rfl⟩:=r1
  cases ha:z.cps.all (· < 128)
  ·exact wpAny_pyIter_wide ha ⟨s1.heap.objs.size,[s1.heap.objs.size],_,K1 z,H1,rfl,I1.kept (t':=s1.toks) λ b o e=>j1 _ e,qK _ z t "str_iterator" (by decide) (λ A' hA=>Walks.strWide hA _ z t) (λ _ _ _ _ _ st h=>wpAny_pyIter_striter_wide st h),⟨_,l5 _ rfl,rfl,rfl⟩,fp,q⟩
  ·exact wpAny_pyIter_ascii ha ⟨s1.heap.objs.size,[s1.heap.objs.size],_,K1 z,H1,rfl,I1.kept (t':=s1.toks) λ b o e=>j1 _ e,qK _ z t "str_ascii_iterator" (by decide) (λ A' hA=>Walks.strAscii hA _ z t) (λ _ _ _ _ _ st h=>wpAny_pyIter_striter_ascii st h),⟨_,l5 _ rfl,rfl,rfl⟩,fp,q⟩
 |ref a=>
  cases(show v=Value.ref a from r1)
  rcases q1 with⟨xs,hq,q⟩|⟨xs,hq,q⟩
  ·obtain⟨au,rv,p,hz⟩:=I1.list hq
   exact o8 p.isList ⟨s1.heap.objs.size,[s1.heap.objs.size],_,_,H1,rfl,I1.kept (t':=s1.toks) λ b o e=>j1 _ e,wW a _,⟨_,l5 _ rfl,rfl,rfl⟩,fp,q⟩
  ·obtain⟨au,rv,p,hz⟩:=I1.tuple hq
   exact wpAny_pyIter_tuple (show s1.heap.IsTuple a au.toArray from p) ⟨s1.heap.objs.size,[s1.heap.objs.size],_,_,H1,rfl,I1.kept (t':=s1.toks) λ b o e=>j1 _ e,tU a _,⟨_,l5 _ rfl,rfl,rfl⟩,fp,q⟩
 |_=>exact False.elim q1
end
end L2
namespace L2
open PySem PySem.Spec PyProof.Rows
inductive IK where
 |i (n:Int)
 |t (ks:List IK)
noncomputable instance:DecidableEq IK:=λ a b=>Classical.propDecidable (a=b)
mutual
def IK.dep:IK->Nat
 | .i _=>0
 | .t ks=>IK.mz ks+1
def IK.mz:List IK->Nat
 |[]=>0
 |k::ks=>max k.dep (IK.mz ks)
end
mutual
def Bf:IK->Int
 | .i n=>hashInt n
 | .t ks=>reduceHash (Builtin.Tuple.tupleHashOf (qd ks))
def qd:List IK->List Int
 |[]=>[]
 |k::ks=>Bf k::qd ks
end
mutual
def yF:IK->Nat
 | .i _=>1
 | .t ks=>gu ks+1
def gu:List IK->Nat
 |[]=>0
 |k::ks=>yF k+gu ks
end
mutual
def cT(h:Heap):IK->Value->Prop
 | .i n,v=>∃t,v=.int n t
 | .t ks,v=>∃(a:Addr) (o:Obj) (au:List Value) (n:Nat),v=.ref a/\h.get? a=some o/\o.cls=.type "tuple"/\o.data=.seq au.toArray n/\cg h ks au
def cg(h:Heap):List IK->List Value->Prop
 |[],vs=>vs=[]
 |k::ks,vs=>∃v r,vs=v::r/\cT h k v/\cg h ks r
end
mutual
def oz:IK->PyData
 | .i n=>.int n
 | .t ks=>.tuple (gs ks)
def gs:List IK->List PyData
 |[]=>[]
 |k::ks=>oz k::gs ks
end
theorem sf:∀ks:List IK,qd ks=ks.map Bf
 |[]=>by unfold qd;rfl
 |k::ks=>by unfold qd;rw[sf ks];rfl
theorem r_:∀(ks ls:List IK),gu (ks++ls)=gu ks+gu ls
 |[],ls=>by rw[nil_append];unfold gu;split <;> omega
 |k::ks,ls=>by
  rw[cons_append]
  have:=r_ ks ls
  show yF k+gu (ks++ls)=yF k+gu ks+gu ls
  omega
theorem Bd(k:IK):gu [k]=yF k:=by show yF k+gu []=yF k;unfold gu;omega
theorem Be:gu []=0:=by unfold gu;rfl
theorem iU:∀{ks:List IK} {k:IK},k∈ks->k.dep<=IK.mz ks
 |k0::ks,k,h=>by
  show k.dep<=max k0.dep (IK.mz ks)
  rcases y1.mp h with rfl|h
  ·exact Nat.le_max_left _ _
  ·exact y8 (iU h) (Nat.le_max_right _ _)
section
variable {prog:Program}{w:World}
theorem ES:∀(n:Nat) (k:IK),k.dep<=n->∀{A:Around} {E:Value->Shared->Prop} {s:Shared} {v:Value} {Q:Int->Shared->Prop},A.units+k.dep < cLine->cT s.heap k v->Q (Bf k) {s with toks:=s.toks+yF k}->wpAny (model prog w) A (pyHash v) Q E s:=by
 intro n
 induction n with
 |zero=>
  intro k hk A E s v Q hu hi h
  cases k with
  |i m=>
   unfold cT at hi
   obtain⟨t,rfl⟩:=hi
   unfold Bf yF at h
   exact wpAny_pyHash_int h
  |t ks=>unfold IK.dep at hk;omega
 |succ n ih=>
  intro k hk A E s v Q hu hi h
  cases k with
  |i m=>
   unfold cT at hi
   obtain⟨t,rfl⟩:=hi
   unfold Bf yF at h
   exact wpAny_pyHash_int h
  |t ks=>
   unfold cT at hi
   obtain⟨a,o,au,m,rfl,ho,hc,hd,hits⟩:=hi
   have mj:IK.mz ks<=n:=by unfold IK.dep at hk;omega
   have Sf:A.units+(IK.mz ks+1) < cLine:=by unfold IK.dep at hu;exact hu
   have hT:s.TypeIs (.ref a) "tuple":=⟨o,ho,hc⟩
   unfold pyHash;(first|unfold pyHashByItsType|skip);(first|refine z6 (wpAny_cRoomFor_or (.inr (show A.units < cLine by omega)) ?_)|skip)
   refine z6 (wpAny_specialOf hT F.slot_tuple_hash.lookup ?_);show wpAny _ _ (if(some (Value.builtin "tuple.__hash__")==some Value.none)=true then _ else _) Q E s;rw[A4 (by rw[beq_builtin_none];exact l7)]
   refine z6 (wpAny_specialOf hT F.slot_tuple_hash.lookup ?_);show wpAny _ _ (callSpecialIfBoundUnlessNone? (.ref a) "__hash__" _ >>= _) Q E s
   refine z6 (wpAny_callSpecialIfBoundUnlessNone?_slot hT F.slot_tuple_hash (q8 F.slot_tuple_hash hT F.entry_tuple_hash ?_ (F.args_tuple_hash_1 _)));show wpAny _ _ (Builtin.Tuple.tupleItemsOf (.ref a) >>= _) _ _ s
   refine z6 (wpAny_tupleItemsOf ho hd (z6 ?_));rw[<- Array.forIn_toList]
   refine wpAny_forIn_list _ (λ rest (b:Array Int) s'=>∃done left,ks=done++left/\cg s.heap left rest/\b.toList=done.map Bf/\s'={s with toks:=s.toks+gu done}) _ ?_ ?_ _ _ ⟨[],ks,rfl,hits,rfl,by rw[Be];rfl⟩
   ·rintro x rest b s' ⟨done,left,rfl,hl,hb,rfl⟩
    cases left with
    |nil=>unfold cg at hl;cases hl
    |cons k1 left=>
     unfold cg at hl
     obtain⟨v,r,e,h1,h2⟩:=hl
     cases e
     have hm:=iU (ks:=done++k1::left) (k:=k1) (by simp)
     refine z6 (ih k1 (by omega) (A:=A.in1) (show A.units+1+_ < cLine by omega) h1 ?_)
     have fin:∃d2 l2,done++k1::left=d2++l2/\cg s.heap l2 rest/\(b.push (Bf k1)).toList=d2.map Bf/\({s with toks:=s.toks+gu done+yF k1}:Shared)={s with toks:=s.toks+gu d2}:=
      ⟨done++[k1],left,by simp,h2,by simp[hb],by rw[r_,Bd,Nat.add_assoc]⟩
     first|exact z7 fin|exact z6 (z7 (z7 fin))
   ·rintro b s' ⟨done,left,rfl,hl,hb,rfl⟩
    cases left with
    |cons k1 left=>unfold cg at hl;obtain⟨v,r,e,_⟩:=hl;cases e
    |nil=>
     rw[s9]at h
     show wpAny _ _ (retInt (Builtin.Tuple.tupleHashOf b.toList)) _ _ _;rw[hb,<- sf];refine wpAny_ret_mkInt ?_
     show wpAny _ _ (if(decide (-(2:Int)^63<=Builtin.Tuple.tupleHashOf (qd done))&&decide (Builtin.Tuple.tupleHashOf (qd done) < 2^63))=true then _ else _) Q E _
     unfold Bf yF reduceHash at h
     by_cases hr:(decide (-(2:Int)^63<=Builtin.Tuple.tupleHashOf (qd done))&&decide (Builtin.Tuple.tupleHashOf (qd done) < 2^63))=true
     ·rw[A3 hr]at h ⊢;exact z7 (by simpa[Nat.add_assoc]using h)
     ·rw[A4 hr]at h ⊢;exact z6 (wpAny_rule (z7 (by simpa[Nat.add_assoc]using h)))
end
end L2
namespace L2
open PySem PySem.Spec PyProof.Rows
mutual
theorem mh{h:Heap}:∀(k:IK) {v:Value},cT h k v->∃as,Reads h v (oz k) as
 | .i n,v,x=>by
  unfold cT at x
  obtain⟨t,rfl⟩:=x
  unfold oz
  exact⟨_,Reads.int n t⟩
 | .t ks,v,x=>by
  unfold cT at x
  obtain⟨a,o,au,n,rfl,ho,hc,hd,q⟩:=x
  obtain⟨as,r⟩:=ow ks q
  unfold oz
  exact⟨_,reads_tuple_at ho hc hd (by simpa using r)⟩
theorem ow{h:Heap}:∀(ks:List IK) {vs:List Value},cg h ks vs->∃as,ReadsAll h vs (gs ks) as
 |[],vs,x=>by
  unfold cg at x
  subst x
  unfold gs
  exact⟨_,ReadsAll.nil⟩
 |k::ks,vs,x=>by
  unfold cg at x
  obtain⟨v,r,rfl,h1,h2⟩:=x
  obtain⟨as,a⟩:=mh k h1
  obtain⟨bs,b⟩:=ow ks h2
  unfold gs
  exact⟨_,ReadsAll.cons a b⟩
end
mutual
theorem qa:∀k:IK,(oz k).canLay0=true
 | .i n=>by unfold oz;simp[PyData.canLay0]
 | .t ks=>by unfold oz;simp only[PyData.canLay0];exact rY ks
theorem rY:∀ks:List IK,PyData.canLayAll0 (gs ks)=true
 |[]=>by unfold gs;simp[PyData.canLayAll0]
 |k::ks=>by unfold gs;simp only[PyData.canLayAll0];rw[qa k,rY ks];rfl
end
mutual
theorem qc:∀k:IK,(oz k).depth=k.dep
 | .i n=>by unfold oz IK.dep;simp[PyData.depth]
 | .t ks=>by unfold oz IK.dep;simp only[PyData.depth];rw[rZ ks]
theorem rZ:∀ks:List IK,PyData.depthAll (gs ks)=IK.mz ks
 |[]=>by unfold gs IK.mz;simp[PyData.depthAll]
 |k::ks=>by unfold gs IK.mz;simp only[PyData.depthAll];rw[qc k,rZ ks]
end
mutual
theorem Bc:∀a b:IK,PyData.eqv (oz a) (oz b)=true↔a=b
 | .i n,.i m=>by unfold oz;simp[PyData.eqv]
 | .i n,.t ks=>by unfold oz;simp[PyData.eqv]
 | .t ks,.i n=>by unfold oz;simp[PyData.eqv]
 | .t ks,.t ls=>by unfold oz;simp only[PyData.eqv,IK.t.injEq];exact wa ks ls
theorem wa:∀as bs:List IK,PyData.eqvAll (gs as) (gs bs)=true↔as=bs
 |[],[]=>by unfold gs;simp[PyData.eqvAll]
 |[],b::bs=>by unfold gs;simp[PyData.eqvAll]
 |a::as,[]=>by unfold gs;simp[PyData.eqvAll]
 |a::as,b::bs=>by
  unfold gs
  simp only[PyData.eqvAll,q9,List.cons.injEq]
  rw[Bc a b,wa as bs]
end
mutual
theorem Bb{h:Heap}:∀(x y:IK) {v:Value},cT h x v->cT h y v->x=y
 | .i n,.i m,v,a,b=>by
  unfold cT at a b
  obtain⟨t,rfl⟩:=a
  obtain⟨u,e⟩:=b
  cases e
  rfl
 | .i n,.t ks,v,a,b=>by
  unfold cT at a b
  obtain⟨t,rfl⟩:=a
  obtain⟨_,_,_,_,e,_⟩:=b
  cases e
 | .t ks,.i n,v,a,b=>by
  unfold cT at a b
  obtain⟨t,rfl⟩:=b
  obtain⟨_,_,_,_,e,_⟩:=a
  cases e
 | .t ks,.t ls,v,a,b=>by
  unfold cT at a b
  obtain⟨a1,o1,i1,n1,rfl,g1,_,d1,q1⟩:=a
  obtain⟨a2,o2,i2,n2,e,g2,_,d2,q2⟩:=b
  cases e
  rw[g1]at g2
  cases g2
  rw[d1]at d2
  cases d2
  rw[v_ ks ls q1 q2]
theorem v_{h:Heap}:∀(xs ys:List IK) {vs:List Value},cg h xs vs->cg h ys vs->xs=ys
 |[],[],vs,_,_=>rfl
 |[],y::ys,vs,a,b=>by
  unfold cg at a b
  subst a
  obtain⟨_,_,e,_⟩:=b
  cases e
 |x::xs,[],vs,a,b=>by
  unfold cg at a b
  subst b
  obtain⟨_,_,e,_⟩:=a
  cases e
 |x::xs,y::ys,vs,a,b=>by
  unfold cg at a b
  obtain⟨v,r,rfl,a1,a2⟩:=a
  obtain⟨v2,r2,e,b1,b2⟩:=b
  cases e
  rw[Bb x y a1 b1,v_ xs ys a2 b2]
end
theorem JK{h:Heap}{k:IK}{v:Value}(x:cT h k v){d:Addr}{o:Obj}{es:Array DictEntry}{ep:Nat}(ho:h.get? d=some o)(hd:o.data=.dict es ep){h':Heap}(hs:Heap.SameBut d h h'):cT h' k v:=by
 have gen:∀(n:Nat) (k:IK),k.dep<=n->∀v,cT h k v->cT h' k v:=by
  intro n
  induction n with
  |zero=>
   intro k hk v x
   cases k with
   |i m=>unfold cT at x ⊢;exact x
   |t ks=>unfold IK.dep at hk;omega
  |succ n ih=>
   intro k hk v x
   cases k with
   |i m=>unfold cT at x ⊢;exact x
   |t ks=>
    unfold cT at x ⊢
    obtain⟨a,o',au,m,e,gR,hc,fM,r⟩:=x
    have eG:a≠d:=λ z=>by
     subst z
     rw[ho]at gR
     cases gR
     rw[hd]at fM
     cases fM
    refine⟨a,o',au,m,e,(hs.2 a eG).trans gR,hc,fM,?_⟩
    have mj:IK.mz ks<=n:=by unfold IK.dep at hk;omega
    have all:∀(ls:List IK) (vs:List Value),(∀l∈ls,l.dep<=n)->cg h ls vs->cg h' ls vs:=by
     intro ls
     induction ls with
     |nil=>intro vs _ y;unfold cg at y ⊢;exact y
     |cons l ls TC=>
      intro vs hl y
      unfold cg at y ⊢
      obtain⟨v,r,e,h1,h2⟩:=y
      exact⟨v,r,e,ih l (hl l (l6 ..)) v h1,TC r (λ z hz=>hl z (j9 _ hz)) h2⟩
    exact all ks au (λ l hl=>y8 (iU hl) mj) r
 exact gen k.dep k (y9 _) v x
section
variable {prog:Program}{w:World}
theorem Ba:∀(n:Nat) (k:IK),k.dep<=n->∀{A:Around} {E:Value->Shared->Prop} {s:Shared} {v:Value} {Q:Bool->Shared->Prop},cT s.heap k v->Q true s->wpAny (model prog w) A (eqIsQuiet n v) Q E s:=by
 intro n
 induction n with
 |zero=>
  intro k hk A E s v Q hi h
  cases k with
  |i m=>
   unfold cT at hi
   obtain⟨t,rfl⟩:=hi
   rw[eqIsQuiet_byValue _ rfl]
   exact z7 h
  |t ks=>unfold IK.dep at hk;omega
 |succ n ih=>
  intro k hk A E s v Q hi h
  cases k with
  |i m=>
   unfold cT at hi
   obtain⟨t,rfl⟩:=hi
   rw[eqIsQuiet_byValue _ rfl]
   exact z7 h
  |t ks=>
   unfold cT at hi
   obtain⟨a,o,au,m,rfl,ho,hc,hd,hits⟩:=hi
   have mj:IK.mz ks<=n:=by unfold IK.dep at hk;omega
   have hT:s.TypeIs (.ref a) "tuple":=⟨o,ho,hc⟩
   unfold eqIsQuiet;refine z6 (wpAny_specialOf hT F.slot_tuple_eq.lookup ?_);show wpAny _ _ (isInstance (.ref a) (.type "tuple") >>= _) _ _ s
   refine z6 (wpAny_isInstance hT isSubtype_tuple_tuple ?_);simp only[Bool.not_true,l9,A0]
   refine z6 (wpAny_seqItems ho hd (z6 ?_));show wpAny _ _ (forIn au.toArray _ _) _ _ s;rw[<- Array.forIn_toList]
   refine wpAny_forIn_list _ (λ rest r s'=>r.1=none/\s'=s/\∃left,(∀l∈left,l∈ks)/\cg s.heap left rest) _ ?_ ?_ _ _ ⟨rfl,rfl,ks,λ l hl=>hl,hits⟩
   ·rintro x rest r s' ⟨hr,rfl,left,MD,hl⟩
    cases left with
    |nil=>unfold cg at hl;cases hl
    |cons k1 left=>
     unfold cg at hl
     obtain⟨v,r',e,h1,h2⟩:=hl
     cases e
     refine z6 (ih k1 (y8 (iU (MD k1 (l6 ..))) mj) h1 ?_);simp only[Bool.not_true,l9,A0]
     exact z7 ⟨rfl,rfl,left,λ l hl=>MD l (j9 _ hl),h2⟩
   ·rintro⟨r1,r2⟩ s' ⟨hr,rfl,_⟩
    simp only at hr
    subst hr
    exact z7 h
def lq(prog:Program)(w:World):HeapKind prog w IK where
 is:=λ h k a=>k.dep<=5/\cT h k (.ref a)
 hash:=Bf
 draws:=yF
 room:=λ A=>A.units+8 < cLine
 inj:=λ hx hy=>Bb _ _ hx.2 hy.2
 keeps:=λ x ho hd hs=>⟨x.1,JK x.2 ho hd hs⟩
 pyHash:=λ hu hk h=>ES 5 _ hk.1 (by have:=hk.1;omega) hk.2 h
 eqBool:=λ{A E s x y a b Q} hu hx hy h=>by
  obtain⟨as,ra⟩:=mh x hx.2
  obtain⟨bs,rb⟩:=mh y hy.2
  refine p5 (oz x) (oz y) A s _ _ _ _ ra rb (qa x) (qa y) ?_ prog w E Q ?_
  ·rw[qc,qc]
   have:=hx.1
   have:=Nat.min_le_left x.dep y.dep
   omega
  ·have e:PyData.eqv (oz x) (oz y)=decide (x=y):=by
    rw[r9,n4]
    exact Bc x y
   rw[e]
   exact h
 quiet:=λ hk h=>Ba 8 _ (y8 hk.1 (by decide)) hk.2 h
end
end L2
namespace L2
open PySem PySem.Spec PyProof.Rows
section
variable {κ:Type}[DecidableEq κ]
def hZ(aw:List (κ×V))(k:κ):Option V:=(aw.find? λ kv=>decide (kv.1=k)).map (·.2)
def putK(aw:List (κ×V))(k:κ)(v:V):List (κ×V):=
 if(aw.any λ kv=>decide (kv.1=k))=true then aw.map (λ kv=>if kv.1=k then(kv.1,v)else kv)else aw++[(k,v)]
theorem lg{p:κ×V}{r:List (κ×V)}{k:κ}(e:p.1=k):hZ (p::r) k=some p.2:=by simp[hZ,u3,e]
theorem lh{p:κ×V}{r:List (κ×V)}{k:κ}(e:¬p.1=k):hZ (p::r) k=hZ r k:=by simp[hZ,u3,e]
theorem ll(k:κ):∀aw:List (κ×V),(aw.any λ kv=>decide (kv.1=k))=(hZ aw k).isSome
 |[]=>rfl
 |p::r=>by
  rw[any_cons]
  by_cases e:p.1=k
  ·simp only[lg e,x3 e,Bool.true_or,Option.isSome_some]
  ·rw[lh e,u4 e,Bool.false_or];exact ll k r
theorem jF(aw:List (κ×V))(k:κ)(v:V):(putK aw k v).length<=aw.length+1:=by
 unfold putK
 split
 ·rw[w5];omega
 ·rw[l8,p8,length_nil];omega
theorem fX.dQ {o:Option V}{u:Option Value}(r:fX o u):o.isSome=u.isSome:=by
 cases o with
 |none=>cases u with
  |none=>rfl
  |some _=>exact(show False from r).elim
 |some _=>cases u with
  |none=>exact(show False from r).elim
  |some _=>rfl
theorem KV.val {aw:List (κ×V)}{vs:List (κ×Value)}(r:KV aw vs)(k:κ):fX (hZ aw k) (valueAt vs k):=by
 unfold KV at r
 induction r with
 |nil=>exact True.intro
 |@cons p q ps qs h t ih=>
  obtain⟨h1,h2⟩:=h
  by_cases e:p.1=k
  ·have e':q.1=k:=h1.symm.trans e
   have b:valueAt (q::qs) k=some q.2:=by simp[valueAt,u3,e']
   rw[lg e,b];exact h2
  ·have e':¬q.1=k:=λ z=>e (h1.trans z)
   have b:valueAt (q::qs) k=valueAt qs k:=by simp[valueAt,u3,e']
   rw[lh e,b];exact ih
theorem KV.any {aw:List (κ×V)}{vs:List (κ×Value)}(r:KV aw vs)(k:κ):(aw.any λ kv=>decide (kv.1=k))=vs.any λ kv=>decide (kv.1=k):=by
 unfold KV at r
 induction r with
 |nil=>rfl
 |cons h t ih=>rw[any_cons,any_cons,ih,h.1]
theorem KV.zr {aw:List (κ×V)}{vs:List (κ×Value)}(r:KV aw vs)(k:κ){y:V}{u:Value}(ry:RelV y u):
  KV (aw.map λ kv=>if kv.1=k then(kv.1,y)else kv) (vs.map λ kv=>if kv.1=k then(kv.1,u)else kv):=by
 unfold KV at r ⊢
 induction r with
 |nil=>exact .nil
 |@cons p q ps qs h t ih=>
  rw[y0,y0]
  refine .cons ?_ ih
  obtain⟨h1,h2⟩:=h
  by_cases e:p.1=k
  ·rw[A3 e,A3 (h1.symm.trans e)];exact⟨h1,ry⟩
  ·rw[A4 e,A4 (λ z=>e (h1.trans z))];exact⟨h1,h2⟩
theorem KV.put {aw:List (κ×V)}{vs:List (κ×Value)}(r:KV aw vs)(k:κ){y:V}{u:Value}(ry:RelV y u):KV (putK aw k y) (stored vs k u):=by
 unfold putK stored
 rw[r.any k]
 by_cases e:(vs.any λ kv=>decide (kv.1=k))=true
 ·rw[A3 e,A3 e];exact r.zr k ry
 ·rw[A4 e,A4 e];exact Paired.snoc r ⟨rfl,ry⟩
theorem KV.length {aw:List (κ×V)}{vs:List (κ×Value)}(r:KV aw vs):aw.length=vs.length:=x8 r
end
theorem rW{P:Program}{w:World}{k:Key}{u:Value}(r:RelV (kV k) u):(b_ P w).is k u=true:=by
 cases k with
 |inl i=>obtain⟨t,e⟩:=(show ∃t,u=Value.int i t from r);subst e;exact jD P w i t
 |inr x=>obtain⟨t,e⟩:=(show ∃t,u=Value.str x t from r);subst e;exact rF P w x t
theorem oo{P:Program}{w:World}:∀{ks:List Key} {us:List Value},Vals (ks.map kV) us->ItemsAre (b_ P w) ks us
 |[],_,r=>by rw[map_nil]at r;cases r;exact .nil
 |k::ks,_,r=>by
  rw[y0]at r
  cases r with
  |cons h t=>exact .cons (rW h) (oo t)
abbrev KT(H:Hp):List (List Key×V)->List (List Key×Addr×Value)->Prop:=Paired λ p q=>p.1=q.1/\H q.2.1=some (.tup (p.1.map kV))/\RelV p.2 q.2.2
theorem KT.val {H:Hp}{aw:List (List Key×V)}{xs:List (List Key×Addr×Value)}(r:KT H aw xs)(k:List Key):fX (hZ aw k) ((atKey xs k).map (·.2)):=by
 induction r with
 |nil=>exact True.intro
 |@cons p q ps qs h t ih=>
  obtain⟨h1,_,h2⟩:=h
  by_cases e:p.1=k
  ·have e':q.1=k:=h1.symm.trans e
   have b:atKey (q::qs) k=some q.2:=by simp[atKey,u3,e']
   rw[lg e,b];exact h2
  ·have e':¬q.1=k:=λ z=>e (h1.trans z)
   have b:atKey (q::qs) k=atKey qs k:=by simp[atKey,u3,e']
   rw[lh e,b];exact ih
theorem KT.zr {H:Hp}{aw:List (List Key×V)}{xs:List (List Key×Addr×Value)}(r:KT H aw xs)(k:List Key){y:V}{u:Value}(ry:RelV y u):
  KT H (aw.map λ kv=>if kv.1=k then(kv.1,y)else kv) (xs.map (putAt k u)):=by
 induction r with
 |nil=>exact .nil
 |@cons p q ps qs h t ih=>
  rw[y0,y0]
  refine .cons ?_ ih
  obtain⟨h1,h2,h3⟩:=h
  unfold putAt
  by_cases e:p.1=k
  ·rw[A3 e,A3 (h1.symm.trans e)];exact⟨h1,h2,ry⟩
  ·rw[A4 e,A4 (λ z=>e (h1.trans z))];exact⟨h1,h2,h3⟩
theorem KT.put {H:Hp}{aw:List (List Key×V)}{xs:List (List Key×Addr×Value)}(r:KT H aw xs)(k:List Key){b:Addr}{y:V}{u:Value}(hb:H b=some (.tup (k.map kV)))(ry:RelV y u):
  KT H (putK aw k y) (storedH xs k b u):=by
 have e:(aw.any λ kv=>decide (kv.1=k))=(atKey xs k).isSome:=by
  rw[ll,(r.val k).dQ,p0]
 unfold putK storedH
 rw[e]
 by_cases q:(atKey xs k).isSome=true
 ·rw[A3 q,A3 q];exact r.zr k ry
 ·rw[A4 q,A4 q];exact Paired.snoc r ⟨rfl,hb,ry⟩
theorem KT.keeps {H H':Hp}{aw:List (List Key×V)}{xs:List (List Key×Addr×Value)}(r:KT H aw xs)(ht:∀b ys,H b=some (.tup ys)->H' b=some (.tup ys)):KT H' aw xs:=
 Paired.AF r λ _ _ z=>⟨z.1,ht _ _ z.2.1,z.2.2⟩
section
variable {P:Program}{w:World}{H:Hp}{h:Heap}{a:Addr}
theorem FU{u:HO}(ok:fw P w H h)(e:Rd H a u):bA P w H h a u:=e.ok ok
theorem oH{aw:List (Key×V)}(ok:fw P w H h)(e:Rd H a (.dK aw)):aw.length<=sizeLine/\(a==sysModules)=false/\∃vs,KV aw vs/\h.DictOf (b_ P w) a vs:=
 show bA P w H h a (.dK aw)from FU ok e
theorem Nv{aw:List (Key×V)}(ok:fw P w H h)(e:H a=some (.dK aw)):aw.length<=sizeLine/\(a==sysModules)=false/\∃vs,KV aw vs/\h.DictOf (b_ P w) a vs:=oH ok (.inl e)
theorem ma{ks:List Key}(ok:fw P w H h)(e:H a=some (.tup (ks.map kV))):(tupleKind (b_ P w)).is h ks a:=by
 obtain⟨_,au,r,o,h1,h2,n,h3⟩:=(show bA P w H h a (.tup (ks.map kV))from ok a _ e)
 exact⟨o,au.toArray,n,h1,h2,h3,by simpa using oo r⟩
theorem sH{aw:List (List Key×V)}(ok:fw P w H h)(e:Rd H a (.dT aw)):aw.length<=sizeLine/\(a==sysModules)=false/\
  ∃xs,KT H aw xs/\h.DictOfH (tupleKind (b_ P w)) a xs:=by
 obtain⟨z,y,xs,r,o,es,ep,h1,h2,h3,h4,h5⟩:=(show bA P w H h a (.dT aw)from FU ok e)
 refine⟨z,y,xs,r,o,es,ep,h1,h2,h3,h4,λ x hx=>?_,h5⟩
 have all:∀{l:List (List Key×V)} {m:List (List Key×Addr×Value)},KT H l m->∀x∈m,(tupleKind (b_ P w)).is h x.1 x.2.1:=by
  intro l m q
  induction q with
  |nil=>intro x hx;exact nomatch hx
  |@cons p q ps qs hq t ih=>
   intro x hx
   rcases y1.mp hx with e|hx
   ·subst e
    exact ma ok (by rw[<- hq.1];exact hq.2.1)
   ·exact ih x hx
 exact all r x hx
theorem Nu{aw:List (List Key×V)}(ok:fw P w H h)(e:H a=some (.dT aw)):aw.length<=sizeLine/\(a==sysModules)=false/\
  ∃xs,KT H aw xs/\h.DictOfH (tupleKind (b_ P w)) a xs:=sH ok (.inl e)
end
def nH(H:Hp)(a:Addr)(y:V)(r:Option V):Prop:=
 (∃aw k,Rd H a (.dK aw)/\y=kV k/\r=hZ aw k)\/∃aw k b,Rd H a (.dT aw)/\y=.ref b/\H b=some (.tup (k.map kV))/\r=hZ aw k
def Ca(H:Hp)(a:Addr)(y v:V)(H':Hp):Prop:=
 (∃aw k,H a=some (.dK aw)/\y=kV k/\aw.length < sizeLine/\H'=upd H a (.dK (putK aw k v)))\/
 ∃aw k b,H a=some (.dT aw)/\y=.ref b/\H b=some (.tup (k.map kV))/\aw.length < sizeLine/\H'=upd H a (.dT (putK aw k v))
theorem nH.k {H:Hp}{a:Addr}{aw:List (Key×V)}{k:Key}(e:H a=some (.dK aw)):nH H a (kV k) (hZ aw k):=.inl ⟨aw,k,.inl e,rfl,rfl⟩
theorem Ca.k {H:Hp}{a:Addr}{aw:List (Key×V)}{k:Key}{v:V}(e:H a=some (.dK aw))(hl:aw.length < sizeLine):Ca H a (kV k) v (upd H a (.dK (putK aw k v))):=.inl ⟨aw,k,e,rfl,hl,rfl⟩
section
variable {X:Cx}{pins:List (Addr×Obj)}{σ:St}{H:Hp}{s:Shared}{a:Addr}{y v:V}{u r:Value}{o:Option V}{A:Around}{E:Value->Shared->Prop}
theorem Inv.big (I:Inv X pins σ H s):sysModules < s.heap.objs.size:=by
 have h:mainGlobals < s.heap.objs.size:=(I.mod.glob.keeps I.bk).lt
 exact Nat.lt_trans (by decide) h
theorem yl{Q:Value->Shared->Prop}(hu:A.units+1 < cLine)(I:Inv X pins σ H s)(g:nH H a y (some v))(ry:RelV y u)(h:∀w' s',Inv X pins σ H s'->RelV v w'->Q w' s'):
  wpAny (model X.prog X.w) A (getItem (.ref a) u) Q E s:=by
 rcases g with⟨aw,k,e,ey,l⟩|⟨aw,k,b,e,ey,eb,l⟩
 ·subst ey
  obtain⟨z,hd,vs,rel,dd⟩:=oH I.a_ e
  obtain⟨w',hw,xk⟩:=fX.some_of (v:=v) (o:=valueAt vs k) (by rw[l];exact rel.val k)
  exact wpAny_getItem_of (rW ry) dd.mapOf hw (h w' _ (I.tok _) xk)
 ·subst ey
  cases(show u=Value.ref b from ry)
  obtain⟨z,hd,xs,rel,dd⟩:=sH I.a_ e
  obtain⟨w',hw,xk⟩:=fX.some_of (v:=v) (o:=(atKey xs k).map (·.2)) (by rw[l];exact rel.val k)
  obtain⟨p,hp,oB⟩:=Option.map_eq_some_iff.mp hw
  refine wpAny_getItem_heap (tupleKind_room_in1 hu) (ma I.a_ eb) dd hp ?_
  rw[oB]
  exact h w' _ (I.tok _) xk
theorem RE{Q:Value->Shared->Prop}(hu:A.units+1 < cLine)(I:Inv X pins σ H s)(g:nH H a y o)(ry:RelV y u)(h:∀s',Inv X pins σ H s'->Q (.bool o.isSome) s'):
  wpAny (model X.prog X.w) A (compareOp .In u (.ref a)) Q E s:=by
 rcases g with⟨aw,k,e,ey,l⟩|⟨aw,k,b,e,ey,eb,l⟩
 ·subst ey
  obtain⟨z,hd,vs,rel,dd⟩:=oH I.a_ e
  refine wpAny_in_of (rW ry) hd dd.mapOf ?_
  rw[<- (rel.val k).dQ,<- l]
  exact h _ (I.tok _)
 ·subst ey
  cases(show u=Value.ref b from ry)
  obtain⟨z,hd,xs,rel,dd⟩:=sH I.a_ e
  refine wpAny_in_heap (tupleKind_room_in1 hu) (ma I.a_ eb) hd dd ?_
  have q:=(rel.val k).dQ
  rw[p0]at q
  rw[<- q,<- l]
  exact h _ (I.tok _)
theorem Fh{Q:Value->Shared->Prop}(hu:A.units+1 < cLine)(I:Inv X pins σ H s)(g:nH H a y o)(ry:RelV y u)(h:∀s',Inv X pins σ H s'->Q (.bool (!o.isSome)) s'):
  wpAny (model X.prog X.w) A (compareOp .NotIn u (.ref a)) Q E s:=by
 rcases g with⟨aw,k,e,ey,l⟩|⟨aw,k,b,e,ey,eb,l⟩
 ·subst ey
  obtain⟨z,hd,vs,rel,dd⟩:=oH I.a_ e
  refine wpAny_notIn_of (rW ry) hd dd.mapOf ?_
  rw[<- (rel.val k).dQ,<- l]
  exact h _ (I.tok _)
 ·subst ey
  cases(show u=Value.ref b from ry)
  obtain⟨z,hd,xs,rel,dd⟩:=sH I.a_ e
  refine wpAny_notIn_heap (tupleKind_room_in1 hu) (ma I.a_ eb) hd dd ?_
  have q:=(rel.val k).dQ
  rw[p0]at q
  rw[<- q,<- l]
  exact h _ (I.tok _)
theorem ql{h':Heap}{t':Nat}{ob:HO}(I:Inv X pins σ H s)(mu:Oa (H a))(hs:Heap.SameBut a s.heap h')(he:∃q,h'.get? a=some q)(new:bA X.prog X.w (upd H a ob) h' a ob):
  Inv X pins σ (upd H a ob) {s with heap:=h',toks:=t'}:=
 I.write (x:=a) (e:=a) mu (.inl rfl) (λ b q hb z=>(hs.2 b hb).trans z) he new
theorem Kh{P:Program}{w:World}{H':Hp}{h':Heap}{aw:List (Key×V)}{vs:List (Key×Value)}(z:aw.length<=sizeLine)(hd:(a==sysModules)=false)(rel:KV aw vs)(dd:h'.DictOf (b_ P w) a vs):
  bA P w H' h' a (.dK aw):=⟨z,hd,vs,rel,dd⟩
theorem yi{H':Hp}{Q:Unit->Shared->Prop}(hu:A.units+1 < cLine)(I:Inv X pins σ H s)(g:Ca H a y v H')(ry:RelV y u)(rv:RelV v r)(h:∀s',Inv X pins σ H' s'->Q () s'):
  wpAny (model X.prog X.w) A (setItem (.ref a) u r) Q E s:=by
 rcases g with⟨aw,k,e,ey,l,eH⟩|⟨aw,k,b,e,ey,eb,l,eH⟩
 ·subst ey eH
  obtain⟨z,hd,vs,rel,dd⟩:=Nv I.a_ e
  have hz:vs.length<=sizeLine:=by rw[<- rel.length];exact z
  have hl:(putK aw k v).length<=sizeLine:=by have:=jF aw k v;omega
  refine wpAny_setItem_pairs (hsz:=hz) (rW ry) dd λ h' Ki hs=>h _ ?_
  have he:∃q,h'.get? a=some q:=let⟨q,_,_,hq,_⟩:=Ki;⟨q,hq⟩
  exact ql I (by rw[e];exact True.intro) hs he (Kh hl hd (rel.put k rv) Ki)
 ·subst ey eH
  cases(show u=Value.ref b from ry)
  obtain⟨z,hd,xs,rel,dd⟩:=Nu I.a_ e
  have hz:xs.length<=sizeLine:=by rw[<- x8 rel];exact z
  have hl:(putK aw k v).length<=sizeLine:=by have:=jF aw k v;omega
  refine wpAny_setItem_heap (hsz:=hz) (tupleKind_room_in1 hu) (ma I.a_ eb) dd λ h' Ki hs=>h _ ?_
  obtain⟨q,es,ep,hq,h2,h3,h4,_,h5⟩:=Ki
  refine ql I (by rw[e];exact True.intro) hs ⟨q,hq⟩ ⟨hl,hd,_,(rel.put k eb rv).keeps λ c ys ec=>?_,q,es,ep,hq,h2,h3,h4,h5⟩
  rw[az (AE ec e (λ z=>nomatch z))]
  exact ec
end
section
variable {X:Cx}{pins:List (Addr×Obj)}{σ:St}{H:Hp}{s:Shared}{a:Addr}{aw:List (Key×V)}{k:Key}{u:Value}{A:Around}{E:Value->Shared->Prop}
theorem Nz{Q:Value->Shared->Prop}(I:Inv X pins σ H s)(e:Rd H a (.dK aw))(h:∀t s',Inv X pins σ H s'->Q (.int aw.length t) s'):wpAny (model X.prog X.w) A (call (.builtin "len") [.ref a]) Q E s:=by
 obtain⟨z,hd,vs,rel,dd⟩:=oH I.a_ e
 refine call_len_dict hd dd (by rw[<- rel.length];rw[z0]at z;omega) ?_
 rw[<- rel.length]
 exact h _ _ (I.tok _)
end
theorem sI{X:Cx}{pins:List (Addr×Obj)}{σ:St}{H:Hp}{s:Shared}{a:Addr}{y:V}{o:Option V}(I:Inv X pins σ H s)(g:nH H a y o):s.TypeIs (.ref a) "dict":=by
 rcases g with⟨aw,k,e,_,_⟩|⟨aw,k,b,e,_,_,_⟩
 ·obtain⟨_,_,vs,_,dd⟩:=oH I.a_ e
  exact dd.typeIs
 ·obtain⟨_,_,xs,_,dd⟩:=sH I.a_ e
  exact dd.typeIs
theorem BO{P:Program}{w:World}{H:Hp}(h:Heap)(hb:sysModules < h.objs.size):bA P w H (h.push {cls:=.type "dict",data:=.dict #[]}) h.objs.size (.dK []):=
 ⟨z4 _,beq_eq_false_iff_ne.mpr (A2 (y3 hb)),[],.nil,Heap.DictOf.new h⟩
def GW:TE:=λ _ H Q=>∀p,H p=none->Q (.ref p) (upd H p (.dK []))
section
variable {X:Cx}{pos:Pos}
theorem Ak:PE X (.Dict [] [] pos) GW:=λ pins s σ H Q I h=>
 wpAny_Dict_empty ⟨.ref s.heap.objs.size,_,I.laid (a:=s.heap.objs.size) (o:=.dK []) (t':=s.toks) (λ _ _ q=>j1 _ q) (y9 _) (BO s.heap I.big),rfl,h _ (I.a_.fresh (y9 _))⟩
end
end L2
namespace L2
open PySem PySem.Spec PyProof.Rows
mutual
def gQ(K:PySem.W.Frag)(H:Hp):IK->V->Prop
 | .i n,v=>v=.int n
 | .t ks,v=>∃p xs,v=.ref p/\fu K H p xs/\jG K H ks xs
def jG(K:PySem.W.Frag)(H:Hp):List IK->List V->Prop
 |[],xs=>xs=[]
 |k::ks,xs=>∃x r,xs=x::r/\gQ K H k x/\jG K H ks r
end
section
variable {X:Cx}{pins:List (Addr×Obj)}{σ:St}{H:Hp}{s:Shared}
mutual
theorem oj(I:Inv X pins σ H s):∀(k:IK) {v:V} {u:Value},gQ X.K H k v->RelV v u->cT s.heap k u
 | .i n,v,u,h,r=>by
  unfold gQ at h
  subst h
  unfold cT
  exact r
 | .t ks,v,u,h,r=>by
  unfold gQ at h
  obtain⟨p,xs,rfl,hq,hk⟩:=h
  cases(show u=Value.ref p from r)
  obtain⟨au,rv,⟨o,ho,hc,n,hd⟩,_⟩:=I.tuple hq
  unfold cT
  exact⟨p,o,au,n,rfl,ho,hc,hd,vV I ks hk rv⟩
theorem vV(I:Inv X pins σ H s):∀(ks:List IK) {xs:List V} {us:List Value},jG X.K H ks xs->Vals xs us->cg s.heap ks us
 |[],xs,us,h,r=>by
  unfold jG at h
  subst h
  cases r
  unfold cg
  rfl
 |k::ks,xs,us,h,r=>by
  unfold jG at h
  obtain⟨x,GD,rfl,h1,h2⟩:=h
  cases r with
  |cons r1 r2=>
   unfold cg
   exact⟨_,_,rfl,oj I k h1 r1,vV I ks h2 r2⟩
end
end
abbrev fq:=IK×Addr×V
def RA(x:IK×Addr×Value):DictEntry:=⟨Bf x.1,.ref x.2.1,x.2.2⟩
abbrev B9:List fq->List (IK×Addr×Value)->Prop:=Paired λ p q=>p.1=q.1/\p.2.1=q.2.1/\RelV p.2.2 q.2.2
def RC(a:Addr)(aw:List fq)(h:Heap):Prop:=aw.length<=sizeLine/\(a==sysModules)=false/\∃xs,B9 aw xs/\∃o es ep,h.get? a=some o/\o.ExactDict/\o.data=.dict es ep/\es.toList=xs.map RA/\(xs.map (·.1)).Nodup
def yh(a:Addr)(aw:List fq):HO:=.ext (RC a aw)
theorem BN{P:Program}{w:World}{H:Hp}{h:Heap}{a:Addr}{aw:List fq}(x:RC a aw h):bA P w H h a (yh a aw):=by
 obtain⟨z,y,xs,r,o,es,ep,e,c⟩:=id x
 exact⟨x,⟨o,e⟩,λ h1 h2 ⟨z,y,xs,r,o,es,ep,e,c⟩ q=>⟨z,y,xs,r,o,es,ep,q o e,c⟩⟩
noncomputable def iz (aw:List fq)(k:IK):Option V:=(aw.find? λ p=>decide (p.1=k)).map (·.2.2)
noncomputable def m_ (aw:List fq)(k:IK)(p:Addr)(v:V):List fq:=if(iz aw k).isSome=true then aw.map (λ x=>if x.1=k then(x.1,x.2.1,v)else x)else aw++[(k,p,v)]
theorem zT(aw:List fq)(k:IK)(p:Addr)(v:V):(m_ aw k p v).length<=aw.length+1:=by
 unfold m_
 split
 ·simp
 ·simp
theorem B9.val {aw:List fq}{xs:List (IK×Addr×Value)}(r:B9 aw xs)(k:IK):fX (iz aw k) ((atKey xs k).map (·.2)):=by
 induction r with
 |nil=>exact True.intro
 |@cons p q ps qs h t ih=>
  obtain⟨h1,_,h2⟩:=h
  unfold iz atKey at ih ⊢
  by_cases e:p.1=k
  ·have e':q.1=k:=h1.symm.trans e
   simp only[u3,x3 e,x3 e',Option.map_some]
   exact h2
  ·have e':¬q.1=k:=λ z=>e (h1.trans z)
   simp only[u3,u4 e,u4 e']
   exact ih
theorem B9.zr {aw:List fq}{xs:List (IK×Addr×Value)}(r:B9 aw xs)(k:IK){y:V}{u:Value}(ry:RelV y u):B9 (aw.map λ x=>if x.1=k then(x.1,x.2.1,y)else x) (xs.map (putAt k u)):=by
 induction r with
 |nil=>exact .nil
 |@cons p q ps qs h t ih=>
  rw[y0,y0]
  refine .cons ?_ ih
  obtain⟨h1,h2,h3⟩:=h
  unfold putAt
  by_cases e:p.1=k
  ·rw[A3 e,A3 (h1.symm.trans e)];exact⟨h1,h2,ry⟩
  ·rw[A4 e,A4 (λ z=>e (h1.trans z))];exact⟨h1,h2,h3⟩
theorem pZ{o:Option V}{u:Option Value}(r:fX o u):o.isSome=u.isSome:=r.dQ
theorem B9.put {aw:List fq}{xs:List (IK×Addr×Value)}(r:B9 aw xs)(k:IK){b:Addr}{y:V}{u:Value}(ry:RelV y u):B9 (m_ aw k b y) (storedH xs k b u):=by
 have e:(iz aw k).isSome=(atKey xs k).isSome:=by
  rw[pZ (r.val k),p0]
 unfold m_ storedH
 rw[e]
 by_cases q:(atKey xs k).isSome=true
 ·rw[A3 q,A3 q];exact r.zr k ry
 ·rw[A4 q,A4 q];exact Paired.snoc r ⟨rfl,rfl,ry⟩
structure nG(K:PySem.W.Frag)(H:Hp)(a:Addr)(aw:List fq):Prop where
 at_:H a=some (yh a aw)
 key:∀p∈aw,p.1.dep<=5/\gQ K H p.1 (.ref p.2.1)
section
variable {X:Cx}{pins:List (Addr×Obj)}{σ:St}{H:Hp}{s:Shared}{a b:Addr}{aw:List fq}{k:IK}{A:Around}{E:Value->Shared->Prop}{v:V}{u r:Value}
theorem nG.of (I:Inv X pins σ H s)(d:nG X.K H a aw):aw.length<=sizeLine/\(a==sysModules)=false/\∃xs,B9 aw xs/\s.heap.DictOfH (lq X.prog X.w) a xs:=by
 obtain⟨⟨z,y,xs,rel,o,es,ep,h1,h2,h3,h4,h5⟩,_,_⟩:=(show bA X.prog X.w H s.heap a (yh a aw)from I.a_ a _ d.at_)
 refine⟨z,y,xs,rel,o,es,ep,h1,h2,h3,h4,?_,h5⟩
 have all:∀{l:List fq} {m:List (IK×Addr×Value)},B9 l m->(∀p∈l,p.1.dep<=5/\gQ X.K H p.1 (.ref p.2.1))->∀x∈m,(lq X.prog X.w).is s.heap x.1 x.2.1:=by
  intro l m q
  induction q with
  |nil=>intro _ x hx;cases hx
  |@cons p q ps qs hq t ih=>
   intro hl x hx
   rcases y1.mp hx with rfl|hx
   ·obtain⟨c1,c2⟩:=hl p (l6 ..)
    rw[hq.1,hq.2.1]at c2
    rw[hq.1]at c1
    exact⟨c1,oj I _ c2 rfl⟩
   ·exact ih (λ p hp=>hl p (j9 _ hp)) x hx
 exact all rel d.key
theorem iE(hu:A.units+64 < cLine):(lq X.prog X.w).room A.in1:=(show A.units+1+8 < cLine by omega)
theorem wZ{Q:Value->Shared->Prop}(hu:A.units+64 < cLine)(I:Inv X pins σ H s)(d:nG X.K H a aw)(hk:k.dep<=5)(we:gQ X.K H k (.ref b))(g:iz aw k=some v)(h:∀w' s',Inv X pins σ H s'->RelV v w'->Q w' s'):
  wpAny (model X.prog X.w) A (getItem (.ref a) (.ref b)) Q E s:=by
 obtain⟨z,hd,xs,rel,dd⟩:=d.of I
 obtain⟨w',hw,xk⟩:=fX.some_of (v:=v) (o:=(atKey xs k).map (·.2)) (by rw[<- g];exact rel.val k)
 obtain⟨p,hp,oB⟩:=Option.map_eq_some_iff.mp hw
 refine wpAny_getItem_heap (iE hu) ⟨hk,oj I k we rfl⟩ dd hp ?_
 rw[oB]
 exact h w' _ (I.tok _) xk
theorem Pg{Q:Value->Shared->Prop}(hu:A.units+64 < cLine)(I:Inv X pins σ H s)(d:nG X.K H a aw)(hk:k.dep<=5)(we:gQ X.K H k (.ref b))(h:∀s',Inv X pins σ H s'->Q (.bool (iz aw k).isSome) s'):
  wpAny (model X.prog X.w) A (compareOp .In (.ref b) (.ref a)) Q E s:=by
 obtain⟨z,hd,xs,rel,dd⟩:=d.of I
 refine wpAny_in_heap (iE hu) ⟨hk,oj I k we rfl⟩ hd dd ?_
 have q:=pZ (rel.val k)
 rw[p0]at q
 rw[<- q]
 exact h _ (I.tok _)
theorem CG{Q:Value->Shared->Prop}(hu:A.units+64 < cLine)(I:Inv X pins σ H s)(d:nG X.K H a aw)(hk:k.dep<=5)(we:gQ X.K H k (.ref b))(h:∀s',Inv X pins σ H s'->Q (.bool (!(iz aw k).isSome)) s'):
  wpAny (model X.prog X.w) A (compareOp .NotIn (.ref b) (.ref a)) Q E s:=by
 obtain⟨z,hd,xs,rel,dd⟩:=d.of I
 refine wpAny_notIn_heap (iE hu) ⟨hk,oj I k we rfl⟩ hd dd ?_
 have q:=pZ (rel.val k)
 rw[p0]at q
 rw[<- q]
 exact h _ (I.tok _)
theorem wY{Q:Unit->Shared->Prop}(hu:A.units+64 < cLine)(I:Inv X pins σ H s)(d:nG X.K H a aw)(hk:k.dep<=5)(we:gQ X.K H k (.ref b))(hl:aw.length < sizeLine)(rv:RelV v r)(h:∀s',Inv X pins σ (upd H a (yh a (m_ aw k b v))) s'->Q () s'):
  wpAny (model X.prog X.w) A (setItem (.ref a) (.ref b) r) Q E s:=by
 obtain⟨z,hd,xs,rel,dd⟩:=d.of I
 have hz:xs.length<=sizeLine:=by rw[<- x8 rel];exact z
 have Bq:(m_ aw k b v).length<=sizeLine:=by have:=zT aw k b v;omega
 refine wpAny_setItem_heap (hsz:=hz) (iE hu) ⟨hk,oj I k we rfl⟩ dd λ h' Ki hs=>h _ ?_
 obtain⟨q,es,ep,hq,h2,h3,h4,_,h5⟩:=Ki
 exact ql I (by rw[d.at_];exact True.intro) hs ⟨q,hq⟩ (BN ⟨Bq,hd,_,rel.put k rv,q,es,ep,hq,h2,h3,h4,h5⟩)
end
section
variable {X:Cx}{pos:Pos}
theorem Ff(h:Heap)(hb:sysModules < h.objs.size):RC h.objs.size [] (h.push {cls:=.type "dict",data:=.dict #[]}):=
 ⟨z4 _,beq_eq_false_iff_ne.mpr (A2 (y3 hb)),[],.nil,_,#[],0,l5 _ rfl,⟨rfl,rfl,rfl⟩,rfl,rfl,nodup_nil⟩
def GX:TE:=λ _ H Q=>∀p,H p=none->Q (.ref p) (upd H p (yh p []))
theorem Al:PE X (.Dict [] [] pos) GX:=λ pins s σ H Q I h=>
 wpAny_Dict_empty ⟨.ref s.heap.objs.size,_,I.laid (a:=s.heap.objs.size) (o:=yh s.heap.objs.size []) (t':=s.toks) (λ _ _ q=>j1 _ q) (y9 _) (BN (Ff s.heap I.big)),rfl,h _ (I.a_.fresh (y9 _))⟩
end
section
variable {prog:Program}{w:World}
theorem HR{d:Addr}(hd:(d==sysModules)=false):MeetsIn prog w (Builtin.«dict.__len__» ⟨[.ref d],[]⟩) (λ _ R s=>∃o es ep,s.heap.get? d=some o/\o.data=.dict es ep/\R (.ok (.ret (.int es.size s.toks))) {s with toks:=s.toks+1}):=
 .of_wp λ A R s ⟨o,es,ep,ho,JW,h⟩=>by
  show wpAny _ _ (dictSize d >>= _) _ _ s;unfold dictSize;refine z6 (z6 (wpAny_dictEntries ho JW (z7 ?_)))
  show wpAny _ _ (Builtin.Dict.pendingCount d >>= _) _ _ s;refine z6 (wpAny_pendingCount_other hd (wpAny_ret_mkInt ?_));rw[Nat.add_zero];exact h
theorem td{A:Around}{E:Value->Shared->Prop}{s:Shared}{d:Addr}{o:Obj}{es:Array DictEntry}{ep:Nat}{Q:Value->Shared->Prop}(hd:(d==sysModules)=false)(ho:s.heap.get? d=some o)(hc:o.cls=.type "dict")(JW:o.data=.dict es ep)(hz:es.size<=sizeLine)
  (h:∀t n,Q (.int es.size t) {s with toks:=n}):wpAny (model prog w) A (call (.builtin "len") [.ref d]) Q E s:=by
 have hT:s.TypeIs (.ref d) "dict":=⟨o,ho,hc⟩
 have QH:sizeLine=16777216:=by decide
 have M_:((es.size:Nat):Int) < 2^63:=by omega
 refine Calls.call_function_entry kind_len plain_len entry_len (args_len1 _) ?_
 unfold Builtin.«len»;refine z6 (m:=oneArg "len" _) (z7 ?_)
 refine z6 (m:=callSpecial? (.ref d) (Str.ofString "__len__")) (i7 (name:=Str.ofString "__len__") hT F.slot_dict_len (call_meetsIn F.slot_dict_len hT F.entry_dict_len (F.args_dict_len_1 _) (HR hd) ⟨o,es,ep,ho,JW,?_⟩))
 show wpAny _ _ _ _ _ {s with toks:=s.toks+1};refine z6 (x5 (z7 (z6 (wpAny_letGo ?_))))
 show wpAny _ _ (if((es.size:Nat):Int) < 0 then _ else _) _ _ _;rw[A4 (by omega)]
 show wpAny _ _ (if((es.size:Nat):Int) ≥ 2^63 then _ else _) _ _ _;rw[A4 (by omega)]
 exact z6 (wpAny_mkInt (z7 ⟨_,rfl,h _ _⟩))
end
section
variable {X:Cx}{pins:List (Addr×Obj)}{σ:St}{H:Hp}{s:Shared}{a:Addr}{aw:List fq}{A:Around}{E:Value->Shared->Prop}
theorem K4{Q:Value->Shared->Prop}(I:Inv X pins σ H s)(e:H a=some (yh a aw))(h:∀t s',Inv X pins σ H s'->Q (.int aw.length t) s'):wpAny (model X.prog X.w) A (call (.builtin "len") [.ref a]) Q E s:=by
 obtain⟨⟨z,y,xs,rel,o,es,ep,h1,h2,h3,h4,h5⟩,_,_⟩:=(show bA X.prog X.w H s.heap a (yh a aw)from I.a_ a _ e)
 have e1:es.size=aw.length:=by rw[<- l4,h4,w5];exact(x8 rel).symm
 refine td y h1 h2.1 h3 (by rw[e1];exact z) λ t n=>?_
 rw[e1]
 exact h t _ (I.tok _)
end
end L2
namespace L3
open PySem PySem.Spec L2
inductive D where
 |aZ|bl (b:Bool)|int (i:Int)|str (x:Str)|ty (n:String)|ref (a:Addr)
 |tup (xs:List D)
 |fl (xs:List D)
def Gz(K:PySem.W.Frag)(H:Hp)(p:Addr)(xs:List V):Prop:=
 (∃o,H p=some (.kM o (.lst xs)))\/∃(o:Obj) (au:Array Value) (n:Nat),K.lookup p=some o/\o.cls=.type "list"/\o.dict=none/\o.data=.seq au n/\au.size<=sizeLine/\Vals xs au.toList
theorem Gz.sq {K:PySem.W.Frag}{H:Hp}{p:Addr}{xs:List V}(h:Gz K H p xs):dN K H p xs:=by
 rcases h with h|h
 ·exact .inl (.inr h)
 ·exact .inr h
mutual
def Dat(K:PySem.W.Frag)(H:Hp):D->V->Prop
 | .aZ,v=>v=.aZ
 | .bl b,v=>v=.bl b
 | .int i,v=>v=.int i
 | .str x,v=>v=.str x
 | .ty n,v=>v=.ty n
 | .ref a,v=>v=.ref a
 | .tup ds,v=>∃p xs,v=.ref p/\fu K H p xs/\aA K H ds xs
 | .fl ds,v=>∃p xs,v=.ref p/\Gz K H p xs/\aA K H ds xs
def aA(K:PySem.W.Frag)(H:Hp):List D->List V->Prop
 |[],xs=>xs=[]
 |d::ds,xs=>∃x r,xs=x::r/\Dat K H d x/\aA K H ds r
end
structure ar(H H':Hp):Prop where
 tup:∀b xs,H b=some (.tup xs)->H' b=some (.tup xs)
 kM:∀b o u,H b=some (.kM o u)->H' b=some (.kM o u)
theorem ar.refl (H:Hp):ar H H:=⟨λ _ _ h=>h,λ _ _ _ h=>h⟩
theorem ar.trans {H H1 H2:Hp}(a:ar H H1)(b:ar H1 H2):ar H H2:=⟨λ c xs h=>b.tup c xs (a.tup c xs h),λ c o u h=>b.kM c o u (a.kM c o u h)⟩
theorem ar.laid {H:Hp}{p:Addr}{o:HO}(h:H p=none):ar H (upd H p o):=
 ⟨λ b xs e=>by rw[az (bZ e h)];exact e,λ b ob u e=>by rw[az (bZ e h)];exact e⟩
theorem ar.lst {H:Hp}{p:Addr}{xs:List V}{o:HO}(h:H p=some (.lst xs)):ar H (upd H p o):=
 ⟨λ b ys e=>by rw[az (AE e h (by intro z;cases z))];exact e,λ b ob u e=>by rw[az (AE e h (by intro z;cases z))];exact e⟩
theorem ar.mut {H:Hp}{p:Addr}{u o:HO}(h:H p=some u)(n1:∀xs,u≠.tup xs)(n2:∀ob w,u≠.kM ob w):ar H (upd H p o):=
 ⟨λ b ys e=>by rw[az (λ z=>by subst z;rw[h]at e;exact n1 ys (u7 e))];exact e,λ b ob w e=>by rw[az (λ z=>by subst z;rw[h]at e;exact n2 ob w (u7 e))];exact e⟩
theorem qO{K:PySem.W.Frag}{H H':Hp}(t:ar H H'){p:Addr}{xs:List V}(h:fu K H p xs):fu K H' p xs:=by
 rcases h with(h|⟨o,h⟩)|h
 ·exact .inl (.inl (t.tup _ _ h))
 ·exact .inl (.inr ⟨o,t.kM _ _ _ h⟩)
 ·exact .inr h
theorem sv{K:PySem.W.Frag}{H H':Hp}(t:ar H H'){p:Addr}{xs:List V}(h:Gz K H p xs):Gz K H' p xs:=by
 rcases h with⟨o,h⟩|h
 ·exact .inl ⟨o,t.kM _ _ _ h⟩
 ·exact .inr h
mutual
theorem Dat.mono {K:PySem.W.Frag}{H H':Hp}(t:ar H H'):∀(d:D) {v:V},Dat K H d v->Dat K H' d v
 | .aZ,v,h=>by unfold Dat at h ⊢;exact h
 | .bl b,v,h=>by unfold Dat at h ⊢;exact h
 | .int i,v,h=>by unfold Dat at h ⊢;exact h
 | .str x,v,h=>by unfold Dat at h ⊢;exact h
 | .ty n,v,h=>by unfold Dat at h ⊢;exact h
 | .ref a,v,h=>by unfold Dat at h ⊢;exact h
 | .tup ds,v,h=>by
  unfold Dat at h ⊢
  obtain⟨p,xs,e,q,r⟩:=h
  exact⟨p,xs,e,qO t q,aA.mono t ds r⟩
 | .fl ds,v,h=>by
  unfold Dat at h ⊢
  obtain⟨p,xs,e,q,r⟩:=h
  exact⟨p,xs,e,sv t q,aA.mono t ds r⟩
theorem aA.mono {K:PySem.W.Frag}{H H':Hp}(t:ar H H'):∀(ds:List D) {xs:List V},aA K H ds xs->aA K H' ds xs
 |[],xs,h=>by unfold aA at h ⊢;exact h
 |d::ds,xs,h=>by
  unfold aA at h ⊢
  obtain⟨x,r,e,a,b⟩:=h
  exact⟨x,r,e,Dat.mono t d a,aA.mono t ds b⟩
end
section
variable {K:PySem.W.Frag}{H:Hp}
theorem cU{v:V}:Dat K H .aZ v↔v=.aZ:=by unfold Dat;exact Iff.rfl
theorem aB{b:Bool}{v:V}:Dat K H (.bl b) v↔v=.bl b:=by unfold Dat;exact Iff.rfl
theorem av{i:Int}{v:V}:Dat K H (.int i) v↔v=.int i:=by unfold Dat;exact Iff.rfl
theorem aN{x:Str}{v:V}:Dat K H (.str x) v↔v=.str x:=by unfold Dat;exact Iff.rfl
theorem uS{n:String}{v:V}:Dat K H (.ty n) v↔v=.ty n:=by unfold Dat;exact Iff.rfl
theorem aH{a:Addr}{v:V}:Dat K H (.ref a) v↔v=.ref a:=by unfold Dat;exact Iff.rfl
theorem aJ{ds:List D}{v:V}:Dat K H (.tup ds) v↔∃p xs,v=.ref p/\fu K H p xs/\aA K H ds xs:=by rw[Dat]
theorem ie{ds:List D}{v:V}:Dat K H (.fl ds) v↔∃p xs,v=.ref p/\Gz K H p xs/\aA K H ds xs:=by rw[Dat]
theorem aq{xs:List V}:aA K H [] xs↔xs=[]:=by unfold aA;exact Iff.rfl
theorem ag{d:D}{ds:List D}{xs:List V}:aA K H (d::ds) xs↔∃x r,xs=x::r/\Dat K H d x/\aA K H ds r:=by rw[aA]
theorem aA.length:∀{ds:List D} {xs:List V},aA K H ds xs->xs.length=ds.length
 |[],xs,h=>by rw[aq]at h;subst h;rfl
 |d::ds,xs,h=>by
  rw[ag]at h
  obtain⟨x,r,rfl,_,q⟩:=h
  rw[p8,p8,q.length]
theorem aA.get:∀{ds:List D} {xs:List V} {i:Nat} {d:D},aA K H ds xs->ds[i]?=some d->∃x,xs[i]?=some x/\Dat K H d x
 |[],xs,i,d,h,e=>by simp at e
 |d0::ds,xs,i,d,h,e=>by
  rw[ag]at h
  obtain⟨x,r,rfl,a,q⟩:=h
  cases i with
  |zero=>simp at e;subst e;exact⟨x,rfl,a⟩
  |succ i=>
   obtain⟨y,h1,h2⟩:=aA.get q (by simpa using e)
   exact⟨y,by simpa using h1,h2⟩
theorem aA.uP:∀{ds:List D} {xs:List V} {i:Nat} {x:V},aA K H ds xs->xs[i]?=some x->∃d,ds[i]?=some d/\Dat K H d x
 |[],xs,i,x,h,e=>by rw[aq]at h;subst h;simp at e
 |d0::ds,xs,i,x,h,e=>by
  rw[ag]at h
  obtain⟨y,r,rfl,a,q⟩:=h
  cases i with
  |zero=>simp at e;subst e;exact⟨d0,rfl,a⟩
  |succ i=>
   obtain⟨d,h1,h2⟩:=aA.uP q (by simpa using e)
   exact⟨d,by simpa using h1,h2⟩
theorem aA.append:∀{ds es:List D} {xs ys:List V},aA K H ds xs->aA K H es ys->aA K H (ds++es) (xs++ys)
 |[],es,xs,ys,h,q=>by rw[aq]at h;subst h;exact q
 |d::ds,es,xs,ys,h,q=>by
  rw[ag]at h
  obtain⟨x,r,rfl,a,b⟩:=h
  rw[cons_append,cons_append,ag]
  exact⟨x,_,rfl,a,b.append q⟩
theorem aA.one {d:D}{v:V}(h:Dat K H d v):aA K H [d] [v]:=by
 rw[ag]
 exact⟨v,[],rfl,h,by rw[aq]⟩
theorem aA.take:∀{ds:List D} {xs:List V} (n:Nat),aA K H ds xs->aA K H (ds.take n) (xs.take n)
 |ds,xs,0,h=>by simp[aq]
 |[],xs,n+1,h=>by rw[aq]at h;subst h;simp[aq]
 |d::ds,xs,n+1,h=>by
  rw[ag]at h
  obtain⟨x,r,rfl,a,b⟩:=h
  rw[take_succ_cons,take_succ_cons,ag]
  exact⟨x,_,rfl,a,b.take n⟩
theorem aA.drop:∀{ds:List D} {xs:List V} (n:Nat),aA K H ds xs->aA K H (ds.drop n) (xs.drop n)
 |ds,xs,0,h=>h
 |[],xs,n+1,h=>by rw[aq]at h;subst h;simp[aq]
 |d::ds,xs,n+1,h=>by
  rw[ag]at h
  obtain⟨x,r,rfl,a,b⟩:=h
  exact b.drop n
theorem aA.set {d:D}{x:V}(hd:Dat K H d x):∀{ds:List D} {xs:List V} (n:Nat),aA K H ds xs->aA K H (ds.set n d) (xs.set n x)
 |[],xs,n,h=>by rw[aq]at h;subst h;simp[aq]
 |d0::ds,xs,0,h=>by
  rw[ag]at h
  obtain⟨y,r,rfl,a,b⟩:=h
  rw[set_cons_zero,set_cons_zero,ag]
  exact⟨x,_,rfl,hd,b⟩
 |d0::ds,xs,n+1,h=>by
  rw[ag]at h
  obtain⟨y,r,rfl,a,b⟩:=h
  rw[set_cons_succ,set_cons_succ,ag]
  exact⟨y,_,rfl,a,b.set hd n⟩
theorem jr:∀(ns:List Int),aA K H (ns.map D.int) (ns.map V.int)
 |[]=>by simp[aq]
 |n::ns=>by
  rw[y0,y0,ag]
  exact⟨_,_,rfl,av.mpr rfl,jr ns⟩
theorem mC:∀{bs:List Bool} {xs:List V},aA K H (bs.map D.bl) xs->xs=bs.map V.bl
 |[],xs,h=>by rw[map_nil,aq]at h;exact h
 |b::bs,xs,h=>by
  rw[y0,ag]at h
  obtain⟨x,r,rfl,a,q⟩:=h
  rw[aB]at a
  rw[a,mC q]
  rfl
theorem oJ:∀{ys:List Str} {xs:List V},aA K H (ys.map D.str) xs->xs=ys.map V.str
 |[],xs,h=>by rw[map_nil,aq]at h;exact h
 |b::bs,xs,h=>by
  rw[y0,ag]at h
  obtain⟨x,r,rfl,a,q⟩:=h
  rw[aN]at a
  rw[a,oJ q]
  rfl
end
def ng:Key->D
 | .inl i=>.int i
 | .inr x=>.str x
mutual
def oA:IK->D
 | .i n=>.int n
 | .t ks=>.tup (nj ks)
def nj:List IK->List D
 |[]=>[]
 |k::ks=>oA k::nj ks
end
mutual
theorem mD{K:PySem.W.Frag}{H:Hp}:∀(k:IK) {v:V},Dat K H (oA k) v->gQ K H k v
 | .i n,v,h=>by
  unfold oA at h
  unfold gQ
  exact av.mp h
 | .t ks,v,h=>by
  unfold oA at h
  obtain⟨p,xs,rfl,hq,hx⟩:=aJ.mp h
  unfold gQ
  exact⟨p,xs,rfl,hq,sL ks hx⟩
theorem sL{K:PySem.W.Frag}{H:Hp}:∀(ks:List IK) {xs:List V},aA K H (nj ks) xs->jG K H ks xs
 |[],xs,h=>by
  unfold nj at h
  unfold jG
  exact aq.mp h
 |k::ks,xs,h=>by
  unfold nj at h
  obtain⟨x,r,rfl,h1,h2⟩:=ag.mp h
  unfold jG
  exact⟨x,r,rfl,mD k h1,sL ks h2⟩
end
mutual
theorem qf:∀{a b:IK},oA a=oA b->a=b
 | .i n,.i m,h=>by unfold oA at h;cases h;rfl
 | .i n,.t ks,h=>by unfold oA at h;cases h
 | .t ks,.i n,h=>by unfold oA at h;cases h
 | .t ks,.t ls,h=>by unfold oA at h;rw[sg (D.tup.inj h)]
theorem sg:∀{as bs:List IK},nj as=nj bs->as=bs
 |[],[],_=>rfl
 |[],b::bs,h=>by unfold nj at h;cases h
 |a::as,[],h=>by unfold nj at h;cases h
 |a::as,b::bs,h=>by
  unfold nj at h
  injection h with h1 h2
  rw[qf h1,sg h2]
end
theorem rV{a b:Key}(h:ng a=ng b):a=b:=by
 cases a with
 |inl i=>cases b with
  |inl j=>have e:D.int i=D.int j:=h;cases e;rfl
  |inr y=>have e:D.int i=D.str y:=h;cases e
 |inr x=>cases b with
  |inl j=>have e:D.str x=D.int j:=h;cases e
  |inr y=>have e:D.str x=D.str y:=h;cases e;rfl
theorem qk{K:PySem.W.Frag}{H:Hp}{k:Key}{v:V}(h:Dat K H (ng k) v):v=kV k:=by
 cases k with
 |inl i=>exact av.mp h
 |inr x=>exact aN.mp h
inductive MO where
 |lst (ds:List D)
  |ir (t:Bool) (aw:List (D×D))
abbrev FK(K:PySem.W.Frag)(H:Hp):List (D×D)->List (Key×V)->Prop:=Paired λ p q=>p.1=ng q.1/\Dat K H p.2 q.2
abbrev B_(K:PySem.W.Frag)(H:Hp):List (D×D)->List fq->Prop:=Paired λ p q=>p.1=oA q.1/\q.1.dep<=5/\Dat K H p.1 (.ref q.2.1)/\Dat K H p.2 q.2.2
theorem FK.mono {K:PySem.W.Frag}{H H':Hp}(t:ar H H'){aw:List (D×D)}{xs:List (Key×V)}(h:FK K H aw xs):FK K H' aw xs:=Paired.AF h λ p q z=>⟨z.1,Dat.mono t _ z.2⟩
theorem B_.mono {K:PySem.W.Frag}{H H':Hp}(t:ar H H'){aw:List (D×D)}{xs:List fq}(h:B_ K H aw xs):B_ K H' aw xs:=Paired.AF h λ p q z=>⟨z.1,z.2.1,Dat.mono t _ z.2.2.1,Dat.mono t _ z.2.2.2⟩
abbrev Mem:=Addr->Option MO
def aK(M:Mem)(a:Addr)(o:MO):Mem:=λ b=>if b=a then some o else M b
theorem ay{M:Mem}{a:Addr}{o:MO}:aK M a o a=some o:=by unfold aK;rw[A3 rfl]
theorem aM{M:Mem}{a b:Addr}{o:MO}(h:b≠a):aK M a o b=M b:=by unfold aK;rw[A4 h]
theorem eY{M:Mem}{a:Addr}{o u:MO}:aK (aK M a o) a u=aK M a u:=by funext b;unfold aK;split <;> rfl
def vg(K:PySem.W.Frag)(H:Hp)(a:Addr):MO->Prop
 | .lst ds=>∃xs,H a=some (.lst xs)/\aA K H ds xs
 | .ir false aw=>∃xs,H a=some (.dK xs)/\FK K H aw xs
 | .ir true aw=>∃xs,H a=some (yh a xs)/\B_ K H aw xs
def RelM(K:PySem.W.Frag)(H:Hp)(M:Mem):Prop:=∀a o,M a=some o->vg K H a o
theorem vg.there {K:PySem.W.Frag}{H:Hp}{a:Addr}{o:MO}(h:vg K H a o):∃u,H a=some u:=by
 cases o with
 |lst ds=>obtain⟨xs,h,_⟩:=h;exact⟨_,h⟩
 |ir t aw=>
  cases t with
  |false=>obtain⟨xs,h,_⟩:=h;exact⟨_,h⟩
  |true=>obtain⟨xs,h,_⟩:=h;exact⟨_,h⟩
theorem vg.mono {K:PySem.W.Frag}{H H':Hp}{a:Addr}{o:MO}(h:vg K H a o)(t:ar H H')(e:H' a=H a):vg K H' a o:=by
 cases o with
 |lst ds=>obtain⟨xs,h,q⟩:=h;exact⟨xs,e.trans h,aA.mono t ds q⟩
 |ir b aw=>
  cases b with
  |false=>obtain⟨xs,h,q⟩:=h;exact⟨xs,e.trans h,q.mono t⟩
  |true=>obtain⟨xs,h,q⟩:=h;exact⟨xs,e.trans h,q.mono t⟩
theorem RelM.free {K:PySem.W.Frag}{H:Hp}{M:Mem}(h:RelM K H M){p:Addr}(n:H p=none):M p=none:=by
 cases e:M p with
 |none=>rfl
 |some o=>obtain⟨u,q⟩:=(h p o e).there;rw[n]at q;cases q
theorem RelM.laid {K:PySem.W.Frag}{H:Hp}{M:Mem}(h:RelM K H M){p:Addr}{o:HO}(n:H p=none):RelM K (upd H p o) M:=λ a u e=>by
 obtain⟨w,q⟩:=(h a u e).there
 exact(h a u e).mono (ar.laid n) (az (bZ q n))
theorem RelM.put {K:PySem.W.Frag}{H:Hp}{M:Mem}(h:RelM K H M){p:Addr}{o:HO}{u:MO}(t:ar H (upd H p o))(new:vg K (upd H p o) p u):RelM K (upd H p o) (aK M p u):=λ a w e=>by
 by_cases ha:a=p
 ·subst ha;rw[ay]at e;cases e;exact new
 ·rw[aM ha]at e
  exact(h a w e).mono t (az ha)
def gB(M M':Mem):Prop:=∀a o,M a=some o->M' a=some o
theorem gB.refl (M:Mem):gB M M:=λ _ _ h=>h
theorem gB.put {M M':Mem}{p:Addr}{o:MO}(h:gB M M')(n:M p=none):gB M (aK M' p o):=λ a u e=>by
 rw[aM (λ z=>by subst z;rw[n]at e;cases e)]
 exact h a u e
theorem RelM.sub {K:PySem.W.Frag}{H:Hp}{M M':Mem}(h:RelM K H M')(s:gB M M'):RelM K H M:=λ a o e=>h a o (s a o e)
abbrev cZ:=List (Option D)
structure bK(K:PySem.W.Frag)(H:Hp)(δ:cZ)(σ:St):Prop where
 len:δ.length=σ.length
 get:∀(i:Nat) (d:D),δ[i]?=some (some d)->∃v,σ[i]?=some (some v)/\Dat K H d v
theorem bK.mono {K:PySem.W.Frag}{H H':Hp}{δ:cZ}{σ:St}(h:bK K H δ σ)(t:ar H H'):bK K H' δ σ:=
 ⟨h.len,λ i d e=>let⟨v,q,r⟩:=h.get i d e;⟨v,q,Dat.mono t d r⟩⟩
theorem bK.set {K:PySem.W.Frag}{H:Hp}{δ:cZ}{σ:St}(h:bK K H δ σ){i:Nat}{d:D}{v:V}(r:Dat K H d v):bK K H (δ.set i (some d)) (σ.set i (some v)):=by
 refine⟨by rw[length_set,length_set];exact h.len,λ j e hj=>?_⟩
 by_cases oC:i=j
 ·subst oC
  have hi:i < δ.length:=by
   have:=(g9.mp hj).1
   simpa using this
  rw[getElem?_set_self hi]at hj
  cases hj
  exact⟨v,by rw[getElem?_set_self (by rw[<- h.len];exact hi)],r⟩
 ·rw[getElem?_set_ne oC]at hj
  obtain⟨u,q,w⟩:=h.get j e hj
  exact⟨u,by rw[getElem?_set_ne oC];exact q,w⟩
abbrev br:=D->Mem->Prop
abbrev bV:=cZ->Mem->br->Prop
abbrev eU:=cZ->Mem->(Bool->Mem->Prop)->Prop
abbrev ft:=cZ->Mem->(List D->Mem->Prop)->Prop
structure dq where
 nx:cZ->Mem->Prop
 rt:br
 bk:cZ->Mem->Prop:=λ _ _=>False
 ct:cZ->Mem->Prop:=λ _ _=>False
abbrev fP:=dq->cZ->Mem->Prop
def gW(K:PySem.W.Frag)(H:Hp)(Q2:br)(Q:VK):Prop:=∀v H' d M',Dat K H' d v->RelM K H' M'->ar H H'->Q2 d M'->Q v H'
def tJ(K:PySem.W.Frag)(H:Hp)(Q2:Bool->Mem->Prop)(Q:Bool->Hp->Prop):Prop:=∀b H' M',RelM K H' M'->ar H H'->Q2 b M'->Q b H'
def Oh(K:PySem.W.Frag)(H:Hp)(Q2:List D->Mem->Prop)(Q:List V->Hp->Prop):Prop:=∀vs H' ds M',aA K H' ds vs->RelM K H' M'->ar H H'->Q2 ds M'->Q vs H'
def jQ(K:PySem.W.Frag)(H:Hp)(N2:cZ->Mem->Prop)(N:St->Hp->Prop):Prop:=∀σ' H' δ' M',bK K H' δ' σ'->RelM K H' M'->ar H H'->N2 δ' M'->N σ' H'
structure oW(K:PySem.W.Frag)(H:Hp)(D2:dq)(E:Ends):Prop where
 nx:jQ K H D2.nx E.nx
 rt:gW K H D2.rt E.rt
 bk:jQ K H D2.bk E.bk
 ct:jQ K H D2.ct E.ct
theorem gW.mono {K:PySem.W.Frag}{H H1:Hp}{Q2:br}{Q:VK}(c:gW K H Q2 Q)(t:ar H H1):gW K H1 Q2 Q:=λ v H' d M' a b e q=>c v H' d M' a b (t.trans e) q
theorem tJ.mono {K:PySem.W.Frag}{H H1:Hp}{Q2:Bool->Mem->Prop}{Q:Bool->Hp->Prop}(c:tJ K H Q2 Q)(t:ar H H1):tJ K H1 Q2 Q:=λ v H' M' b e q=>c v H' M' b (t.trans e) q
theorem jQ.mono {K:PySem.W.Frag}{H H1:Hp}{N2:cZ->Mem->Prop}{N:St->Hp->Prop}(c:jQ K H N2 N)(t:ar H H1):jQ K H1 N2 N:=λ v H' d M' a b e q=>c v H' d M' a b (t.trans e) q
theorem oW.mono {K:PySem.W.Frag}{H H1:Hp}{D2:dq}{E:Ends}(c:oW K H D2 E)(t:ar H H1):oW K H1 D2 E:=⟨c.nx.mono t,c.rt.mono t,c.bk.mono t,c.ct.mono t⟩
def up(K:PySem.W.Frag)(t:bV):TE:=λ σ H Q=>∃δ M Q2,bK K H δ σ/\RelM K H M/\t δ M Q2/\gW K H Q2 Q
def yD(K:PySem.W.Frag)(t:eU):TT:=λ σ H Q=>∃δ M Q2,bK K H δ σ/\RelM K H M/\t δ M Q2/\tJ K H Q2 Q
def RY(K:PySem.W.Frag)(t:ft):TA:=λ σ H Q=>∃δ M Q2,bK K H δ σ/\RelM K H M/\t δ M Q2/\Oh K H Q2 Q
def Pc(K:PySem.W.Frag)(t:fP):TS:=λ E σ H=>∃δ M D2,bK K H δ σ/\RelM K H M/\t D2 δ M/\oW K H D2 E
abbrev QE(X:Cx)(e:Expr)(t:bV):Prop:=PE X e (up X.K t)
abbrev QT(X:Cx)(e:Expr)(t:eU):Prop:=PT X e (yD X.K t)
abbrev QW(X:Cx)(e:Expr)(t:eU):Prop:=PW X e (yD X.K t)
abbrev QA(X:Cx)(es:List Expr)(t:ft):Prop:=PA X es (RY X.K t)
abbrev QS(X:Cx)(st:Stmt)(t:fP):Prop:=PS X st (Pc X.K t)
abbrev yK(X:Cx)(KI:List Stmt)(t:fP):Prop:=nF X KI (Pc X.K t)
theorem bF{X:Cx}{e:Expr}{t t':TE}(h:PE X e t)(k:∀σ H Q,t' σ H Q->t σ H Q):PE X e t':=λ pins s σ H Q I q=>h pins s σ H Q I (k σ H Q q)
theorem vL{X:Cx}{e:Expr}{t t':TT}(h:PT X e t)(k:∀σ H Q,t' σ H Q->t σ H Q):PT X e t':=λ pins s σ H Q I q=>h pins s σ H Q I (k σ H Q q)
theorem FW{X:Cx}{e:Expr}{t t':TT}(h:PW X e t)(k:∀σ H Q,t' σ H Q->t σ H Q):PW X e t':=λ wh pins s σ H Q I q=>h wh pins s σ H Q I (k σ H Q q)
theorem Ao{X:Cx}{es:List Expr}{t t':TA}(h:PA X es t)(k:∀σ H Q,t' σ H Q->t σ H Q):PA X es t':=λ pos pins s σ H Q I q=>h pos pins s σ H Q I (k σ H Q q)
theorem gY{X:Cx}{st:Stmt}{t t':TS}(h:PS X st t)(k:∀E σ H,t' E σ H->t E σ H):PS X st t':=λ pins s σ H E I q=>h pins s σ H E I (k E σ H q)
theorem zX{X:Cx}{KI:List Stmt}{t t':TS}(h:nF X KI t)(k:∀E σ H,t' E σ H->t E σ H):nF X KI t':=λ pins s σ H E I q=>h pins s σ H E I (k E σ H q)
end L3
namespace L3
open PySem PySem.Spec L2
abbrev eE:=D->D->Mem->br->Prop
def B7(K:PySem.W.Frag)(r:R2)(r2:eE):Prop:=∀x y d e H M Q2 Q,Dat K H d x->Dat K H e y->RelM K H M->r2 d e M Q2->gW K H Q2 Q->r x y H Q
def RN(K:PySem.W.Frag)(r:V->Hp->VK->Prop)(r2:D->Mem->br->Prop):Prop:=∀x d H M Q2 Q,Dat K H d x->RelM K H M->r2 d M Q2->gW K H Q2 Q->r x H Q
def Kv(K:PySem.W.Frag)(r:List V->Hp->VK->Prop)(r2:List D->Mem->br->Prop):Prop:=∀xs ds H M Q2 Q,aA K H ds xs->RelM K H M->r2 ds M Q2->gW K H Q2 Q->r xs H Q
def RO(K:PySem.W.Frag)(r:V->List V->Hp->VK->Prop)(r2:D->List D->Mem->br->Prop):Prop:=∀x xs d ds H M Q2 Q,Dat K H d x->aA K H ds xs->RelM K H M->r2 d ds M Q2->gW K H Q2 Q->r x xs H Q
def N8(K:PySem.W.Frag)(r:V->Option Int->Option Int->Hp->VK->Prop)(r2:D->Option Int->Option Int->Mem->br->Prop):Prop:=∀x d lo hi H M Q2 Q,Dat K H d x->RelM K H M->r2 d lo hi M Q2->gW K H Q2 Q->r x lo hi H Q
def dC(X:Cx)(f:Value->Value->Sem Value)(r2:eE):Prop:=∃r,dE X f r/\B7 X.K r r2
def RK(X:Cx)(f:Value->Sem Value)(r2:D->Mem->br->Prop):Prop:=∃r,O6 X f r/\RN X.K r r2
def Oc(X:Cx)(r2:eE):Prop:=∃r,vh X r/\B7 X.K r r2
def N9(X:Cx)(r2:D->Option Int->Option Int->Mem->br->Prop):Prop:=∃r,wM X r/\N8 X.K r r2
def cX(X:Cx)(f:Value)(r2:List D->Mem->br->Prop):Prop:=∃r,cY X f r/\Kv X.K r r2
def Kz(X:Cx)(id:String)(r2:D->List D->Mem->br->Prop):Prop:=∃r,RQ X id r/\RO X.K r r2
section
variable {X:Cx}{a b c e:Expr}{ta tb tc:bV}{pos:Pos}
def zg(i:Nat):bV:=λ δ M Q=>match δ[i]? with
 |some (some d)=>Q d M
 |_=>False
def sC(d:D):bV:=λ _ M Q=>Q d M
theorem Ti(i:Nat){x:Str}(hN:X.N[i]?=some x:=by rfl)(hv:N6 X.env.scope x:=by first|exact Or.inl rfl|exact Or.inr (Or.inl rfl)|exact Or.inr (Or.inr rfl))(hd:(x==("__debug__":Str))=false:=by decide)
  (hcd:(x==("__classdict__":Str))=false:=by decide):QE X (.Name x pos) (zg i):=bF (Ah hN hv hd hcd) λ σ H Q ⟨δ,M,Q2,hs,hm,q,k⟩=>by
 unfold zg at q
 cases e:δ[i]? with
 |none=>rw[e]at q;exact q.elim
 |some o=>
  cases o with
  |none=>rw[e]at q;exact q.elim
  |some d=>
   rw[e]at q
   obtain⟨v,h1,h2⟩:=hs.get i d e
   exact⟨v,h1,k v H d M h2 hm (ar.refl H) q⟩
theorem LS{i j}:QE X (.Constant (.int i) j pos) (sC (.int i)):=bF IH λ σ H Q ⟨δ,M,Q2,hs,hm,q,k⟩=>k _ H (.int i) M (av.mpr rfl) hm (ar.refl H) q
theorem P0{i j}:QE X (.Constant (.bool i) j pos) (sC (.bl i)):=bF L8 λ σ H Q ⟨δ,M,Q2,hs,hm,q,k⟩=>k _ H (.bl i) M (aB.mpr rfl) hm (ar.refl H) q
theorem FV{i j}:QE X (.Constant (.str i) j pos) (sC (.str i)):=bF IB λ σ H Q ⟨δ,M,Q2,hs,hm,q,k⟩=>k _ H (.str i) M (aN.mpr rfl) hm (ar.refl H) q
theorem LQ{j}:QE X (.Constant .none j pos) (sC .aZ):=bF IF λ σ H Q ⟨δ,M,Q2,hs,hm,q,k⟩=>k _ H .aZ M (cU.mpr rfl) hm (ar.refl H) q
structure jP(K:PySem.W.Frag)(mg:Str->Option Value)(x:Str)(d:D):Prop where
 ex:∃u v,mg x=some u/\RelV v u/\∀H,Dat K H d v
theorem Ih{x:Str}{d:D}(G:jP X.K X.mg x d)(hg:Gl X x)(hd:(x==("__debug__":Str))=false:=by decide):QE X (.Name x pos) (sC d):=by
 obtain⟨u,v,hm,r,hD⟩:=G.ex
 exact bF (D1 hg hm r hd) λ σ H Q ⟨δ,M,Q2,hs,hm,q,k⟩=>k _ H d M (hD H) hm (ar.refl H) q
theorem PU{x:Str}{n:String}(hg:Gl X x)(hm:X.mg x=none)(hv:bootBuiltins x=some (.type n))(hn:x≠"__name__":=by decide)(hd:(x==("__debug__":Str))=false:=by decide):QE X (.Name x pos) (sC (.ty n)):=
 bF (D4 (v:=.ty n) hg hm hv rfl hn hd) λ σ H Q ⟨δ,M,Q2,hs,hm,q,k⟩=>k _ H (.ty n) M (uS.mpr rfl) hm (ar.refl H) q
def Ce(r2:eE)(ta tb:bV):bV:=λ δ M Q=>ta δ M λ d M1=>tb δ M1 λ e M2=>r2 d e M2 Q
theorem kH{K:PySem.W.Frag}{r:R2}{r2:eE}(hr:B7 K r r2):∀σ H Q,up K (Ce r2 ta tb) σ H Q->K9 r (up K ta) (up K tb) σ H Q:=by
 rintro σ H Q ⟨δ,M,Q2,hs,hm,q,k⟩
 refine⟨δ,M,_,hs,hm,q,λ x H1 d M1 hd bO t1 q1=>?_⟩
 refine⟨δ,M1,_,hs.mono t1,bO,q1,λ y H2 e M2 he gS t2 q2=>?_⟩
 exact hr x y d e H2 M2 Q2 Q (Dat.mono t2 d hd) he gS q2 (k.mono (t1.trans t2))
theorem PX{op:Operator}{r2:eE}(o:dC X (binaryOp op) r2)(ha:QE X a ta)(hb:QE X b tb):QE X (.BinOp a op b pos) (Ce r2 ta tb):=by
 obtain⟨r,ho,hr⟩:=o
 exact bF (L6 ho ha hb) (kH hr)
def Pz(r2:D->Mem->br->Prop)(ta:bV):bV:=λ δ M Q=>ta δ M λ d M1=>r2 d M1 Q
theorem PR{op:UnaryOp}{r2:D->Mem->br->Prop}(o:RK X (unaryOp op) r2)(ha:QE X a ta):QE X (.UnaryOp op a pos) (Pz r2 ta):=by
 obtain⟨r,ho,hr⟩:=o
 refine bF (LY ho ha) ?_
 rintro σ H Q ⟨δ,M,Q2,hs,hm,q,k⟩
 exact⟨δ,M,_,hs,hm,q,λ x H1 d M1 hd bO t1 q1=>hr x d H1 M1 Q2 Q hd bO q1 (k.mono t1)⟩
theorem LV{op:CmpOp}{r2:eE}(o:dC X (compareOp op) r2)(ha:QE X a ta)(hb:QE X b tb)(hm:behindInMarks op b=false):QE X (.Compare a [op] [b] pos) (Ce r2 ta tb):=by
 obtain⟨r,ho,hr⟩:=o
 exact bF (D3 ho ha hb hm) (kH hr)
def lI(t:bV):eU:=λ δ M Q=>t δ M λ d M1=>match d with
 | .bl k=>Q k M1
 |_=>False
theorem je{K:PySem.W.Frag}{H:Hp}{Q2:Bool->Mem->Prop}{Q:Bool->Hp->Prop}(k:tJ K H Q2 Q):gW K H (λ d M1=>match d with| .bl k=>Q2 k M1|_=>False) (λ x H'=>∃k,x=.bl k/\Q k H'):=λ v H' d M' hd hm t q=>by
 cases d with
 |bl b=>exact⟨b,aB.mp hd,k b H' M' hm t q⟩
 |_=>exact q.elim
theorem HX{op:CmpOp}{r2:eE}(o:dC X (compareOp op) r2)(ha:QE X a ta)(hb:QE X b tb)(hm:behindInMarks op b=false):QT X (.Compare a [op] [b] pos) (lI (Ce r2 ta tb)):=by
 obtain⟨r,ho,hr⟩:=o
 refine vL (DQ ho ha hb hm) ?_
 rintro σ H Q ⟨δ,M,Q2,hs,hm,q,k⟩
 exact kH hr σ H _ ⟨δ,M,_,hs,hm,q,je k⟩
def jg(r r':eE)(ta tb tc:bV):bV:=λ δ M Q=>ta δ M λ d M1=>tb δ M1 λ e M2=>r d e M2 λ z M3=>match z with
 | .bl k=>if k=true then tc δ M3 λ w M4=>r' e w M4 Q else Q (.bl false) M3
 |_=>False
theorem mL{K:PySem.W.Frag}{r r':R2}{r2 ui:eE}(hr:B7 K r r2)(MH:B7 K r' ui):∀σ H Q,up K (jg r2 ui ta tb tc) σ H Q->tY r r' (up K ta) (up K tb) (up K tc) σ H Q:=by
 rintro σ H Q ⟨δ,M,Q2,hs,hm,q,k⟩
 refine⟨δ,M,_,hs,hm,q,λ x H1 d M1 hd bO t1 q1=>?_⟩
 refine⟨δ,M1,_,hs.mono t1,bO,q1,λ y H2 e M2 he gS t2 q2=>?_⟩
 refine hr x y d e H2 M2 _ _ (Dat.mono t2 d hd) he gS q2 λ v H3 z M3 hz yG t3 q3=>?_
 cases z with
 |bl b=>
  refine⟨b,aB.mp hz,?_⟩
  have q3:if b=true then tc δ M3 λ w M4=>ui e w M4 Q2 else Q2 (.bl false) M3:=q3
  cases b with
  |true=>
   rw[A3 rfl]at q3 ⊢
   exact⟨δ,M3,_,hs.mono (t1.trans (t2.trans t3)),yG,q3,λ w' H4 w M4 hw OV t4 q4=>MH y w' e w H4 M4 Q2 Q (Dat.mono (t3.trans t4) e he) hw OV q4 (k.mono (t1.trans (t2.trans (t3.trans t4))))⟩
  |false=>
   rw[A4 l7]at q3 ⊢
   exact k _ H3 (.bl false) M3 (aB.mpr rfl) yG (t1.trans (t2.trans t3)) q3
 |_=>exact q3.elim
theorem DM{op lT:CmpOp}{r2 ui:eE}(o:dC X (compareOp op) r2)(o':dC X (compareOp lT) ui)(ha:QE X a ta)(hb:QE X b tb)(hc:QE X c tc)(hm:lastMarks [op,lT] [b,c]=false:=by with_unfolding_all rfl):
  QE X (.Compare a [op,lT] [b,c] pos) (jg r2 ui ta tb tc):=by
 obtain⟨r,ho,hr⟩:=o
 obtain⟨r',gR,MH⟩:=o'
 exact bF (Am ho gR ha hb hc hm) (mL hr MH)
theorem zM{op lT:CmpOp}{r2 ui:eE}(o:dC X (compareOp op) r2)(o':dC X (compareOp lT) ui)(ha:QE X a ta)(hb:QE X b tb)(hc:QE X c tc)(hm:lastMarks [op,lT] [b,c]=false:=by with_unfolding_all rfl):
  QT X (.Compare a [op,lT] [b,c] pos) (lI (jg r2 ui ta tb tc)):=by
 obtain⟨r,ho,hr⟩:=o
 obtain⟨r',gR,MH⟩:=o'
 refine vL (zW ho gR ha hb hc hm) ?_
 rintro σ H Q ⟨δ,M,Q2,hs,hm,q,k⟩
 exact mL hr MH σ H _ ⟨δ,M,_,hs,hm,q,je k⟩
theorem HV(h:QE X e ta)(he:∀whole,isTrue e X.env whole=(do let v <- whole;standAt e.pos;holding [v] (truthy v)):=by intro _;rfl):QT X e (lI ta):=by
 refine vL (zV h he) ?_
 rintro σ H Q ⟨δ,M,Q2,hs,hm,q,k⟩
 exact⟨δ,M,_,hs,hm,q,je k⟩
variable {tA tB:eU}{rest:List Expr}
def Hc(t u:eU):eU:=λ δ M Q=>t δ M λ c M1=>if c=true then u δ M1 Q else Q false M1
def PC(t u:eU):eU:=λ δ M Q=>t δ M λ c M1=>if c=true then Q true M1 else u δ M1 Q
def G9(t:eU):eU:=λ δ M Q=>t δ M λ c M1=>Q (!c) M1
theorem Dz(ha:QT X a tA):QW X (.BoolOp .And [a] pos) tA:=DP ha
theorem HS(ha:QT X a tA):QW X (.BoolOp .Or [a] pos) tA:=Il ha
theorem HU(ha:QT X a tA)(hb:QW X (.BoolOp .And (b::rest) pos) tB):QW X (.BoolOp .And (a::b::rest) pos) (Hc tA tB):=FW (Im ha hb) λ σ H Q ⟨δ,M,Q2,hs,hm,q,k⟩=>by
 refine⟨δ,M,_,hs,hm,q,λ c H1 M1 bO t1 q1=>?_⟩
 cases c with
 |true=>
  rw[A3 rfl]at q1 ⊢
  exact⟨δ,M1,Q2,hs.mono t1,bO,q1,k.mono t1⟩
 |false=>
  rw[A4 l7]at q1 ⊢
  exact k _ _ _ bO t1 q1
theorem LK(ha:QT X a tA)(hb:QW X (.BoolOp .Or (b::rest) pos) tB):QW X (.BoolOp .Or (a::b::rest) pos) (PC tA tB):=FW (LX ha hb) λ σ H Q ⟨δ,M,Q2,hs,hm,q,k⟩=>by
 refine⟨δ,M,_,hs,hm,q,λ c H1 M1 bO t1 q1=>?_⟩
 cases c with
 |true=>
  rw[A3 rfl]at q1 ⊢
  exact k _ _ _ bO t1 q1
 |false=>
  rw[A4 l7]at q1 ⊢
  exact⟨δ,M1,Q2,hs.mono t1,bO,q1,k.mono t1⟩
theorem HW(ha:QT X a tA):QT X (.UnaryOp .Not a pos) (G9 tA):=vL (Io ha) λ σ H Q ⟨δ,M,Q2,hs,hm,q,k⟩=>⟨δ,M,_,hs,hm,q,λ c H1 M1 bO t1 q1=>k _ _ _ bO t1 q1⟩
def zp(ta tb:bV):bV:=λ δ M Q=>ta δ M λ d M1=>match d with
 | .bl c=>if c=true then tb δ M1 Q else Q (.bl false) M1
 |_=>False
def G8(ta tb:bV):bV:=λ δ M Q=>ta δ M λ d M1=>match d with
 | .bl c=>if c=true then Q (.bl true) M1 else tb δ M1 Q
 |_=>False
def zk(ta:bV):bV:=λ δ M Q=>ta δ M λ d M1=>match d with
 | .bl c=>Q (.bl (!c)) M1
 |_=>False
theorem LO{op}(h:QE X a ta):QE X (.BoolOp op [a] pos) ta:=ID h
theorem LW(ha:QE X a ta)(hb:QE X (.BoolOp .And (b::rest) pos) tb):QE X (.BoolOp .And (a::b::rest) pos) (zp ta tb):=bF (IL ha hb) λ σ H Q ⟨δ,M,Q2,hs,hm,q,k⟩=>by
 refine⟨δ,M,_,hs,hm,q,λ x H1 d M1 hd bO t1 q1=>?_⟩
 cases d with
 |bl c=>
  refine⟨c,aB.mp hd,?_⟩
  have q1:if c=true then tb δ M1 Q2 else Q2 (.bl false) M1:=q1
  cases c with
  |true=>
   rw[A3 rfl]at q1 ⊢
   exact⟨δ,M1,Q2,hs.mono t1,bO,q1,k.mono t1⟩
  |false=>
   rw[A4 l7]at q1 ⊢
   exact k _ _ _ _ (aB.mpr rfl) bO t1 q1
 |_=>exact q1.elim
theorem PV(ha:QE X a ta)(hb:QE X (.BoolOp .Or (b::rest) pos) tb):QE X (.BoolOp .Or (a::b::rest) pos) (G8 ta tb):=bF (LZ ha hb) λ σ H Q ⟨δ,M,Q2,hs,hm,q,k⟩=>by
 refine⟨δ,M,_,hs,hm,q,λ x H1 d M1 hd bO t1 q1=>?_⟩
 cases d with
 |bl c=>
  refine⟨c,aB.mp hd,?_⟩
  have q1:if c=true then Q2 (.bl true) M1 else tb δ M1 Q2:=q1
  cases c with
  |true=>
   rw[A3 rfl]at q1 ⊢
   exact k _ _ _ _ (aB.mpr rfl) bO t1 q1
  |false=>
   rw[A4 l7]at q1 ⊢
   exact⟨δ,M1,Q2,hs.mono t1,bO,q1,k.mono t1⟩
 |_=>exact q1.elim
theorem LP(ha:QE X a ta):QE X (.UnaryOp .Not a pos) (zk ta):=bF (IE ha) λ σ H Q ⟨δ,M,Q2,hs,hm,q,k⟩=>by
 refine⟨δ,M,_,hs,hm,q,λ x H1 d M1 hd bO t1 q1=>?_⟩
 cases d with
 |bl c=>exact⟨c,aB.mp hd,k _ _ _ _ (aB.mpr rfl) bO t1 q1⟩
 |_=>exact q1.elim
variable {es:List Expr}{t:ft}
def G_:ft:=λ _ M Q=>Q [] M
def zo(ta:bV)(tr:ft):ft:=λ δ M Q=>ta δ M λ d M1=>tr δ M1 λ ds M2=>Q (d::ds) M2
theorem zR:QA X [] G_:=Ao gn λ σ H Q ⟨δ,M,Q2,hs,hm,q,k⟩=>k [] H [] M (by rw[aq]) hm (ar.refl H) q
theorem vJ(ha:QE X e ta)(hr:QA X es t)(hs:starEach (e::es) X.env=(false,eval e X.env)::starEach es X.env:=by rfl):QA X (e::es) (zo ta t):=Ao (cH ha hr hs) λ σ H Q ⟨δ,M,Q2,hs,hm,q,k⟩=>by
 refine⟨δ,M,_,hs,hm,q,λ x H1 d M1 hd bO t1 q1=>?_⟩
 refine⟨δ,M1,_,hs.mono t1,bO,q1,λ xs H2 ds M2 oE gS t2 q2=>?_⟩
 exact k (x::xs) H2 (d::ds) M2 (ag.mpr ⟨x,xs,rfl,Dat.mono t2 d hd,oE⟩) gS (t1.trans t2) q2
def G5(t:ft):bV:=λ δ M Q=>t δ M λ ds M1=>ds.length<=sizeLine/\Q (.tup ds) M1
theorem gC{K:PySem.W.Frag}{H:Hp}{p:Addr}{xs:List V}{ds:List D}(hp:H p=none)(h:aA K H ds xs):Dat K (upd H p (.tup xs)) (.tup ds) (.ref p):=aJ.mpr ⟨p,xs,rfl,fu.of aS,aA.mono (ar.laid hp) ds h⟩
theorem LM{x1}(h:QA X es t):QE X (.Tuple es x1 pos) (G5 t):=bF (Ai h) λ σ H Q ⟨δ,M,Q2,hs,hm,q,k⟩=>by
 refine⟨δ,M,_,hs,hm,q,λ xs H1 ds M1 hd bO t1 q1=>?_⟩
 refine⟨by rw[hd.length];exact q1.1,λ p hp=>?_⟩
 exact k _ _ (.tup ds) M1 (gC hp hd) (bO.laid hp) (t1.trans (ar.laid hp)) q1.2
def G'(t:ft):bV:=λ δ M Q=>t δ M λ ds M1=>ds.length<=sizeLine/\∀p,M1 p=none->Q (.ref p) (aK M1 p (.lst ds))
theorem df{K:PySem.W.Frag}{H:Hp}{M:Mem}{p:Addr}{xs:List V}{ds:List D}(hp:H p=none)(h:aA K H ds xs)(hm:RelM K H M):RelM K (upd H p (.lst xs)) (aK M p (.lst ds)):=
 hm.put (ar.laid hp) ⟨xs,aS,aA.mono (ar.laid hp) ds h⟩
theorem LR(h:QA X es t):QE X (.List es pos) (G' t):=bF (IG h) λ σ H Q ⟨δ,M,Q2,hs,hm,q,k⟩=>by
 refine⟨δ,M,_,hs,hm,q,λ xs H1 ds M1 hd bO t1 q1=>?_⟩
 refine⟨by rw[hd.length];exact q1.1,λ p hp=>?_⟩
 exact k _ _ (.ref p) _ (aH.mpr rfl) (df hp hd bO) (t1.trans (ar.laid hp)) (q1.2 p (bO.free hp))
theorem PY{r2:eE}(o:Oc X r2)(ha:QE X a ta)(hb:QE X b tb)(hs:qC b):QE X (.Subscript a b pos) (Ce r2 ta tb):=by
 obtain⟨r,ho,hr⟩:=o
 exact bF (L7 ho ha hb hs) (kH hr)
abbrev FE:=cZ->Mem->(Option Int->Mem->Prop)->Prop
def Of(K:PySem.W.Frag)(H:Hp)(Q2:Option Int->Mem->Prop)(Q:Option Int->Hp->Prop):Prop:=∀o H' M',RelM K H' M'->ar H H'->Q2 o M'->Q o H'
def SY(K:PySem.W.Frag)(t:FE):TO:=λ σ H Q=>∃δ M Q2,bK K H δ σ/\RelM K H M/\t δ M Q2/\Of K H Q2 Q
abbrev QO(X:Cx)(e:Option Expr)(t:FE):Prop:=PO X e (SY X.K t)
theorem FZ{e:Option Expr}{t t':TO}(h:PO X e t)(k:∀σ H Q,t' σ H Q->t σ H Q):PO X e t':=λ pins s σ H Q I q=>h pins s σ H Q I (k σ H Q q)
def pI:FE:=λ _ M Q=>Q none M
def zj(t:bV):FE:=λ δ M Q=>t δ M λ d M1=>match d with
 | .int i=>Q (some i) M1
 |_=>False
theorem DF:QO X none pI:=FZ DT λ σ H Q ⟨δ,M,Q2,hs,hm,q,k⟩=>k _ _ _ hm (ar.refl H) q
theorem DE(h:QE X e ta):QO X (some e) (zj ta):=FZ (DS h) λ σ H Q ⟨δ,M,Q2,hs,hm,q,k⟩=>by
 refine⟨δ,M,_,hs,hm,q,λ x H1 d M1 hd bO t1 q1=>?_⟩
 cases d with
 |int i=>exact⟨i,av.mp hd,k _ _ _ bO t1 q1⟩
 |_=>exact q1.elim
variable {lo hi:Option Expr}{tl th:FE}{p2:Pos}
def PB(r2:D->Option Int->Option Int->Mem->br->Prop)(te:bV)(tl th:FE):bV:=λ δ M Q=>te δ M λ d M1=>tl δ M1 λ l M2=>th δ M2 λ u M3=>r2 d l u M3 Q
theorem DL{r2:D->Option Int->Option Int->Mem->br->Prop}(o:N9 X r2)(he:QE X e ta)(hl:QO X lo tl)(hu:QO X hi th):QE X (.Subscript e (.Slice lo hi none p2) pos) (PB r2 ta tl th):=by
 obtain⟨r,ho,hr⟩:=o
 refine bF (Aj ho he hl hu) ?_
 rintro σ H Q ⟨δ,M,Q2,hs,hm,q,k⟩
 refine⟨δ,M,_,hs,hm,q,λ x H1 d M1 hd bO t1 q1=>?_⟩
 refine⟨δ,M1,_,hs.mono t1,bO,q1,λ l H2 M2 gS t2 q2=>?_⟩
 refine⟨δ,M2,_,hs.mono (t1.trans t2),gS,q2,λ u H3 M3 yG t3 q3=>?_⟩
 exact hr x d l u H3 M3 Q2 Q (Dat.mono (t2.trans t3) d hd) yG q3 (k.mono (t1.trans (t2.trans t3)))
def KJ(r2:List D->Mem->br->Prop)(t:ft):bV:=λ δ M Q=>t δ M λ ds M1=>r2 ds M1 Q
variable {x:Str}{p:Pos}{id T:String}
theorem wG{K:PySem.W.Frag}{r:List V->Hp->VK->Prop}{r2:List D->Mem->br->Prop}(hr:Kv K r r2):∀σ H Q,up K (KJ r2 t) σ H Q->Lb r (RY K t) σ H Q:=by
 rintro σ H Q ⟨δ,M,Q2,hs,hm,q,k⟩
 exact⟨δ,M,_,hs,hm,q,λ xs H1 ds M1 hd bO t1 q1=>hr xs ds H1 M1 Q2 Q hd bO q1 (k.mono t1)⟩
theorem DO{r2:List D->Mem->br->Prop}(o:cX X (.builtin id) r2)(hg:Gl X x)(hm:X.mg x=none)(hv:bootBuiltins x=some (.builtin id))(ha:QA X (e::es) t)(hn:x≠"__name__":=by decide)(hdb:(x==("__debug__":Str))=false:=by decide)
  (he:starEach (e::es) X.env=(false,eval e X.env)::starEach es X.env:=by rfl) (hpl:(backTo pos (starEach es X.env)).any (·.1)=false:=by rfl):QE X (.Call (.Name x p) (e::es) [] pos) (KJ r2 t):=by
 obtain⟨r,ho,hr⟩:=o
 exact bF (lQ ho hg hm hv ha hn hdb he hpl) (wG hr)
theorem DN{r2:List D->Mem->br->Prop}(o:cX X (.type T) r2)(hg:Gl X x)(hm:X.mg x=none)(hv:bootBuiltins x=some (.type T))(ha:QA X (e::es) t)(hn:x≠"__name__":=by decide)(hdb:(x==("__debug__":Str))=false:=by decide)
  (he:starEach (e::es) X.env=(false,eval e X.env)::starEach es X.env:=by rfl) (hpl:(backTo pos (starEach es X.env)).any (·.1)=false:=by rfl):QE X (.Call (.Name x p) (e::es) [] pos) (KJ r2 t):=by
 obtain⟨r,ho,hr⟩:=o
 exact bF (nX ho hg hm hv ha hn hdb he hpl) (wG hr)
end
end L3
namespace L3
open PySem PySem.Spec L2
def KG(T:String)(d:D)(M:Mem):Prop:=match d with
 | .str _=>T="str"
 | .ref a=>T="list"/\∃ds,M a=some (.lst ds)
 |_=>False
theorem KG.v {K:PySem.W.Frag}{H:Hp}{M:Mem}{T:String}{d:D}{x:V}(h:KG T d M)(r:Dat K H d x)(hm:RelM K H M):Pe K T x H:=by
 cases d with
 |str z=>cases(aN.mp r);exact h
 |ref a=>
  cases(aH.mp r)
  obtain⟨e,ds,q⟩:=h
  obtain⟨xs,hx,_⟩:=hm a _ q
  exact .inl ⟨e,xs,dN.of hx⟩
 |_=>exact h.elim
section
variable {X:Cx}{o e:Expr}{es:List Expr}{to:bV}{t:ft}{T id:String}{name:Str}{apos bT:Pos}
def PD(T:String)(r2:D->List D->Mem->br->Prop)(to:bV)(t:ft):bV:=λ δ M Q=>to δ M λ d M1=>KG T d M1/\t δ M1 λ ds M2=>r2 d ds M2 Q
theorem PZ{r2:D->List D->Mem->br->Prop}(pa:PlainAttrs T)(slot:Slot T name id)(hty:typeOf (.builtin id)=pure (.type "method_descriptor"))(hm:Kz X id r2)(ho:QE X o to)(ha:QA X (e::es) t)
  (hbase:attributeBase o name X.env (eval o X.env)=eval o X.env:=by rfl)
  (hfew:((backTo bT (starEach (e::es) X.env)).all (λ x=>!x.1)&&(backToKw bT (keywordEach [] X.env)).all (λ x=>x.1.isSome)
   &&decide ((e::es).length+([]:List Keyword).length+(if([]:List Keyword).isEmpty then 0 else 1) < 30))=true:=by rfl)
  (hline:(apos.endLine==bT.line)=true:=by rfl) (hs:starEach (e::es) X.env=(false,eval e X.env)::starEach es X.env:=by rfl) (hplain:(backTo bT (starEach es X.env)).any (·.1)=false:=by rfl):
  QE X (.Call (.Attribute o name apos) (e::es) [] bT) (PD T r2 to t):=by
 obtain⟨r,h1,hr⟩:=hm
 refine bF (F7 pa slot hty h1 ho ha hbase hfew hline hs hplain) ?_
 rintro σ H Q ⟨δ,M,Q2,hs,hm,q,k⟩
 refine⟨δ,M,_,hs,hm,q,λ x H1 d M1 hd bO t1 q1=>⟨q1.1.v hd bO,δ,M1,_,hs.mono t1,bO,q1.2,λ xs H2 ds M2 oE gS t2 q2=>?_⟩⟩
 exact hr x xs d ds H2 M2 Q2 Q (Dat.mono t2 d hd) oE gS q2 (k.mono (t1.trans t2))
end
abbrev gV:=List D->Mem->br->Prop
def cA(K:PySem.W.Frag)(sp:gV):Sp:=λ vs H Q _=>∃ds M Q2,aA K H ds vs/\RelM K H M/\sp ds M Q2/\gW K H Q2 Q
def sD(sp:gV)(t:ft):bV:=λ δ M Q=>t δ M λ ds M1=>sp ds M1 Q
abbrev cw(P:Program)(w:World)(K:PySem.W.Frag)(mg:Str->Option Value)(base:Heap)(k:Nat)(x:Str)(ps:List Str)(sp:gV):Prop:=bI P w K mg base k x ps (cA K sp)
section
variable {X:Cx}{x:Str}{p pos:Pos}{e:Expr}{es:List Expr}{t:ft}{k j:Nat}{ps:List Str}{sp:gV}
theorem LU(d:cw X.prog X.w X.K X.mg X.base k x ps sp)(hr:bC k X.A)(hg:Gl X x)(ha:QA X (e::es) t)(hdb:(x==("__debug__":Str))=false:=by decide)(he:starEach (e::es) X.env=(false,eval e X.env)::starEach es X.env:=by rfl)
  (hpl:(backTo pos (starEach es X.env)).any (·.1)=false:=by rfl):QE X (.Call (.Name x p) (e::es) [] pos) (sD sp t):=by
 refine bF (II d hr hg ha hdb he hpl) ?_
 rintro σ H Q ⟨δ,M,Q2,hs,hm,q,k⟩
 exact⟨δ,M,_,hs,hm,q,λ xs H1 ds M1 hd bO t1 q1=>⟨ds,M1,Q2,hd,bO,q1,k.mono t1⟩⟩
end
def fG(N:List Str)(ds:List D):cZ:=ds.map some++List.replicate (N.length - ds.length) none
theorem nS{K:PySem.W.Frag}{H:Hp}{N:List Str}{ds:List D}{vs:List V}(h:aA K H ds vs):bK K H (fG N ds) (L2.start N vs):=by
 have hl:=h.length
 refine⟨by unfold fG L2.start;simp[hl],λ i d e=>?_⟩
 unfold fG at e
 by_cases hi:i < ds.length
 ·rw[c8 (by simpa using hi),n0]at e
  cases q:ds[i]? with
  |none=>rw[q]at e;cases e
  |some d'=>
   rw[q]at e
   have e:d'=d:=by simpa using e
   subst e
   obtain⟨v,hv,r⟩:=h.get q
   refine⟨v,?_,r⟩
   unfold L2.start
   rw[c8 (by simp;omega),n0,hv]
   rfl
 ·rw[c6 (by simpa using hi),i6]at e
  split at e <;> cases e
def fin2(Q:br):br:=λ d M'=>∃yL,gB yL M'/\Q d yL
theorem ao{Q:br}{d:D}{M:Mem}(q:Q d M):fin2 Q d M:=⟨M,gB.refl M,q⟩
section
variable {P:Program}{w:World}{K:PySem.W.Frag}{mg:Str->Option Value}{base:Heap}
theorem To{x qual:Str}{st:Stmt}{f:Addr}{fd:FuncData}{N ps:List Str}{k:Nat}{sp:gV}(F:eN K x qual st f fd)(S:aI N ps (aj st))(len:∀ds M Q,sp ds M Q->ds.length=ps.length)
  (fg:∀(bW:Value) (A:Around) (outer:List Env) (s:Shared) (H:Hp) (E:XK) (ds:List D) (M:Mem) (Q:br),bC k (A.deeper (PyProof.Rows.envOfC qual (aj st) s.heap.objs.size f bW))->sp ds M Q->
   ∃t,yK (nv eO P w K mg base N qual (aj st) f bW A outer s H E).vR (cb st) t/\t {nx:=λ _ M'=>fin2 Q .aZ M',rt:=fin2 Q} (fG N ds) M):bh P w K mg base eO (k+1) f fd ps (cA K sp):=by
 refine F.ok S (λ vs H Q E h=>?_) (λ bW A outer s H vs Q E hr h=>?_)
 ·obtain⟨ds,M,Q2,hd,_,hs,_⟩:=h
  rw[hd.length]
  exact len ds M Q2 hs
 ·obtain⟨ds,M,Q2,hd,hm,hs,kk⟩:=h
  obtain⟨t,ht,q⟩:=fg bW A outer s H E ds M Q2 hr hs
  refine⟨_,ht,fG N ds,M,_,nS hd,hm,q,⟨?_,?_,?_,?_⟩⟩
  ·exact λ σ' H' δ' M' _ dR t' ⟨yL,s,q⟩=>kk _ H' .aZ yL (cU.mpr rfl) (dR.sub s) t' q
  ·exact λ v H' d M' fM dR t' ⟨yL,s,q⟩=>kk v H' d yL fM (dR.sub s) t' q
  ·exact λ σ' H' δ' M' _ dR t' q=>q
  ·exact λ σ' H' δ' M' _ dR t' q=>q
end
section
variable {X:Cx}{st:Stmt}{rest:List Stmt}{t u:fP}{te:bV}{e:Expr}{pos:Pos}
def zl:fP:=λ E δ M=>E.nx δ M
def CP(t u:fP):fP:=λ E δ M=>t {E with nx:=u E} δ M
theorem DB:yK X [] zl:=zX vM λ E σ H ⟨δ,M,D2,hs,hm,q,k⟩=>k.nx σ H δ M hs hm (ar.refl H) q
theorem DA(h:QS X st t):yK X [st] t:=kr h
theorem zN(h1:QS X st t)(h2:yK X rest u):yK X (st::rest) (CP t u):=zX (lN h1 h2) λ E σ H ⟨δ,M,D2,hs,hm,q,k⟩=>by
 refine⟨δ,M,_,hs,hm,q,⟨λ σ' H' δ' M' mi dR t' q'=>?_,k.rt,k.bk,k.ct⟩⟩
 exact⟨δ',M',D2,mi,dR,q',k.mono t'⟩
def zm(te:bV):fP:=λ E δ M=>te δ M λ _ M1=>E.nx δ M1
theorem DD(he:QE X e te)(hs:swapsWith e none pos.line X.env=pure false:=by rfl):QS X (.Expr e pos) (zm te):=gY (vN he hs) λ E σ H ⟨δ,M,D2,hs,hm,q,k⟩=>
 ⟨δ,M,_,hs,hm,q,λ x H1 d M1 hd bO t1 q1=>k.nx σ H1 δ M1 (hs.mono t1) bO t1 q1⟩
def G7(te:bV):fP:=λ E δ M=>te δ M E.rt
theorem HZ(he:QE X e te):QS X (.Return (some e) pos) (G7 te):=gY (Ip he) λ E σ H ⟨δ,M,D2,hs,hm,q,k⟩=>⟨δ,M,_,hs,hm,q,k.rt⟩
def Ha(c:eU)(t u:fP):fP:=λ E δ M=>c δ M λ b M1=>if b=true then t E δ M1 else u E δ M1
theorem LL{c:Expr}{a b:List Stmt}{tc:eU}(hc:QT X c tc)(ha:yK X a t)(hb:yK X b u):QS X (.If c a b pos) (Ha tc t u):=gY (FY hc ha hb) λ E σ H ⟨δ,M,D2,hs,hm,q,k⟩=>by
 refine⟨δ,M,_,hs,hm,q,λ b H1 M1 bO t1 q1=>?_⟩
 cases b with
 |true=>
  rw[A3 rfl]at q1 ⊢
  exact⟨δ,M1,D2,hs.mono t1,bO,q1,k.mono t1⟩
 |false=>
  rw[A4 l7]at q1 ⊢
  exact⟨δ,M1,D2,hs.mono t1,bO,q1,k.mono t1⟩
abbrev gA:=D->cZ->Mem->(cZ->Mem->Prop)->Prop
abbrev mQ:=List D->cZ->Mem->(cZ->Mem->Prop)->Prop
def KD(K:PySem.W.Frag)(t:gA):TG:=λ v σ H Q=>∃d δ M Q2,Dat K H d v/\bK K H δ σ/\RelM K H M/\t d δ M Q2/\jQ K H Q2 Q
def Pd(K:PySem.W.Frag)(t:mQ):FF:=λ vs σ H Q=>∃ds δ M Q2,aA K H ds vs/\bK K H δ σ/\RelM K H M/\t ds δ M Q2/\jQ K H Q2 Q
abbrev QG(X:Cx)(tg:Expr)(t:gA):Prop:=PG X tg (KD X.K t)
abbrev N_(X:Cx)(tg:List Expr)(t:mQ):Prop:=Kw X tg (Pd X.K t)
theorem Ag{tg:Expr}{g g':TG}(h:PG X tg g)(k:∀v σ H Q,g' v σ H Q->g v σ H Q):PG X tg g':=λ pins s σ H v u Q I r q=>h pins s σ H v u Q I r (k v σ H Q q)
theorem Ae{tg:List Expr}{g g':FF}(h:Kw X tg g)(k:∀v σ H Q,g' v σ H Q->g v σ H Q):Kw X tg g':=λ pins s σ H v u Q I r q=>h pins s σ H v u Q I r (k v σ H Q q)
def hName(i:Nat):gA:=λ d δ M Q=>Q (δ.set i (some d)) M
theorem jk{K:PySem.W.Frag}{i:Nat}:∀v σ H Q,KD K (hName i) v σ H Q->iR i v σ H Q:=λ v σ H Q ⟨d,δ,M,Q2,hd,hs,hm,q,k⟩=>k _ H _ M (hs.set hd) hm (ar.refl H) q
theorem DK{i:Nat}{x:Str}(hN:X.N.Nodup)(hi:X.N[i]?=some x)(hx:Loc X.env.scope x)(hf:X.fn x=true\/X.env.scope.names.lookup x=some .local:=by first|exact .inl rfl|exact .inr rfl|assumption):QG X (.Name x pos) (hName i):=
 Ag (bG hN hi hx hf) jk
def J8:mQ:=λ ds δ M Q=>match ds with
 |[]=>Q δ M
 |_=>False
def wm(t:gA)(u:mQ):mQ:=λ ds δ M Q=>match ds with
 |d::r=>t d δ M λ δ' M'=>u r δ' M' Q
 |_=>False
theorem DJ:N_ X [] J8:=Ae DZ λ v σ H Q ⟨ds,δ,M,Q2,hd,hs,hm,q,k⟩=>by
 cases ds with
 |nil=>exact⟨aq.mp hd,k _ H _ M hs hm (ar.refl H) q⟩
 |cons d r=>exact q.elim
theorem zQ{e:Expr}{es:List Expr}{t:gA}{u:mQ}(h1:QG X e t)(h2:N_ X es u)
  (hs:(assignEach (e::es) X.env).map (·.2)=assign e X.env::(assignEach es X.env).map (·.2):=by rfl):N_ X (e::es) (wm t u):=Ae (Ad h1 h2 hs) λ v σ H Q ⟨ds,δ,M,Q2,hd,hs,hm,q,k⟩=>by
 cases ds with
 |nil=>exact q.elim
 |cons d r=>
  obtain⟨x,xs,rfl,hx,Qz⟩:=ag.mp hd
  refine⟨x,xs,rfl,d,δ,M,_,hx,hs,hm,q,λ σ' H' δ' M' mi dR t' q'=>?_⟩
  exact⟨r,δ',M',Q2,aA.mono t' r Qz,mi,dR,q',k.mono t'⟩
def J7(n:Nat)(t:mQ):gA:=λ d δ M Q=>match d with
 | .tup ds=>ds.length=n/\t ds δ M Q
 |_=>False
theorem Ia{es:List Expr}{k:Nat}{t:mQ}{n:Nat}(hc:X.calm=true)(h:N_ X es t)
  (hn:(assignEach es X.env).length=n:=by rfl) (hst:(assignEach es X.env).findIdx? (·.1)=none:=by rfl):QG X (.Tuple es k pos) (J7 n t):=Ag (Iy hc h hn hst) λ v σ H Q ⟨d,δ,M,Q2,hd,hs,hm,q,k⟩=>by
 cases d with
 |tup ds=>
  obtain⟨p,xs,rfl,hq,hx⟩:=aJ.mp hd
  exact⟨p,xs,rfl,hq,by rw[hx.length];exact q.1,ds,δ,M,Q2,hx,hs,hm,q.2,k⟩
 |_=>exact q.elim
abbrev iY:=D->D->D->Mem->(Mem->Prop)->Prop
def Og(K:PySem.W.Frag)(H:Hp)(N2:Mem->Prop)(N:Hp->Prop):Prop:=∀H' M',RelM K H' M'->ar H H'->N2 M'->N H'
def Ku(K:PySem.W.Frag)(r:yx)(r2:iY):Prop:=∀o i v d j e H M Q2 Q,Dat K H d o->Dat K H j i->Dat K H e v->RelM K H M->r2 d j e M Q2->Og K H Q2 Q->r o i v H Q
def B8(X:Cx)(r2:iY):Prop:=∃r,qD X r/\Ku X.K r r2
def hSub(to ti:bV)(t:iY):gA:=λ e δ M Q=>to δ M λ d M1=>ti δ M1 λ j M2=>t d j e M2 λ M3=>Q δ M3
theorem Ib{o i:Expr}{to ti:bV}{t:iY}(ho:QE X o to)(hi:QE X i ti)(hs:B8 X t)
  (ha:∀v,assign (.Subscript o i pos) X.env v=(do
   let ov <- holding [v] (eval o X.env)
   let iv <- holding [v,ov] (eval i X.env)
   standAt pos
   holding [v,ov,iv] (setItem ov iv v)
   release [v,ov,iv] []):=by intro _;rfl):QG X (.Subscript o i pos) (hSub to ti t):=by
 obtain⟨r,h1,hr⟩:=hs
 refine Ag (Iz ho hi h1 ha) ?_
 rintro v σ H Q ⟨e,δ,M,Q2,hd,hs,hm,q,k⟩
 refine⟨δ,M,_,hs,hm,q,λ x H1 d M1 hx bO t1 q1=>?_⟩
 refine⟨δ,M1,_,hs.mono t1,bO,q1,λ y H2 j M2 hy gS t2 q2=>?_⟩
 exact hr x y v d j e H2 M2 _ _ (Dat.mono t2 d hx) hy (Dat.mono (t1.trans t2) e hd) gS q2 λ H3 M3 yG t3 q3=>k σ H3 δ M3 (hs.mono (t1.trans (t2.trans t3))) yG (t1.trans (t2.trans t3)) q3
def qY(te:bV)(g:gA):fP:=λ E δ M=>te δ M λ d M1=>g d δ M1 E.nx
theorem tE{K:PySem.W.Frag}{g:TG}{g2:gA}(hg:∀v σ H Q,KD K g2 v σ H Q->g v σ H Q):∀E σ H,Pc K (qY te g2) E σ H->yZ (up K te) g E σ H:=by
 rintro E σ H ⟨δ,M,D2,hs,hm,q,k⟩
 exact⟨δ,M,_,hs,hm,q,λ x H1 d M1 hd bO t1 q1=>hg x σ H1 _ ⟨d,δ,M1,_,hd,hs.mono t1,bO,q1,k.nx.mono t1⟩⟩
theorem H9{tg e:Expr}{g:gA}(he:QE X e te)(hg:QG X tg g)(hs:swapsWithSole [tg] e pos.line X.env=pure false:=by rfl)(hw:swappedStores [tg] e X.env=pure none:=by rfl)
  (h1:(assignEach [tg] X.env).map (·.2)=[assign tg X.env]:=by rfl):QS X (.Assign [tg] e pos) (qY te g):=gY (Ir he hg hs hw h1) (tE λ _ _ _ _ h=>h)
theorem HY{i:Nat}{x:Str}{e:Expr}{pos':Pos}(hN:X.N.Nodup)(hi:X.N[i]?=some x)(hx:Loc X.env.scope x)(he:QE X e te)(hs:swapsWith e (some (.Name x pos')) pos.line X.env=pure false:=by rfl)
  (hf:X.fn x=true\/X.env.scope.names.lookup x=some .local:=by first|exact .inl rfl|exact .inr rfl|assumption):QS X (.Assign [.Name x pos'] e pos) (qY te (hName i)):=gY (zZ hN hi hx he hs hf) (tE jk)
end
end L3
namespace L3
open PySem PySem.Spec L2
inductive Src where
 |fix (ds:List D)
 |at(a:Addr)
 |fn (f:Mem->Option (List D))
def items(s:Src)(M:Mem):Option (List D):=match s with
 | .fix ds=>some ds
 | .at a=>match M a with
  |some (.lst ds)=>some ds
  |_=>none
 | .fn f=>f M
def tI(K:PySem.W.Frag)(H1:Hp)(J:It)(src:Src):Prop:=∀H M ds,ar H1 H->RelM K H M->items src M=some ds->
 (∀i,i < ds.length->J.go i H)/\(∀i,i=ds.length->J.stop i H)/\(∀i x H',i < ds.length->J.Cr i H x H'->ar H H'/\RelM K H' M/\∃d,ds[i]?=some d/\Dat K H' d x)
abbrev nE:=cZ->Mem->(Src->Mem->Prop)->Prop
def K3(K:PySem.W.Frag)(t:nE):TI:=λ σ H R=>∃δ M R2,bK K H δ σ/\RelM K H M/\t δ M R2/\∀J H' src M',tI K H' J src->RelM K H' M'->ar H H'->R2 src M'->R J H'
abbrev QI(X:Cx)(tg iter:Expr)(t:nE):Prop:=PI X tg iter (K3 X.K t)
theorem vO{X:Cx}{tg iter:Expr}{t t':TI}(h:PI X tg iter t)(k:∀σ H R,t' σ H R->t σ H R):PI X tg iter t':=λ pins s σ H R I q=>h pins s σ H R I (k σ H R q)
def dw(z:Str):List D:=z.cps.toList.map λ c=>D.str ⟨#[c]⟩
def dY(lo:Int)(n:Nat):List D:=(List.range n).map λ i=>D.int (lo+(i:Nat))
theorem bL(lo:Int)(n:Nat):(dY lo n).length=n:=by simp[dY]
theorem lM{lo:Int}{n i:Nat}(h:i < n):(dY lo n)[i]?=some (.int (lo+(i:Nat))):=by simp[dY,h]
theorem A5{K:PySem.W.Frag}{H1:Hp}{z:Str}:tI K H1 (K1 z) (.fix (dw z)):=λ H M ds t hm e=>by
 cases e
 have hl:(dw z).length=z.cps.size:=by simp[dw]
 refine⟨λ i hi=>by rw[hl]at hi;exact hi,λ i hi=>by rw[hl]at hi;exact hi,λ i x H' hi y=>?_⟩
 obtain⟨e,c,hc,rfl⟩:=y
 subst e
 refine⟨ar.refl _,hm,.str ⟨#[c]⟩,?_,aN.mpr rfl⟩
 simp[dw,hc]
theorem AZ{K:PySem.W.Frag}{H1:Hp}{a:Addr}{xs:List V}{ds:List D}(h:fu K H1 a xs)(hd:aA K H1 ds xs):tI K H1 (RT K a) (.fix ds):=λ H M es t hm e=>by
 cases e
 have hq:=qO t h
 have hx:=aA.mono t ds hd
 have hl:=hx.length
 refine⟨λ i hi=>⟨xs,xs[i]'(by omega),hq,by simp[hl,hi]⟩,λ i hi=>⟨xs,hq,by omega⟩,λ i x H' hi y=>?_⟩
 obtain⟨e,y⟩:=y
 obtain⟨d,h1,h2⟩:=hx.uP (y xs hq)
 subst e
 exact⟨ar.refl _,hm,d,h1,h2⟩
theorem A6{K:PySem.W.Frag}{H1:Hp}{a:Addr}:tI K H1 (O9 K a) (.at a):=λ H M ds t hm e=>by
 have e:(match M a with|some (.lst ds)=>some ds|_=>none)=some ds:=e
 cases q:M a with
 |none=>rw[q]at e;cases e
 |some o=>
  cases o with
  |ir b aw=>rw[q]at e;cases e
  |lst es=>
   rw[q]at e
   have e:es=ds:=u7 e
   subst e
   obtain⟨xs,hx,hd⟩:=hm a _ q
   have hq:dN K H a xs:=dN.of hx
   have hl:=hd.length
   refine⟨λ i hi=>⟨xs,xs[i]'(by omega),hq,by simp[hl,hi]⟩,λ i hi=>⟨xs,hq,by omega⟩,λ i x H' hi y=>?_⟩
   obtain⟨e,y⟩:=y
   obtain⟨d,h1,h2⟩:=hd.uP (y xs hq)
   subst e
   exact⟨ar.refl _,hm,d,h1,h2⟩
theorem EJ{K:PySem.W.Frag}{H1:Hp}{a:Addr}{xs:List V}{ds:List D}(h:Gz K H1 a xs)(hd:aA K H1 ds xs):tI K H1 (O9 K a) (.fix ds):=λ H M es t hm e=>by
 cases e
 have hq:=(sv t h).sq
 have hx:=aA.mono t ds hd
 have hl:=hx.length
 refine⟨λ i hi=>⟨xs,xs[i]'(by omega),hq,by simp[hl,hi]⟩,λ i hi=>⟨xs,hq,by omega⟩,λ i x H' hi y=>?_⟩
 obtain⟨e,y⟩:=y
 obtain⟨d,h1,h2⟩:=hx.uP (y xs hq)
 subst e
 exact⟨ar.refl _,hm,d,h1,h2⟩
theorem md{K:PySem.W.Frag}{H1:Hp}{lo:Int}{n:Nat}:tI K H1 (Oe lo n) (.fix (dY lo n)):=λ H M ds t hm e=>by
 cases e
 rw[bL]
 refine⟨λ i hi=>hi,λ i hi=>Nat.le_of_eq hi.symm,λ i x H' hi y=>?_⟩
 obtain⟨e,rfl⟩:=y
 subst e
 exact⟨ar.refl _,hm,_,lM hi,av.mpr rfl⟩
section
variable {X:Cx}{tg l:Expr}{tl:bV}{ta:ft}{a b:Expr}{p pos:Pos}
def JC(tl:bV):nE:=λ δ M R=>tl δ M λ d M1=>match d with
 | .str z=>R (.fix (dw z)) M1
 | .tup ds=>R (.fix ds) M1
 | .fl ds=>R (.fix ds) M1
 | .ref a=>match M1 a with
  |some (.lst _)=>R (.at a) M1
  |_=>False
 |_=>False
theorem H_(hl:QE X l tl):QI X tg l (JC tl):=vO (Iw hl) λ σ H R ⟨δ,M,R2,hs,hm,q,k⟩=>by
 refine⟨δ,M,_,hs,hm,q,λ x H1 d M1 hd bO t1 q1=>?_⟩
 cases d with
 |str z=>
  cases(aN.mp hd)
  exact k _ H1 _ M1 A5 bO t1 q1
 |tup ds=>
  obtain⟨p,xs,rfl,hq,hx⟩:=aJ.mp hd
  exact .inr ⟨xs,hq,k _ H1 _ M1 (AZ hq hx) bO t1 q1⟩
 |fl ds=>
  obtain⟨p,xs,rfl,hq,hx⟩:=ie.mp hd
  exact .inl ⟨xs,hq.sq,k _ H1 _ M1 (EJ hq hx) bO t1 q1⟩
 |ref a=>
  cases(aH.mp hd)
  have q1:(match M1 a with|some (.lst _)=>R2 (.at a) M1|_=>False):=q1
  cases e:M1 a with
  |none=>rw[e]at q1;exact q1.elim
  |some o=>
   cases o with
   |ir b aw=>rw[e]at q1;exact q1.elim
   |lst es=>
    rw[e]at q1
    obtain⟨xs,hx,_⟩:=bO a _ e
    exact .inl ⟨xs,dN.of hx,k _ H1 _ M1 A6 bO t1 q1⟩
 |_=>exact q1.elim
def KA(j:Int):Prop:= -(2^62)<=j/\j < 2^62
theorem cS{j:Int}(h0: -1000000000<=j)(h1:j<=1000000000):KA j:=by
 constructor
 ·exact Int.le_trans (by decide) h0
 ·exact Int.lt_of_le_of_lt h1 (by decide)
def AW(ta:ft):nE:=λ δ M R=>ta δ M λ ds M1=>match ds with
 |[.int j]=>KA j/\R (.fix (dY 0 j.toNat)) M1
 |_=>False
def AV(ta:ft):nE:=λ δ M R=>ta δ M λ ds M1=>match ds with
 |[.int i,.int j]=>KA i/\KA j/\R (.fix (dY i (j - i).toNat)) M1
 |_=>False
theorem xu(hg:Gl X "range")(hm:X.mg "range"=none)(ha:QA X [a] ta)(hs:starEach [a] X.env=[(false,eval a X.env)]:=by rfl):QI X tg (.Call (.Name "range" p) [a] [] pos) (AW ta):=vO (xy hg hm ha hs) λ σ H R ⟨δ,M,R2,hs,hm,q,k⟩=>by
 refine⟨δ,M,_,hs,hm,q,λ xs H1 ds M1 hd bO t1 q1=>?_⟩
 cases ds with
 |nil=>exact q1.elim
 |cons d r=>
  cases r with
  |cons d2 r2=>cases d <;> exact q1.elim
  |nil=>
   cases d with
   |int j=>
    obtain⟨x,r,rfl,hx,hr⟩:=ag.mp hd
    cases(aq.mp hr)
    cases(av.mp hx)
    obtain⟨⟨b1,b2⟩,q1⟩:=q1
    exact⟨j,rfl,b1,b2,k _ H1 _ M1 md bO t1 q1⟩
   |_=>exact q1.elim
theorem xt(hg:Gl X "range")(hm:X.mg "range"=none)(ha:QA X [a,b] ta)(hs:starEach [a,b] X.env=[(false,eval a X.env),(false,eval b X.env)]:=by rfl)(hs2:starEach [b] X.env=[(false,eval b X.env)]:=by rfl):QI X tg (.Call (.Name "range" p) [a,b] [] pos) (AV ta):=vO (xx hg hm ha hs hs2) λ σ H R ⟨δ,M,R2,hs,hm,q,k⟩=>by
 refine⟨δ,M,_,hs,hm,q,λ xs H1 ds M1 hd bO t1 q1=>?_⟩
 cases ds with
 |nil=>exact q1.elim
 |cons d r=>
  cases r with
  |nil=>cases d <;> exact q1.elim
  |cons d2 r2=>
   cases r2 with
   |cons d3 r3=>cases d <;> cases d2 <;> exact q1.elim
   |nil=>
    cases d with
    |int i=>
     cases d2 with
     |int j=>
      obtain⟨x,r,rfl,hx,hr⟩:=ag.mp hd
      obtain⟨y,r2,rfl,hy,EU⟩:=ag.mp hr
      cases(aq.mp EU)
      cases(av.mp hx)
      cases(av.mp hy)
      obtain⟨⟨b1,b2⟩,⟨b3,b4⟩,q1⟩:=q1
      exact⟨i,j,rfl,⟨b1,b2,b3,b4⟩,k _ H1 _ M1 md bO t1 q1⟩
     |_=>exact q1.elim
    |_=>cases d2 <;> exact q1.elim
end
end L3
namespace L3
open PySem PySem.Spec L2
def Hb(wi:nE)(g:gA)(tb:fP):fP:=λ E δ M=>wi δ M λ src M1=>∃(B:Nat) (W:Nat->cZ->Mem->Prop),W 0 δ M1/\∀i δ M,W i δ M->i<=B/\match items src M with
 |none=>False
 |some ds=>match ds[i]? with
  |none=>i=ds.length/\E.nx δ M
  |some d=>g d δ M λ δ2 M2=>tb {E with nx:=W (i+1),ct:=W (i+1),bk:=E.nx} δ2 M2
section
variable {X:Cx}{tg iter:Expr}{wi:nE}{g:gA}{tb:fP}{body:List Stmt}{pos:Pos}
theorem H0(hp:PassesOwn (model X.prog X.w) X.A X.env X.xe)(hc:X.calm=true)(hi:QI X tg iter wi)(hg:QG X tg g)(hb:yK X body tb)(hs:∀x,foldedSetIterable iter X.env x=pure x:=by intro _;rfl):
  QS X (.For tg iter body [] pos) (Hb wi g tb):=gY (Iq hp hc hi hg hb hs) λ E σ H ⟨δ,M,D2,hs,hm,q,k⟩=>by
 refine⟨δ,M,_,hs,hm,q,λ J H1 src M1 ok bO t1 q1=>?_⟩
 obtain⟨B,W,w0,turn⟩:=q1
 refine⟨λ i m σ' H'=>m=B+1 - i/\∃δ' M',bK X.K H' δ' σ'/\RelM X.K H' M'/\ar H1 H'/\W i δ' M',⟨B+1,rfl,δ,M1,hs.mono t1,bO,ar.refl _,w0⟩,?_⟩
 rintro i m σ' H' ⟨rfl,δ',M',mi,dR,t',w'⟩
 obtain⟨hB,h⟩:=turn i δ' M' w'
 cases ei:items src M' with
 |none=>rw[ei]at h;exact h.elim
 |some ds=>
  rw[ei]at h
  obtain⟨go,stop,Cr⟩:=ok H' M' ds t' dR ei
  cases ed:ds[i]? with
  |none=>
   simp only[ed]at h
   exact .inl ⟨stop i h.1,k.nx σ' H' δ' M' mi dR (t1.trans t') h.2⟩
  |some d=>
   simp only[ed]at h
   have xZ:i < ds.length:=(g9.mp ed).1
   refine .inr ⟨go i xZ,λ σ2 H2=>∃δ2 M2,bK X.K H2 δ2 σ2/\RelM X.K H2 M2/\ar H1 H2/\W (i+1) δ2 M2,λ σ2 H2 ⟨δ2,M2,a,b,c,w2⟩=>⟨B+1 - (i+1),by omega,rfl,δ2,M2,a,b,c,w2⟩,λ x H2 y=>?_⟩
   obtain⟨t2,gS,d',e',fM⟩:=Cr i x H2 xZ y
   rw[ed]at e'
   cases e'
   refine⟨d,δ',M',_,fM,mi.mono t2,gS,h,λ σ3 H3 δ3 M3 OT yG t3 q3=>?_⟩
   refine⟨δ3,M3,_,OT,yG,q3,⟨?_,?_,?_,?_⟩⟩
   ·exact λ σ4 H4 δ4 M4 a b c w4=>⟨δ4,M4,a,b,t'.trans (t2.trans (t3.trans c)),w4⟩
   ·exact k.rt.mono (t1.trans (t'.trans (t2.trans t3)))
   ·exact k.nx.mono (t1.trans (t'.trans (t2.trans t3)))
   ·exact λ σ4 H4 δ4 M4 a b c w4=>⟨δ4,M4,a,b,t'.trans (t2.trans (t3.trans c)),w4⟩
end
end L3
namespace L3
open PySem PySem.Spec L2
def ud(c:eU)(tb:fP):fP:=λ E δ M=>∃W:Nat->cZ->Mem->Prop,(∃m,W m δ M)/\∀m δ M,W m δ M->c δ M λ b M1=>
 if b=true then ∃N:cZ->Mem->Prop,(∀δ' M',N δ' M'->∃m',m' < m/\W m' δ' M')/\tb {E with nx:=N,ct:=N,bk:=E.nx} δ M1 else E.nx δ M1
section
variable {X:Cx}{c:Expr}{tc:eU}{tb:fP}{body:List Stmt}{pos:Pos}
theorem zO(hp:PassesOwn (model X.prog X.w) X.A X.env X.xe)(hc:QT X c tc)(hb:yK X body tb):QS X (.While c body [] pos) (ud tc tb):=gY (zY hp hc hb) λ E σ H ⟨δ,M,D2,hs,hm,q,k⟩=>by
 obtain⟨W,⟨m0,w0⟩,turn⟩:=q
 refine⟨λ m σ' H'=>∃δ' M',bK X.K H' δ' σ'/\RelM X.K H' M'/\ar H H'/\W m δ' M',⟨m0,δ,M,hs,hm,ar.refl _,w0⟩,?_⟩
 rintro m σ' H' ⟨δ',M',mi,dR,t',w'⟩
 refine⟨δ',M',_,mi,dR,turn m δ' M' w',λ b H1 M1 bO t1 q1=>?_⟩
 cases b with
 |false=>
  simp only[l9,A0]at q1
  exact k.nx σ' H1 δ' M1 (mi.mono t1) bO (t'.trans t1) q1
 |true=>
  simp only[if_true]at q1
  obtain⟨N,hN,q1⟩:=q1
  refine⟨λ σ2 H2=>∃δ2 M2,bK X.K H2 δ2 σ2/\RelM X.K H2 M2/\ar H H2/\N δ2 M2,λ σ2 H2 ⟨δ2,M2,a,b,c,n2⟩=>?_,?_⟩
  ·obtain⟨m',dR,w2⟩:=hN δ2 M2 n2
   exact⟨m',dR,δ2,M2,a,b,c,w2⟩
  ·refine⟨δ',M1,_,mi.mono t1,bO,q1,⟨?_,?_,?_,?_⟩⟩
   ·exact λ σ4 H4 δ4 M4 a b c w4=>⟨δ4,M4,a,b,t'.trans (t1.trans c),w4⟩
   ·exact k.rt.mono (t'.trans t1)
   ·exact k.nx.mono (t'.trans t1)
   ·exact λ σ4 H4 δ4 M4 a b c w4=>⟨δ4,M4,a,b,t'.trans (t1.trans c),w4⟩
end
end L3
namespace L3
open PySem PySem.Spec L2
def ij(n:Nat)(fr:List Nat)(δ:cZ):cZ:=List.replicate n none++fr.map (λ j=>δ.getD j none)
theorem Fw{K:PySem.W.Frag}{H:Hp}{δ:cZ}{σ:L2.St}(h:bK K H δ σ)(n:Nat)(fr:List Nat):bK K H (ij n fr δ) (eL n fr σ):=by
 refine⟨by simp[ij,eL],λ i d e=>?_⟩
 unfold ij at e
 by_cases hi:i < n
 ·rw[c8 (by simpa using hi),i6,A3 hi]at e
  cases e
 ·rw[c6 (by simpa using hi),j7,n0]at e
  cases ej:fr[i - n]? with
  |none=>rw[ej]at e;cases e
  |some j=>
   rw[ej]at e
   have e:δ.getD j none=some d:=u7 e
   have hj:j < δ.length:=by
    refine Nat.lt_of_not_le λ z=>?_
    rw[c7,j8 z]at e
    cases e
   have e':δ[j]?=some (some d):=by
    rw[c7,i4 hj]at e
    rw[i4 hj]
    exact A1 some e
   obtain⟨v,hv,r⟩:=h.get j d e'
   refine⟨v,?_,r⟩
   unfold eL
   rw[c6 (by simpa using hi),j7,n0,ej]
   simp[c7,hv]
def ia(wi:nE)(g:gA)(tt:eU)(te:bV)(n:Nat)(fr:List Nat):cZ->Mem->(List D->Mem->Prop)->Prop:=λ δ M Q=>wi δ M λ src M1=>∃(B:Nat) (W:Nat->List D->Mem->Prop),W 0 [] M1/\∀i acc M,W i acc M->i<=B/\acc.length<=sizeLine/\match items src M with
 |none=>False
 |some ds=>match ds[i]? with
  |none=>i=ds.length/\Q acc M
  |some d=>g d (ij n fr δ) M λ δ2 M2=>tt δ2 M2 λ b M3=>if b=true then te δ2 M3 λ y M4=>W (i+1) (acc++[y]) M4 else W (i+1) acc M3
theorem gO{K:PySem.W.Frag}{wi:nE}{g:gA}{tt:eU}{te:bV}{n:Nat}{fr:List Nat}{Qe:List D->Mem->Prop}{σ:L2.St}{δ:cZ}{H:Hp}{M:Mem}{Q:V->Hp->Prop}{gv:TG}(Bv:∀v σ H Q,KD K g v σ H Q->gv v σ H Q)(hs:bK K H δ σ)(hm:RelM K H M)(q:ia wi g tt te n fr δ M Qe)
  (k:∀acc xs H' M' p,aA K H' acc xs->RelM K H' M'->ar H H'->acc.length<=sizeLine->H' p=none->Qe acc M'->Q (.ref p) (upd H' p (.lst xs))):nP (K3 K wi) gv (yD K tt) (up K te) n fr σ H Q:=by
 refine⟨δ,M,_,hs,hm,q,λ J H1 src M1 ok bO t1 q1=>?_⟩
 obtain⟨B,W,w0,turn⟩:=q1
 refine⟨λ i m xs H'=>m=B+1 - i/\∃acc M',aA K H' acc xs/\RelM K H' M'/\ar H1 H'/\W i acc M',⟨B+1,rfl,[],M1,by rw[aq],bO,ar.refl _,w0⟩,?_⟩
 rintro i m xs H' ⟨rfl,acc,M',fM,dR,t',w'⟩
 obtain⟨hB,hz,h⟩:=turn i acc M' w'
 refine⟨by rw[fM.length];exact hz,?_⟩
 cases ei:items src M' with
 |none=>rw[ei]at h;exact h.elim
 |some ds=>
  rw[ei]at h
  obtain⟨go,stop,Cr⟩:=ok H' M' ds t' dR ei
  cases ed:ds[i]? with
  |none=>
   simp only[ed]at h
   exact .inl ⟨stop i h.1,λ p hp=>k acc xs H' M' p fM dR (t1.trans t') hz hp h.2⟩
  |some d=>
   simp only[ed]at h
   have xZ:i < ds.length:=(g9.mp ed).1
   refine .inr ⟨go i xZ,λ ys H2=>∃FD M2,aA K H2 FD ys/\RelM K H2 M2/\ar H1 H2/\W (i+1) FD M2,λ ys H2 ⟨FD,M2,a,b,c,w2⟩=>⟨B+1 - (i+1),by omega,rfl,FD,M2,a,b,c,w2⟩,λ x H2 y=>?_⟩
   obtain⟨t2,gS,d',e',JM⟩:=Cr i x H2 xZ y
   rw[ed]at e'
   cases e'
   refine Bv _ _ _ _ ⟨d,ij n fr δ,M',_,JM,Fw (hs.mono (t1.trans (t'.trans t2))) n fr,gS,h,λ σ3 H3 δ3 M3 OT yG t3 q3=>?_⟩
   refine⟨δ3,M3,_,OT,yG,q3,λ b H4 M4 OV t4 q4=>?_⟩
   cases b with
   |false=>
    rw[A4 l7]at q4 ⊢
    exact⟨acc,M4,aA.mono (t2.trans (t3.trans t4)) acc fM,OV,t'.trans (t2.trans (t3.trans t4)),q4⟩
   |true=>
    rw[A3 rfl]at q4 ⊢
    exact⟨δ3,M4,_,OT.mono t4,OV,q4,λ yv H5 y5 M5 TM Uc t5 q5=>⟨acc++[y5],M5,(aA.mono (t2.trans (t3.trans (t4.trans t5))) acc fM).append (aA.one TM),Uc,t'.trans (t2.trans (t3.trans (t4.trans t5))),q5⟩⟩
section
variable {X:Cx}{scope:Scope}{tgs:List Str}{fr:List Nat}{tg elt iter:Expr}{ifs:List Expr}{pos:Pos}{wi:nE}{g:gA}{tt:eU}{te:bV}
abbrev O7(X:Cx)(ifs:List Expr)(t:eU):Prop:=K0 X ifs (yD X.K t)
def qW:eU:=λ _ M Q=>Q true M
theorem DH:O7 X [] qW:=λ pins s σ H Q I h=>DX pins s σ H Q I (by
 obtain⟨δ,M,Q2,hs,hm,q,k⟩:=h
 exact k _ _ _ hm (ar.refl H) q)
theorem DG{c:Expr}{t:eU}(h:QT X c t):O7 X [c] t:=DW h
def RM(X:Cx)(scope:Scope)(tgs:List Str)(fr:List Nat)(tg:Expr)(g2:gA):Prop:=
 ∃g:TG,(∀cl C fp s H,PG (bE X scope cl tgs fr C fp s H) tg g)/\mR tgs.length g/\∀v σ H Q,KD X.K g2 v σ H Q->g v σ H Q
theorem CD{i:Nat}{x:Str}{ps:Pos}(h:∀cl C fp s H,PG (bE X scope cl tgs fr C fp s H) (.Name x ps) (iR i))(hi:i < tgs.length):RM X scope tgs fr (.Name x ps) (hName i):=⟨_,h,E6 hi,jk⟩
def jv(X:Cx)(scope:Scope)(tgs:List Str)(fr:List Nat)(tg iter:Expr)(ifs:List Expr)(elt:Expr)(wi:nE)(g:gA)(tt:eU)(te:bV):Prop:=
 i_ X scope fr/\X.calm=true/\(∀e s,X.xe e s->False)/\QI X tg iter wi/\RM X scope tgs fr tg g/\(∀cl C fp s H,O7 (bE X scope cl tgs fr C fp s H) ifs tt)/\(∀cl C fp s H,QE (bE X scope cl tgs fr C fp s H) elt te)
def qX(wi:nE)(g:gA)(tt:eU)(te:bV)(n:Nat)(fr:List Nat):bV:=λ δ M Q=>ia wi g tt te n fr δ M λ ds M'=>∀p,M' p=none->Q (.ref p) (aK M' p (.lst ds))
theorem Ik(C:jv X scope tgs fr tg iter ifs elt wi g tt te)(hs:∀x,foldedSetIterable iter X.env x=pure x:=by intro _;rfl):QE X (.ListComp elt [⟨tg,iter,ifs,0⟩] scope pos) (qX wi g tt te tgs.length fr):=by
 obtain⟨B,hc,hE,hi,⟨gv,hg,gk,gl⟩,ht,he⟩:=C
 refine bF (kz (tt:=yD X.K tt) (te:=up X.K te) B hc hE hi hg gk ht he hs) ?_
 rintro σ H Q ⟨δ,M,Q2,hs,hm,q,k⟩
 exact gO gl hs hm q λ acc xs H' M' p hd dR t' hz hp q'=>k _ _ (.ref p) _ (aH.mpr rfl) (df hp hd dR) (t'.trans (ar.laid hp)) (q' p (dR.free hp))
theorem uj{i:Nat}{y:Str}{py iC:Pos}(hN:X.N.Nodup)(hiy:X.N[i]?=some y)(hy:Loc X.env.scope y)(C:jv X scope tgs fr tg iter ifs elt wi g tt te)
  (hsw:swapsWith (.ListComp elt [⟨tg,iter,ifs,0⟩] scope pos) (some (.Name y py)) iC.line X.env=pure true:=by rfl)
  (hf:X.fn y=true\/X.env.scope.names.lookup y=some .local:=by first|exact .inl rfl|exact .inr rfl|assumption)
  (hs:∀x,foldedSetIterable iter X.env x=pure x:=by intro _;rfl):QS X (.Assign [.Name y py] (.ListComp elt [⟨tg,iter,ifs,0⟩] scope pos) iC) (qY (qX wi g tt te tgs.length fr) (hName i)):=by
 obtain⟨B,hc,hE,hi,⟨gv,hg,gk,gl⟩,ht,he⟩:=C
 refine gY (um (tt:=yD X.K tt) (te:=up X.K te) hN hiy hy B hc hE hi hg gk ht he hsw hf hs) ?_
 rintro E σ H ⟨δ,M,D2,hs,hm,q,k⟩
 exact gO gl hs hm q λ acc xs H' M' p hd dR t' hz hp q'=>k.nx _ _ _ _ (((hs.mono t').mono (ar.laid hp)).set (aH.mpr rfl)) (df hp hd dR) (t'.trans (ar.laid hp)) (q' p (dR.free hp))
def xj(r3:List D->Mem->br->Prop)(wi:nE)(g:gA)(tt:eU)(te:bV)(n:Nat)(fr:List Nat):bV:=λ δ M Q=>ia wi g tt te n fr δ M λ ds M'=>r3 ds M' Q
def jO(r2:List D->Mem->br->Prop)(r3:List D->Mem->br->Prop):Prop:=∀ds M p Q,M p=none->ds.length<=sizeLine->r3 ds M Q->r2 [.ref p] (aK M p (.lst ds)) (fin2 Q)
theorem sy{K:PySem.W.Frag}{H:Hp}{Q2:br}{Q:VK}(k:gW K H Q2 Q):gW K H (fin2 Q2) Q:=λ v H' d M' hd hm t ⟨yL,s,q⟩=>k v H' d yL hd (hm.sub s) t q
variable {x:Str}{p:Pos}{id T:String}{bT:Pos}
theorem qM{r:List V->Hp->VK->Prop}{r2 r3:List D->Mem->br->Prop}{gv:TG}(gl:∀v σ H Q,KD X.K g v σ H Q->gv v σ H Q)(hr:Kv X.K r r2)(h3:jO r2 r3):∀σ H Q,up X.K (xj r3 wi g tt te tgs.length fr) σ H Q->Lb r (nO (nP (K3 X.K wi) gv (yD X.K tt) (up X.K te) tgs.length fr) CI) σ H Q:=by
 rintro σ H Q ⟨δ,M,Q2,hs,hm,q,k⟩
 show nP (K3 X.K wi) gv (yD X.K tt) (up X.K te) tgs.length fr σ H (λ x H1=>r [x] H1 Q)
 refine gO gl hs hm q λ acc xs H' M' p hd dR t' hz hp q'=>?_
 exact hr [.ref p] [.ref p] _ _ (fin2 Q2) Q (aA.one (aH.mpr rfl)) (df hp hd dR) (h3 acc M' p Q2 (dR.free hp) hz q') (sy (k.mono (t'.trans (ar.laid hp))))
theorem Ig{r2 r3:List D->Mem->br->Prop}(o:cX X (.builtin id) r2)(h3:jO r2 r3)(hg:Gl X x)(hm:X.mg x=none)(hv:bootBuiltins x=some (.builtin id))(C:jv X scope tgs fr tg iter ifs elt wi g tt te)(hn:x≠"__name__":=by decide)(hdb:(x==("__debug__":Str))=false:=by decide)
  (hs:∀x,foldedSetIterable iter X.env x=pure x:=by intro _;rfl):QE X (.Call (.Name x p) [.ListComp elt [⟨tg,iter,ifs,0⟩] scope bT] [] pos) (xj r3 wi g tt te tgs.length fr):=by
 obtain⟨B,hc,hE,hi,⟨gv,JU,gk,gl⟩,ht,he⟩:=C
 obtain⟨r,ho,hr⟩:=o
 exact bF (lQ ho hg hm hv (cH (kz (tt:=yD X.K tt) (te:=up X.K te) B hc hE hi JU gk ht he hs) gn) hn hdb) (qM gl hr h3)
theorem Ic{r2 r3:List D->Mem->br->Prop}(o:cX X (.type T) r2)(h3:jO r2 r3)(hg:Gl X x)(hm:X.mg x=none)(hv:bootBuiltins x=some (.type T))(C:jv X scope tgs fr tg iter ifs elt wi g tt te)(hn:x≠"__name__":=by decide)(hdb:(x==("__debug__":Str))=false:=by decide)
  (hs:∀x,foldedSetIterable iter X.env x=pure x:=by intro _;rfl):QE X (.Call (.Name x p) [.ListComp elt [⟨tg,iter,ifs,0⟩] scope bT] [] pos) (xj r3 wi g tt te tgs.length fr):=by
 obtain⟨B,hc,hE,hi,⟨gv,JU,gk,gl⟩,ht,he⟩:=C
 obtain⟨r,ho,hr⟩:=o
 exact bF (nX ho hg hm hv (cH (kz (tt:=yD X.K tt) (te:=up X.K te) B hc hE hi JU gk ht he hs) gn) hn hdb) (qM gl hr h3)
variable {o:Expr}{to:bV}{name:Str}{apos:Pos}
def zi(T:String)(r3:D->List D->Mem->br->Prop)(to:bV)(wi:nE)(g:gA)(tt:eU)(te:bV)(n:Nat)(fr:List Nat):bV:=λ δ M Q=>to δ M λ d M1=>KG T d M1/\ia wi g tt te n fr δ M1 λ ds M'=>r3 d ds M' Q
def vf(r2:D->List D->Mem->br->Prop)(r3:D->List D->Mem->br->Prop):Prop:=∀d ds M p Q,M p=none->ds.length<=sizeLine->r3 d ds M Q->r2 d [.ref p] (aK M p (.lst ds)) (fin2 Q)
theorem Ie{r2 r3:D->List D->Mem->br->Prop}(pa:PlainAttrs T)(slot:Slot T name id)(hty:typeOf (.builtin id)=pure (.type "method_descriptor"))(hm:Kz X id r2)(h3:vf r2 r3)(ho:QE X o to)(C:jv X scope tgs fr tg iter ifs elt wi g tt te)
  (hs:∀x,foldedSetIterable iter X.env x=pure x:=by intro _;rfl)
  (hbase:attributeBase o name X.env (eval o X.env)=eval o X.env:=by rfl)
  (hfew:((backTo pos (starEach [.ListComp elt [⟨tg,iter,ifs,0⟩] scope bT] X.env)).all (λ x=>!x.1)&&(backToKw pos (keywordEach [] X.env)).all (λ x=>x.1.isSome)
   &&decide (([.ListComp elt [⟨tg,iter,ifs,0⟩] scope bT]:List Expr).length+([]:List Keyword).length+(if([]:List Keyword).isEmpty then 0 else 1) < 30))=true:=by rfl)
  (hline:(apos.endLine==pos.line)=true:=by rfl):
  QE X (.Call (.Attribute o name apos) [.ListComp elt [⟨tg,iter,ifs,0⟩] scope bT] [] pos) (zi T r3 to wi g tt te tgs.length fr):=by
 obtain⟨B,hc,hE,hi,⟨gv,JU,gk,gl⟩,ht,he⟩:=C
 obtain⟨r,h1,hr⟩:=hm
 refine bF (F7 pa slot hty h1 ho (cH (kz (tt:=yD X.K tt) (te:=up X.K te) B hc hE hi JU gk ht he hs) gn) hbase hfew hline) ?_
 rintro σ H Q ⟨δ,M,Q2,hs,hm,q,k⟩
 refine⟨δ,M,_,hs,hm,q,λ x H1 d M1 hd bO t1 q1=>⟨q1.1.v hd bO,?_⟩⟩
 show nP (K3 X.K wi) gv (yD X.K tt) (up X.K te) tgs.length fr σ H1 (λ y H2=>r x [y] H2 Q)
 refine gO gl (hs.mono t1) bO q1.2 λ acc xs H' M' p sh dR t' hz hp q'=>?_
 exact hr x [.ref p] d [.ref p] _ _ (fin2 Q2) Q (Dat.mono (t'.trans (ar.laid hp)) d hd) (aA.one (aH.mpr rfl)) (df hp sh dR) (h3 d acc M' p Q2 (dR.free hp) hz q') (sy (k.mono (t1.trans (t'.trans (ar.laid hp)))))
end
end L3
namespace L3
open PySem PySem.Spec L2
section
variable {X:Cx}
def dI(C:Int->Int->Prop)(g:Int->Int->D):eE:=λ x y M Q=>match x,y with
 | .int i,.int j=>C i j/\Q (g i j) M
 |_,_=>False
def Kk(g:Int->Int->D):eE:=λ x y M Q=>match x,y with
 | .int i,.int j=>Q (g i j) M
 |_,_=>False
theorem si{f:Value->Value->Sem Value}{C:Int->Int->Prop}{g:Int->Int->Int}(h:dE X f (rI C λ i j=>.int (g i j))):dC X f (dI C λ i j=>.int (g i j)):=⟨_,h,λ x y d e H M Q2 Q hd he hm q k=>by
 cases d <;> cases e <;> first
  |exact q.elim
  |(cases(av.mp hd);cases(av.mp he);exact⟨_,_,rfl,rfl,q.1,k _ H _ M (av.mpr rfl) hm (ar.refl H) q.2⟩)⟩
theorem Tb{f:Value->Value->Sem Value}{g:Int->Int->Int}(h:dE X f (Cf λ i j=>.int (g i j))):dC X f (Kk λ i j=>.int (g i j)):=⟨_,h,λ x y d e H M Q2 Q hd he hm q k=>by
 cases d <;> cases e <;> first
  |exact q.elim
  |(cases(av.mp hd);cases(av.mp he);exact⟨_,_,rfl,rfl,k _ H _ M (av.mpr rfl) hm (ar.refl H) q⟩)⟩
theorem Py{f:Value->Value->Sem Value}{g:Int->Int->Bool}(h:dE X f (Cf λ i j=>.bl (g i j))):dC X f (Kk λ i j=>.bl (g i j)):=⟨_,h,λ x y d e H M Q2 Q hd he hm q k=>by
 cases d <;> cases e <;> first
  |exact q.elim
  |(cases(av.mp hd);cases(av.mp he);exact⟨_,_,rfl,rfl,k _ H _ M (aB.mpr rfl) hm (ar.refl H) q⟩)⟩
theorem Mh:dC X (binaryOp .Sub) (Kk λ i j=>.int (i - j)):=Tb IM
theorem jC:dC X (binaryOp .Mod) (dI (λ _ j=>0 < j) λ i j=>.int (i % j)):=si IU
theorem pU:dC X (binaryOp .FloorDiv) (dI KC λ i j=>.int (i / j)):=si D_
theorem Mi:dC X (binaryOp .Pow) (dI Oi λ i j=>.int (i^j.toNat)):=si IQ
theorem Ji:dC X (compareOp .Lt) (Kk λ i j=>.bl (decide (i < j))):=Py L'
theorem xJ:dC X (compareOp .Gt) (Kk λ i j=>.bl (decide (j < i))):=Py Mb
theorem Jl:dC X (compareOp .GtE) (Kk λ i j=>.bl (decide (j<=i))):=Py Mc
def Kl:eE:=λ x y M Q=>match x,y with
 | .int i,.int j=>Q (.int (i+j)) M
 | .str i,.str j=>i.length+j.length<=sizeLine/\Q (.str (i++j)) M
 | .tup xs,.tup ys=>xs≠[]/\xs.length+ys.length<=sizeLine/\Q (.tup (xs++ys)) M
 | .ref a,.ref b=>match M a,M b with
  |some (.lst xs),some (.lst ys)=>xs.length+ys.length<=sizeLine/\∀p,M p=none->Q (.ref p) (aK M p (.lst (xs++ys)))
  |_,_=>False
 |_,_=>False
theorem Mp:dC X (binaryOp .Add) Kl:=⟨_,Jc.or (uw.or (Jb.or D')),λ x y d e H M Q2 Q hd he hm q k=>by
 cases d with
 |int i=>
  cases e with
  |int j=>cases(av.mp hd);cases(av.mp he);exact .inl ⟨_,_,rfl,rfl,k _ H _ M (av.mpr rfl) hm (ar.refl H) q⟩
  |_=>exact q.elim
 |str i=>
  cases e with
  |str j=>cases(aN.mp hd);cases(aN.mp he);exact .inr (.inl ⟨_,_,rfl,rfl,q.1,k _ H _ M (aN.mpr rfl) hm (ar.refl H) q.2⟩)
  |_=>exact q.elim
 |tup xs=>
  cases e with
  |tup ys=>
   obtain⟨p,vs,rfl,hp,hx⟩:=aJ.mp hd
   obtain⟨p2,ws,rfl,oB,hy⟩:=aJ.mp he
   obtain⟨eG,hlen,q⟩:=q
   refine .inr (.inr (.inr ⟨p,p2,vs,ws,rfl,rfl,hp,oB,?_,by rw[hx.length,hy.length];exact hlen,?_⟩))
   ·intro z
    have:=hx.length
    rw[z]at this
    exact eG (i8.mp this.symm)
   ·refine⟨λ hz=>?_,λ hz p3 MK=>?_⟩
    ·have TN:ys=[]:=by
      have:=hy.length
      rw[hz]at this
      exact i8.mp this.symm
     subst TN
     rw[s9]at q
     exact k _ H _ M (aJ.mpr ⟨p,vs,rfl,hp,hx⟩) hm (ar.refl H) q
    ·exact k _ _ _ M (gC MK (hx.append hy)) (hm.laid MK) (ar.laid MK) q
  |_=>exact q.elim
 |ref a=>
  cases e with
  |ref b=>
   cases(aH.mp hd);cases(aH.mp he)
   have q:(match M a,M b with|some (.lst xs),some (.lst ys)=>xs.length+ys.length<=sizeLine/\∀p,M p=none->Q2 (.ref p) (aK M p (.lst (xs++ys)))|_,_=>False):=q
   cases ea:M a with
   |none=>rw[ea]at q;exact q.elim
   |some oa=>
    cases eb:M b with
    |none=>rw[ea,eb]at q;cases oa <;> exact q.elim
    |some ob=>
     cases oa with
     |ir b aw=>rw[ea,eb]at q;exact q.elim
     |lst xs=>
      cases ob with
      |ir b aw=>rw[ea,eb]at q;exact q.elim
      |lst ys=>
       rw[ea,eb]at q
       obtain⟨vs,Se,dvs⟩:=hm a _ ea
       obtain⟨ws,TR,SI⟩:=hm b _ eb
       refine .inr (.inr (.inl ⟨a,b,vs,ws,rfl,rfl,Se,TR,by rw[dvs.length,SI.length];exact q.1,λ p hp=>?_⟩))
       exact k _ _ (.ref p) _ (aH.mpr rfl) (df hp (dvs.append SI) hm) (ar.laid hp) (q.2 p (hm.free hp))
  |_=>exact q.elim
 |_=>exact q.elim⟩
def Fj:eE:=λ x y M Q=>match x,y with
 | .int i,.int j=>qE i j/\Q (.int (i*j)) M
 | .str z,.int n=>MulOk z n/\Q (.str (Txt.mul z n)) M
 |_,_=>False
theorem Mj:dC X (binaryOp .Mult) Fj:=⟨_,IT.or uv,λ x y d e H M Q2 Q hd he hm q k=>by
 cases d <;> cases e <;> first
  |exact q.elim
  |(cases(av.mp hd);cases(av.mp he);exact .inl ⟨_,_,rfl,rfl,q.1,k _ H _ M (av.mpr rfl) hm (ar.refl H) q.2⟩)
  |(cases(aN.mp hd);cases(av.mp he);exact .inr ⟨_,_,rfl,rfl,q.1,k _ H _ M (aN.mpr rfl) hm (ar.refl H) q.2⟩)⟩
def O4:eE:=λ x y M Q=>match x,y with
 | .int i,.int j=>Q (.bl (decide (i<=j))) M
 | .str i,.str j=>Q (.bl (!decide (j.cps.toList < i.cps.toList))) M
 |_,_=>False
theorem Aw:dC X (compareOp .LtE) O4:=⟨_,Ma.or xC,λ x y d e H M Q2 Q hd he hm q k=>by
 cases d <;> cases e <;> first
  |exact q.elim
  |(cases(av.mp hd);cases(av.mp he);exact .inl ⟨_,_,rfl,rfl,k _ H _ M (aB.mpr rfl) hm (ar.refl H) q⟩)
  |(cases(aN.mp hd);cases(aN.mp he);exact .inr ⟨_,_,rfl,rfl,k _ H _ M (aB.mpr rfl) hm (ar.refl H) q⟩)⟩
def mw:D->Option V
 | .aZ=>some .aZ
 | .bl b=>some (.bl b)
 | .int i=>some (.int i)
 | .str x=>some (.str x)
 |_=>none
theorem oG{K:PySem.W.Frag}{H:Hp}{d:D}{x v:V}(e:mw d=some v)(h:Dat K H d x):x=v:=by
 cases d with
 |aZ=>cases e;exact cU.mp h
 |bl b=>cases e;exact aB.mp h
 |int i=>cases e;exact av.mp h
 |str z=>cases e;exact aN.mp h
 |ty n=>exact absurd e (by intro z;cases z)
 |ref a=>exact absurd e (by intro z;cases z)
 |tup xs=>exact absurd e (by intro z;cases z)
 |fl xs=>exact absurd e (by intro z;cases z)
theorem mr{d:D}{v:V}(e:mw d=some v):fO v=true:=by
 cases d with
 |aZ=>cases e;rfl
 |bl b=>cases e;rfl
 |int i=>cases e;rfl
 |str z=>cases e;rfl
 |ty n=>exact absurd e (by intro z;cases z)
 |ref a=>exact absurd e (by intro z;cases z)
 |tup xs=>exact absurd e (by intro z;cases z)
 |fl xs=>exact absurd e (by intro z;cases z)
def Gv(neg:Bool):eE:=λ x y M Q=>match x,y with
 | .int i,.int j=>Q (.bl (xor neg (decide (i=j)))) M
 | .bl i,.bl j=>Q (.bl (xor neg (decide (i=j)))) M
 | .str i,.str j=>Q (.bl (xor neg (decide (i=j)))) M
 |_,_=>False
theorem Qd:dC X (compareOp .Eq) (Gv false):=⟨_,Md,λ x y d e H M Q2 Q hd he hm q k=>by
 cases d <;> cases e <;> first
  |exact q.elim
  |(cases(av.mp hd);cases(av.mp he);refine⟨rfl,k _ H _ M (aB.mpr rfl) hm (ar.refl H) ?_⟩;have q:Q2 (.bl (xor false (decide (_=_)))) M:=q;simpa using q)
  |(cases(aB.mp hd);cases(aB.mp he);refine⟨rfl,k _ H _ M (aB.mpr rfl) hm (ar.refl H) ?_⟩;have q:Q2 (.bl (xor false (decide (_=_)))) M:=q;simpa using q)
  |(cases(aN.mp hd);cases(aN.mp he);refine⟨rfl,k _ H _ M (aB.mpr rfl) hm (ar.refl H) ?_⟩;have q:Q2 (.bl (xor false (decide (_=_)))) M:=q;simpa using q)⟩
theorem Qb:dC X (compareOp .NotEq) (Gv true):=⟨_,L_,λ x y d e H M Q2 Q hd he hm q k=>by
 cases d <;> cases e <;> first
  |exact q.elim
  |(cases(av.mp hd);cases(av.mp he);refine⟨rfl,k _ H _ M (aB.mpr rfl) hm (ar.refl H) ?_⟩;have q:Q2 (.bl (xor true (decide (_=_)))) M:=q;simpa using q)
  |(cases(aB.mp hd);cases(aB.mp he);refine⟨rfl,k _ H _ M (aB.mpr rfl) hm (ar.refl H) ?_⟩;have q:Q2 (.bl (xor true (decide (_=_)))) M:=q;simpa using q)
  |(cases(aN.mp hd);cases(aN.mp he);refine⟨rfl,k _ H _ M (aB.mpr rfl) hm (ar.refl H) ?_⟩;have q:Q2 (.bl (xor true (decide (_=_)))) M:=q;simpa using q)⟩
def ym(neg:Bool):eE:=λ x y M Q=>match y with
 | .aZ=>match x with
  | .aZ=>Q (.bl (!neg)) M
  |_=>Q (.bl neg) M
 |_=>False
theorem sM{K:PySem.W.Frag}{H:Hp}{d:D}{x:V}(h:Dat K H d x):decide (x=.aZ)=match d with| .aZ=>true|_=>false:=by
 cases d with
 |aZ=>cases(cU.mp h);rfl
 |bl b=>cases(aB.mp h);rfl
 |int b=>cases(av.mp h);rfl
 |str b=>cases(aN.mp h);rfl
 |ty b=>cases(uS.mp h);rfl
 |ref b=>cases(aH.mp h);rfl
 |tup b=>obtain⟨p,xs,rfl,_⟩:=aJ.mp h;rfl
 |fl b=>obtain⟨p,xs,rfl,_⟩:=ie.mp h;rfl
theorem F8:dC X (compareOp .Is) (ym false):=⟨_,IY,λ x y d e H M Q2 Q hd he hm q k=>by
 cases e with
 |aZ=>
  refine⟨cU.mp he,?_⟩
  rw[sM hd]
  refine k _ H _ M (aB.mpr rfl) hm (ar.refl H) ?_
  cases d <;> exact q
 |_=>exact q.elim⟩
theorem Ax:dC X (compareOp .IsNot) (ym true):=⟨_,D7,λ x y d e H M Q2 Q hd he hm q k=>by
 cases e with
 |aZ=>
  refine⟨cU.mp he,?_⟩
  rw[sM hd]
  refine k _ H _ M (aB.mpr rfl) hm (ar.refl H) ?_
  cases d <;> exact q
 |_=>exact q.elim⟩
def NC:D->Mem->br->Prop:=λ x M Q=>match x with
 | .int i=>Q (.int (-i)) M
 |_=>False
theorem iA:RK X (unaryOp .USub) NC:=⟨_,GK,λ x d H M Q2 Q hd hm q k=>by
 cases d with
 |int i=>exact⟨i,av.mp hd,k _ H _ M (av.mpr rfl) hm (ar.refl H) q⟩
 |_=>exact q.elim⟩
def jI:List D->Option (List V)
 |[]=>some []
 |d::r=>match mw d,jI r with
  |some v,some vs=>some (v::vs)
  |_,_=>none
theorem mq{K:PySem.W.Frag}{H:Hp}:∀{ds:List D} {xs vs:List V},jI ds=some vs->aA K H ds xs->xs=vs/\vs.all fO=true
 |[],xs,vs,e,h=>by cases e;exact⟨aq.mp h,rfl⟩
 |d::r,xs,vs,e,h=>by
  obtain⟨x,ys,rfl,hx,hy⟩:=ag.mp h
  unfold jI at e
  cases e1:mw d with
  |none=>rw[e1]at e;cases e
  |some v=>
   cases e2:jI r with
   |none=>rw[e1,e2]at e;cases e
   |some ws=>
    rw[e1,e2]at e
    cases e
    obtain⟨h1,h2⟩:=mq e2 hy
    exact⟨by rw[oG e1 hx,h1],by rw[all_cons,mr e1,h2];rfl⟩
def inD(x:D)(ds:List D):Option Bool:=match mw x,jI ds with
 |some v,some vs=>some (Gb v vs)
 |_,_=>none
def NO:eE:=λ x y M Q=>match y with
 | .str j=>match x with
  | .str i=>Q (.bl (!(Builtin.Str.occurrences j i 0 j.length 1).isEmpty)) M
  |_=>False
 | .tup ds=>match inD x ds with
  |some b=>Q (.bl b) M
  |none=>False
 | .ref a=>match M a with
  |some (.lst ds)=>match inD x ds with
   |some b=>Q (.bl b) M
   |none=>False
  |_=>False
 |_=>False
theorem A_{K:PySem.W.Frag}{H:Hp}{x:V}{xs:List V}{d:D}{ds:List D}{b:Bool}(e:inD d ds=some b)(hd:Dat K H d x)(hx:aA K H ds xs):fO x=true/\xs.all fO=true/\Gb x xs=b:=by
 unfold inD at e
 cases e1:mw d with
 |none=>rw[e1]at e;cases e
 |some v=>
  cases e2:jI ds with
  |none=>rw[e1,e2]at e;cases e
  |some vs=>
   rw[e1,e2]at e
   have e:Gb v vs=b:=u7 e
   obtain⟨rfl,h2⟩:=mq e2 hx
   cases(oG e1 hd)
   exact⟨mr e1,h2,e⟩
theorem Qc:dC X (compareOp .In) NO:=⟨_,xD.or xE,λ x y d e H M Q2 Q hd he hm q k=>by
 cases e with
 |str j=>
  cases(aN.mp he)
  cases d with
  |str i=>cases(aN.mp hd);exact .inl ⟨_,_,rfl,rfl,k _ H _ M (aB.mpr rfl) hm (ar.refl H) q⟩
  |_=>exact q.elim
 |tup ds=>
  obtain⟨p,xs,rfl,hp,hx⟩:=aJ.mp he
  have q:(match inD d ds with|some b=>Q2 (.bl b) M|none=>False):=q
  cases ei:inD d ds with
  |none=>rw[ei]at q;exact q.elim
  |some b=>
   rw[ei]at q
   obtain⟨h1,h2,h3⟩:=A_ ei hd hx
   refine .inr ⟨p,xs,rfl,.inr hp,h1,h2,?_⟩
   simp only[l9,A0]
   rw[h3]
   exact k _ H _ M (aB.mpr rfl) hm (ar.refl H) q
 |ref a=>
  cases(aH.mp he)
  have q:(match M a with|some (.lst ds)=>(match inD d ds with|some b=>Q2 (.bl b) M|none=>False)|_=>False):=q
  cases ea:M a with
  |none=>rw[ea]at q;exact q.elim
  |some o=>
   cases o with
   |ir b aw=>rw[ea]at q;exact q.elim
   |lst ds=>
    rw[ea]at q
    obtain⟨xs,hx,dx⟩:=hm a _ ea
    cases ei:inD d ds with
    |none=>simp only[ei]at q
    |some b=>
     simp only[ei]at q
     obtain⟨h1,h2,h3⟩:=A_ ei hd dx
     refine .inr ⟨a,xs,rfl,.inl (dN.of hx),h1,h2,?_⟩
     simp only[l9,A0]
     rw[h3]
     exact k _ H _ M (aB.mpr rfl) hm (ar.refl H) q
 |_=>exact q.elim⟩
end
end L3
namespace L3
open PySem PySem.Spec L2
theorem Fz{K:PySem.W.Frag}{H:Hp}{ds:List D}{xs:List V}(h:aA K H ds xs){i:Int}{d:D}(e:eV ds i=some d):∃x,eV xs i=some x/\Dat K H d x:=by
 unfold eV at e ⊢
 rw[h.length]
 cases q:tL ds.length i with
 |none=>rw[q]at e;cases e
 |some j=>
  rw[q]at e
  obtain⟨x,h1,h2⟩:=h.get (i:=j) e
  exact⟨x,h1,h2⟩
section
variable {X:Cx}
def aY(M:Mem)(a:Addr):Option (List D):=match M a with
 |some (.lst ds)=>some ds
 |_=>none
theorem cN{K:PySem.W.Frag}{H:Hp}{M:Mem}{a:Addr}{ds:List D}(e:aY M a=some ds)(hm:RelM K H M):∃xs,H a=some (.lst xs)/\aA K H ds xs:=by
 unfold aY at e
 cases q:M a with
 |none=>rw[q]at e;cases e
 |some o=>
  cases o with
  |ir b aw=>rw[q]at e;cases e
  |lst es=>
   rw[q]at e
   cases e
   exact hm a _ q
def dz(M:Mem):D->Option (List D)
 | .tup ds=>some ds
 | .fl ds=>some ds
 | .ref a=>aY M a
 |_=>none
theorem gc{K:PySem.W.Frag}{H:Hp}{M:Mem}{d:D}{v:V}{ds:List D}(e:dz M d=some ds)(hd:Dat K H d v)(hm:RelM K H M):∃p xs,v=.ref p/\(dN K H p xs\/fu K H p xs)/\aA K H ds xs:=by
 cases d with
 |tup es=>
  cases e
  obtain⟨p,xs,rfl,h,q⟩:=aJ.mp hd
  exact⟨p,xs,rfl,.inr h,q⟩
 |fl es=>
  cases e
  obtain⟨p,xs,rfl,h,q⟩:=ie.mp hd
  exact⟨p,xs,rfl,.inl h.sq,q⟩
 |ref a=>
  cases(aH.mp hd)
  obtain⟨xs,h,q⟩:=cN e hm
  exact⟨a,xs,rfl,.inl (dN.of h),q⟩
 |_=>cases e
def Kj:eE:=λ x y M Q=>match y with
 | .int i=>match x with
  | .str z=>z.length<=sizeLine/\(match eV z.cps.toList i with
   |some c=>Q (.str ⟨#[c]⟩) M
   |none=>False)
  |x=>match dz M x with
   |some ds=>(match eV ds i with
    |some d=>Q d M
    |none=>False)
   |none=>False
 |_=>False
theorem pY{x:V}{d:D}{i:Int}{H:Hp}{M:Mem}{Q2:br}{Q:VK}{K:PySem.W.Frag}(hd:Dat K H d x)(hm:RelM K H M)(k:gW K H Q2 Q)
  (q:match dz M d with|some ds=>(match eV ds i with|some d=>Q2 d M|none=>False)|none=>False):∃p xs v,x=.ref p/\(dN K H p xs\/fu K H p xs)/\eV xs i=some v/\Q v H:=by
 cases e:dz M d with
 |none=>rw[e]at q;exact q.elim
 |some ds=>
  rw[e]at q
  cases ei:eV ds i with
  |none=>simp only[ei]at q
  |some d'=>
   simp only[ei]at q
   obtain⟨p,xs,rfl,h,hx⟩:=gc e hd hm
   obtain⟨v,h1,h2⟩:=Fz hx ei
   exact⟨p,xs,v,rfl,h,h1,k v H d' M h2 hm (ar.refl H) q⟩
theorem bN:Oc X Kj:=⟨_,L2.bN,λ x y d e H M Q2 Q hd he hm q k=>by
 cases e with
 |int i=>
  cases(av.mp he)
  cases d with
  |str z=>
   cases(aN.mp hd)
   obtain⟨hz,q⟩:=q
   refine⟨hz,?_⟩
   cases ei:eV z.cps.toList i with
   |none=>rw[ei]at q;exact q.elim
   |some c=>rw[ei]at q;exact⟨c,rfl,k _ H _ M (aN.mpr rfl) hm (ar.refl H) q⟩
  |tup ds=>
   obtain⟨p,xs,v,rfl,h⟩:=pY (d:=.tup ds) (i:=i) hd hm k q
   exact⟨xs,v,h⟩
  |fl ds=>
   obtain⟨p,xs,v,rfl,h⟩:=pY (d:=.fl ds) (i:=i) hd hm k q
   exact⟨xs,v,h⟩
  |ref a=>
   obtain⟨p,xs,v,rfl,h⟩:=pY (d:=.ref a) (i:=i) hd hm k q
   exact⟨xs,v,h⟩
  |_=>exact q.elim
 |_=>exact q.elim⟩
def cutD(xs:List D)(lo hi:Option Int):List D:=(xs.drop (HT.bQ xs.length 0 lo)).take (HT.bQ xs.length xs.length hi - HT.bQ xs.length 0 lo)
theorem sU{K:PySem.W.Frag}{H:Hp}{ds:List D}{xs:List V}(h:aA K H ds xs)(lo hi:Option Int):aA K H (cutD ds lo hi) (sV xs lo hi):=by
 unfold cutD sV
 rw[h.length]
 exact(h.drop _).take _
def SJ:D->Option Int->Option Int->Mem->br->Prop:=λ x lo hi M Q=>match x with
 | .str z=>z.length<=sizeLine/\Q (.str (dm z lo hi)) M
 | .tup ds=>¬(HT.bQ ds.length 0 lo=0/\HT.bQ ds.length ds.length hi=ds.length)/\Q (.tup (cutD ds lo hi)) M
 | .ref a=>match aY M a with
  |some ds=>∀p,M p=none->Q (.ref p) (aK M p (.lst (cutD ds lo hi)))
  |none=>False
 |_=>False
theorem uc:N9 X SJ:=⟨_,L2.uc,λ x d lo hi H M Q2 Q hd hm q k=>by
 cases d with
 |str z=>cases(aN.mp hd);exact⟨q.1,k _ H _ M (aN.mpr rfl) hm (ar.refl H) q.2⟩
 |tup ds=>
  obtain⟨p,xs,rfl,h,hx⟩:=aJ.mp hd
  refine .inr ⟨p,xs,rfl,h,by rw[hx.length];exact q.1,λ p2 oB=>?_⟩
  exact k _ _ _ M (gC oB (sU hx lo hi)) (hm.laid oB) (ar.laid oB) q.2
 |ref a=>
  cases(aH.mp hd)
  have q:(match aY M a with|some ds=>∀p,M p=none->Q2 (.ref p) (aK M p (.lst (cutD ds lo hi)))|none=>False):=q
  cases e:aY M a with
  |none=>rw[e]at q;exact q.elim
  |some ds=>
   rw[e]at q
   obtain⟨xs,h,hx⟩:=cN e hm
   exact .inl ⟨a,xs,rfl,dN.of h,λ p hp=>k _ _ (.ref p) _ (aH.mpr rfl) (df hp (sU hx lo hi) hm) (ar.laid hp) (q p (hm.free hp))⟩
 |_=>exact q.elim⟩
def uW:List D->Mem->br->Prop:=λ xs M Q=>match xs with
 |[.str z]=>z.length<=sizeLine/\Q (.int z.length) M
 |[x]=>match dz M x with
  |some ds=>Q (.int ds.length) M
  |none=>False
 |_=>False
theorem c_:cX X (.builtin "len") uW:=⟨_,qw.or qx,λ xs ds H M Q2 Q hd hm q k=>by
 cases ds with
 |nil=>exact q.elim
 |cons d r=>
  cases r with
  |cons d2 r2=>cases d <;> exact q.elim
  |nil=>
   obtain⟨x,r,rfl,hx,hr⟩:=ag.mp hd
   cases(aq.mp hr)
   have seq:(match dz M d with|some ds=>Q2 (.int ds.length) M|none=>False)->∃p ys,[x]=[V.ref p]/\(dN X.K H p ys\/fu X.K H p ys)/\Q (.int ys.length) H:=λ q=>by
    cases e:dz M d with
    |none=>rw[e]at q;exact q.elim
    |some es=>
     rw[e]at q
     obtain⟨p,ys,rfl,h,hy⟩:=gc e hx hm
     refine⟨p,ys,rfl,h,?_⟩
     rw[hy.length]
     exact k _ H _ M (av.mpr rfl) hm (ar.refl H) q
   cases d with
   |str z=>cases(aN.mp hx);exact .inl ⟨z,rfl,q.1,k _ H _ M (av.mpr rfl) hm (ar.refl H) q.2⟩
   |tup es=>exact .inr (seq q)
   |fl es=>exact .inr (seq q)
   |ref a=>exact .inr (seq q)
   |_=>exact q.elim⟩
def dList:List D->Mem->br->Prop:=λ xs M Q=>match xs with
 |[x]=>match dz M x with
  |some ds=>∀p,M p=none->Q (.ref p) (aK M p (.lst ds))
  |none=>False
 |_=>False
theorem Ko:cX X (.type "list") dList:=⟨_,qv,λ xs ds H M Q2 Q hd hm q k=>by
 cases ds with
 |nil=>exact q.elim
 |cons d r=>
  cases r with
  |cons d2 r2=>exact q.elim
  |nil=>
   obtain⟨x,r,rfl,hx,hr⟩:=ag.mp hd
   cases(aq.mp hr)
   have q:(match dz M d with|some ds=>∀p,M p=none->Q2 (.ref p) (aK M p (.lst ds))|none=>False):=q
   cases e:dz M d with
   |none=>rw[e]at q;exact q.elim
   |some es=>
    rw[e]at q
    obtain⟨p,ys,rfl,h,hy⟩:=gc e hx hm
    exact⟨p,ys,rfl,h,λ l hl=>k _ _ (.ref l) _ (aH.mpr rfl) (df hl hy hm) (ar.laid hl) (q l (hm.free hl))⟩⟩
def qm:List D->Mem->br->Prop:=λ xs M Q=>match xs with
 |[x]=>match dz M x with
  |some ds=>Q (.tup ds) M
  |none=>False
 |_=>False
theorem kR:cX X (.type "tuple") qm:=⟨_,nz,λ xs ds H M Q2 Q hd hm q k=>by
 cases ds with
 |nil=>exact q.elim
 |cons d r=>
  cases r with
  |cons d2 r2=>exact q.elim
  |nil=>
   obtain⟨x,r,rfl,hx,hr⟩:=ag.mp hd
   cases(aq.mp hr)
   have q:(match dz M d with|some ds=>Q2 (.tup ds) M|none=>False):=q
   cases e:dz M d with
   |none=>rw[e]at q;exact q.elim
   |some es=>
    rw[e]at q
    obtain⟨p,ys,rfl,h|h,hy⟩:=gc e hx hm
    ·exact⟨p,ys,rfl,.inl ⟨h,λ l hl=>k _ _ (.tup es) M (gC hl hy) (hm.laid hl) (ar.laid hl) q⟩⟩
    ·exact⟨p,ys,rfl,.inr ⟨h,k _ H (.tup es) M (aJ.mpr ⟨p,ys,rfl,h,hy⟩) hm (ar.refl H) q⟩⟩⟩
theorem jd:jO qm (λ ds M Q=>Q (.tup ds) M):=λ ds M p Q hp hz q=>by
 show(match dz (aK M p (.lst ds)) (.ref p)with|some es=>fin2 Q (.tup es) (aK M p (.lst ds))|none=>False)
 have e:dz (aK M p (.lst ds)) (.ref p)=some ds:=by
  show aY (aK M p (.lst ds)) p=some ds
  unfold aY
  rw[ay]
 rw[e]
 exact⟨M,(gB.refl M).put hp,q⟩
def iX:List D->Option (List Bool)
 |[]=>some []
 | .bl b::r=>(iX r).map (b::·)
 |_::_=>none
theorem eD:∀(bs:List Bool),iX (bs.map D.bl)=some bs
 |[]=>rfl
 |b::bs=>by rw[y0];unfold iX;rw[eD bs];rfl
theorem wI:∀{ds:List D} {bs:List Bool},iX ds=some bs->ds=bs.map D.bl
 |[],bs,e=>by cases e;rfl
 |d::r,bs,e=>by
  cases d with
  |bl b=>
   unfold iX at e
   cases q:iX r with
   |none=>rw[q]at e;cases e
   |some cs=>
    rw[q]at e
    cases e
    rw[wI q]
    rfl
  |_=>cases e
def NU:List D->Mem->br->Prop:=λ xs M Q=>match xs with
 |[.ref a]=>match aY M a with
  |some ds=>match iX ds with
   |some bs=>Q (.bl (bs.all id)) M
   |none=>False
  |none=>False
 |_=>False
theorem oP(hc:X.calm=true):cX X (.builtin "all") NU:=⟨_,tm hc,λ xs ds H M Q2 Q hd hm q k=>by
 cases ds with
 |nil=>exact q.elim
 |cons d r=>
  cases r with
  |cons d2 r2=>cases d <;> exact q.elim
  |nil=>
   cases d with
   |ref a=>
    obtain⟨x,r,rfl,hx,hr⟩:=ag.mp hd
    cases(aq.mp hr)
    cases(aH.mp hx)
    have q:(match aY M a with|some ds=>(match iX ds with|some bs=>Q2 (.bl (bs.all id)) M|none=>False)|none=>False):=q
    cases e:aY M a with
    |none=>rw[e]at q;exact q.elim
    |some es=>
     rw[e]at q
     cases eb:iX es with
     |none=>simp only[eb]at q
     |some bs=>
      simp only[eb]at q
      obtain⟨ys,h,hy⟩:=cN e hm
      rw[wI eb]at hy
      exact⟨a,bs,rfl,dN.of (by rw[h,mC hy]),k _ H _ M (aB.mpr rfl) hm (ar.refl H) q⟩
   |_=>exact q.elim⟩
theorem jl{M:Mem}{p:Addr}{ds:List D}:aY (aK M p (.lst ds)) p=some ds:=by unfold aY;rw[ay]
def jM:List D->Mem->br->Prop:=λ ds M Q=>match iX ds with
 |some bs=>Q (.bl (bs.all id)) M
 |none=>False
theorem gE:jO NU jM:=λ ds M p Q hp hz q=>by
 show(match aY (aK M p (.lst ds)) p with|some Vl=>(match iX Vl with|some bs=>fin2 Q (.bl (bs.all id)) (aK M p (.lst ds))|none=>False)|none=>False)
 rw[jl]
 unfold jM at q
 cases eb:iX ds with
 |none=>rw[eb]at q;exact q.elim
 |some bs=>
  rw[eb]at q
  simp only[eb]
  exact⟨M,(gB.refl M).put hp,q⟩
def jc(M:Mem):D->Option String
 | .aZ=>some "NoneType"
 | .bl _=>some "bool"
 | .int _=>some "int"
 | .str _=>some "str"
 | .tup _=>some "tuple"
 | .fl _=>some "list"
 | .ref a=>(aY M a).map λ _=>"list"
 |_=>none
def jX(n T:String):Bool:=n==T||(n=="bool"&&T=="int")
structure fQ(K:PySem.W.Frag)(T:String):Prop where
 aZ:PySem.W.kitOne K (.type "NoneType") (.type T)=some (jX "NoneType" T)
 bl:PySem.W.kitOne K (.type "bool") (.type T)=some (jX "bool" T)
 int:PySem.W.kitOne K (.type "int") (.type T)=some (jX "int" T)
 str:PySem.W.kitOne K (.type "str") (.type T)=some (jX "str" T)
 tup:PySem.W.kitOne K (.type "tuple") (.type T)=some (jX "tuple" T)
 lst:PySem.W.kitOne K (.type "list") (.type T)=some (jX "list" T)
end
end L3
namespace L3
open PySem PySem.Spec L2
section
variable {X:Cx}
theorem B1:cY X (.builtin "isinstance") (λ xs H Q=>∃(x:V) (T n:String),xs=[x,.ty T]/\fQ X.K T/\
  ((x=.aZ/\n="NoneType")\/(∃b,x=.bl b/\n="bool")\/(∃i,x=.int i/\n="int")\/(∃z,x=.str z/\n="str")\/(∃p ys,x=.ref p/\fu X.K H p ys/\n="tuple")\/(∃p ys,x=.ref p/\dN X.K H p ys/\n="list"))/\Q (.bl (jX n T)) H):=by
 intro pins s σ H xs us Q I r h
 obtain⟨x,T,n,rfl,ok,hx,q⟩:=h
 obtain⟨u,w',rfl,rx,ry⟩:=vals2 r
 have e:w'=Value.type T:=ry
 subst e
 rcases hx with⟨rfl,rfl⟩|⟨b,rfl,rfl⟩|⟨i,rfl,rfl⟩|⟨z,rfl,rfl⟩|⟨p,ys,rfl,hq,rfl⟩|⟨p,ys,rfl,hq,rfl⟩
 ·exact gL I rx .aZ ok.aZ λ tk=>⟨.bl _,H,I.tok tk,rfl,q⟩
 ·exact gL I rx (.bl b) ok.bl λ tk=>⟨.bl _,H,I.tok tk,rfl,q⟩
 ·exact gL I rx (.int i) ok.int λ tk=>⟨.bl _,H,I.tok tk,rfl,q⟩
 ·exact gL I rx (.str z) ok.str λ tk=>⟨.bl _,H,I.tok tk,rfl,q⟩
 ·cases(show u=Value.ref p from rx)
  obtain⟨au,_,⟨o,h1,h2,_⟩,_⟩:=I.tuple hq
  exact v9 PySem.W.kitx_tuple I.fV ⟨o,h1,h2⟩ ok.tup (λ z=>nomatch z) λ tk=>⟨.bl _,H,I.tok tk,rfl,q⟩
 ·cases(show u=Value.ref p from rx)
  obtain⟨au,_,pl,_⟩:=I.list hq
  obtain⟨o,h1,h2,_⟩:=pl.isList
  exact v9 PySem.W.kitx_list I.fV ⟨o,h1,h2⟩ ok.lst (λ z=>nomatch z) λ tk=>⟨.bl _,H,I.tok tk,rfl,q⟩
def Gs(T:String):List D->Mem->br->Prop:=λ xs M Q=>match xs with
 |[x,.ty U]=>U=T/\(match jc M x with
  |some n=>Q (.bl (jX n T)) M
  |none=>False)
 |_=>False
theorem cV{T:String}(ok:fQ X.K T):cX X (.builtin "isinstance") (Gs T):=⟨_,B1,λ xs ds H M Q2 Q hd hm q k=>by
 cases ds with
 |nil=>exact q.elim
 |cons d r0=>
 cases r0 with
 |nil=>exact q.elim
 |cons d2 r1=>
 cases r1 with
 |cons _ _=>cases d2 <;> exact q.elim
 |nil=>
 cases d2 with
 |ty U=>
  obtain⟨x,r,rfl,hx,hr⟩:=ag.mp hd
  obtain⟨y,r2,rfl,hy,EU⟩:=ag.mp hr
  cases(aq.mp EU)
  cases(uS.mp hy)
  obtain⟨rfl,q⟩:=q
  cases e:jc M d with
  |none=>rw[e]at q;exact q.elim
  |some n=>
   rw[e]at q
   refine⟨x,U,n,rfl,ok,?_,k _ H _ M (aB.mpr rfl) hm (ar.refl H) q⟩
   cases d with
   |aZ=>cases e;exact .inl ⟨cU.mp hx,rfl⟩
   |bl b=>cases e;exact .inr (.inl ⟨b,aB.mp hx,rfl⟩)
   |int i=>cases e;exact .inr (.inr (.inl ⟨i,av.mp hx,rfl⟩))
   |str z=>cases e;exact .inr (.inr (.inr (.inl ⟨z,aN.mp hx,rfl⟩)))
   |tup es=>
    cases e
    obtain⟨p,ys,rfl,h,_⟩:=aJ.mp hx
    exact .inr (.inr (.inr (.inr (.inl ⟨p,ys,rfl,h,rfl⟩))))
   |fl es=>
    cases e
    obtain⟨p,ys,rfl,h,_⟩:=ie.mp hx
    exact .inr (.inr (.inr (.inr (.inr ⟨p,ys,rfl,h.sq,rfl⟩))))
   |ref a=>
    cases el:aY M a with
    |none=>
     have e:(aY M a).map (λ _=>"list")=some n:=e
     rw[el]at e;cases e
    |some es=>
     have e:(aY M a).map (λ _=>"list")=some n:=e
     rw[el]at e;cases e
     obtain⟨ys,h,_⟩:=cN el hm
     exact .inr (.inr (.inr (.inr (.inr ⟨a,ys,aH.mp hx,dN.of h,rfl⟩))))
   |ty n=>cases e
 |_=>exact q.elim⟩
def e_:List D->Option (List Str)
 |[]=>some []
 | .str z::r=>(e_ r).map (z::·)
 |_::_=>none
theorem qN:∀{ds:List D} {zs:List Str},e_ ds=some zs->ds=zs.map D.str
 |[],zs,e=>by cases e;rfl
 |d::r,zs,e=>by
  cases d with
  |str z=>
   unfold e_ at e
   cases q:e_ r with
   |none=>rw[q]at e;cases e
   |some ys=>
    rw[q]at e
    cases e
    rw[qN q]
    rfl
  |_=>cases e
theorem nQ:∀(zs:List Str),e_ (zs.map D.str)=some zs
 |[]=>rfl
 |b::bs=>by rw[y0];unfold e_;rw[nQ bs];rfl
def mI:D->List D->Mem->br->Prop:=λ x ds M Q=>match x with
 | .str z=>match e_ ds with
  |some ys=>(ys.map (·.length)).sum+ys.length*z.length<=16777216/\Q (.str (Txt.join z ys)) M
  |none=>False
 |_=>False
def Gr:D->List D->Mem->br->Prop:=λ x vs M Q=>match vs with
 |[.ref a]=>match aY M a with
  |some ds=>mI x ds M Q
  |none=>False
 |_=>False
theorem Jo:Kz X "str.join" Gr:=⟨_,En,λ x xs d ds H M Q2 Q hx hd hm q k=>by
 cases ds with
 |nil=>exact q.elim
 |cons d1 r0=>
 cases r0 with
 |cons _ _=>cases d1 <;> exact q.elim
 |nil=>
 cases d1 with
 |ref a=>
  obtain⟨y,r,rfl,hy,hr⟩:=ag.mp hd
  cases(aq.mp hr)
  cases(aH.mp hy)
  have q:(match aY M a with|some ds=>mI d ds M Q2|none=>False):=q
  cases e:aY M a with
  |none=>rw[e]at q;exact q.elim
  |some es=>
   rw[e]at q
   cases d with
   |str z=>
    have q:(match e_ es with|some ys=>(ys.map (·.length)).sum+ys.length*z.length<=16777216/\Q2 (.str (Txt.join z ys)) M|none=>False):=q
    cases Gk:e_ es with
    |none=>rw[Gk]at q;exact q.elim
    |some ys=>
     rw[Gk]at q
     obtain⟨vs,h,hv⟩:=cN e hm
     rw[qN Gk]at hv
     exact⟨z,a,ys,aN.mp hx,rfl,dN.of (by rw[h,oJ hv]),q.1,k _ H _ M (aN.mpr rfl) hm (ar.refl H) q.2⟩
   |_=>exact q.elim
 |_=>exact q.elim⟩
theorem yX:vf Gr mI:=λ d ds M p Q hp hz q=>by
 show(match aY (aK M p (.lst ds)) p with|some es=>mI d es (aK M p (.lst ds)) (fin2 Q)|none=>False)
 rw[jl]
 cases d with
 |str z=>
  have q:(match e_ ds with|some ys=>(ys.map (·.length)).sum+ys.length*z.length<=16777216/\Q (.str (Txt.join z ys)) M|none=>False):=q
  show(match e_ ds with|some ys=>(ys.map (·.length)).sum+ys.length*z.length<=16777216/\fin2 Q (.str (Txt.join z ys)) (aK M p (.lst ds))|none=>False)
  cases e:e_ ds with
  |none=>rw[e]at q;exact q.elim
  |some ys=>rw[e]at q;exact⟨q.1,M,(gB.refl M).put hp,q.2⟩
 |_=>exact q.elim
def Fi:iY:=λ o i v M N=>match o,i with
 | .ref a,.int k=>match aY M a with
  |some ds=>(match tL ds.length k with
   |some j=>N (aK M a (.lst (ds.set j v)))
   |none=>False)
  |none=>False
 |_,_=>False
theorem lH:B8 X Fi:=⟨_,set_list,λ o i v d j e H M Q2 Q hd hj he hm q k=>by
 cases d with
 |ref a=>
  cases j with
  |int n=>
   cases(aH.mp hd);cases(av.mp hj)
   have q:(match aY M a with|some ds=>(match tL ds.length n with|some j=>Q2 (aK M a (.lst (ds.set j e)))|none=>False)|none=>False):=q
   cases el:aY M a with
   |none=>rw[el]at q;exact q.elim
   |some ds=>
    rw[el]at q
    cases ei:tL ds.length n with
    |none=>simp only[ei]at q
    |some m=>
     simp only[ei]at q
     obtain⟨xs,h,hx⟩:=cN el hm
     refine⟨a,xs,n,m,rfl,rfl,h,by rw[hx.length];exact ei,?_⟩
     exact k _ _ (hm.put (u:=.lst (ds.set m e)) (ar.lst h) ⟨_,aS,aA.mono (ar.lst h) _ (hx.set he m)⟩) (ar.lst h) q
  |_=>exact q.elim
 |_=>exact q.elim⟩
end
end L3
namespace L3
open PySem L2
section
variable {δ:cZ}{M M1:Mem}{Q:br}{ta tb tc:bV}{r r':eE}{E:dq}{t u:fP}{c c':eU}{QB:Bool->Mem->Prop}{tl:ft}{QL:List D->Mem->Prop}
theorem Hm(h:t {E with nx:=u E} δ M):CP t u E δ M:=h
theorem HI(h:c δ M λ b M1=>if b=true then t E δ M1 else u E δ M1):Ha c t u E δ M:=h
theorem C3(h:E.nx δ M):zl E δ M:=h
theorem Ho(h:ta δ M E.rt):G7 ta E δ M:=h
theorem HP{g:gA}(h:ta δ M λ d M1=>g d δ M1 E.nx):qY ta g E δ M:=h
theorem Dp(h:ta δ M λ _ M1=>E.nx δ M1):zm ta E δ M:=h
theorem vF{i:Nat}{d:D}{N:cZ->Mem->Prop}(h:N (δ.set i (some d)) M):hName i d δ M N:=h
theorem Hk{d:D}{N:cZ->Mem->Prop}{s:iY}(h:ta δ M λ o M1=>tb δ M1 λ j M2=>s o j d M2 λ M3=>N δ M3):hSub ta tb s d δ M N:=h
theorem Hl{a:Addr}{k:Int}{v:D}{ds:List D}{j:Nat}{N:Mem->Prop}(h:M a=some (.lst ds))(e:tL ds.length k=some j)(q:N (aK M a (.lst (ds.set j v)))):Fi (.ref a) (.int k) v M N:=by
 show(match aY M a with|some ds=>(match tL ds.length k with|some j=>N (aK M a (.lst (ds.set j v)))|none=>False)|none=>False)
 have e1:aY M a=some ds:=by unfold aY;rw[h]
 rw[e1]
 simp only[e]
 exact q
theorem CV(h:ta δ M λ d M1=>match d with| .bl k=>QB k M1|_=>False):lI ta δ M QB:=h
theorem Ls(h:ta δ M λ d M1=>tb δ M1 λ e M2=>r d e M2 Q):Ce r ta tb δ M Q:=h
theorem Lo{s:D->Mem->br->Prop}(h:ta δ M λ d M1=>s d M1 Q):Pz s ta δ M Q:=h
theorem Hh{i:Nat}{d:D}(e:δ[i]?=some (some d))(h:Q d M):zg i δ M Q:=by unfold zg;rw[e];exact h
theorem PK{d:D}(h:Q d M):sC d δ M Q:=h
theorem HQ(h:c δ M λ b M1=>if b=true then c' δ M1 QB else QB false M1):Hc c c' δ M QB:=h
theorem Lr(h:c δ M λ b M1=>if b=true then QB true M1 else c' δ M1 QB):PC c c' δ M QB:=h
theorem Hr(h:c δ M λ b M1=>QB (!b) M1):G9 c δ M QB:=h
theorem Dx(h:ta δ M λ d M1=>match d with| .bl c=>(if c=true then tb δ M1 Q else Q (.bl false) M1)|_=>False):zp ta tb δ M Q:=h
theorem Hq(h:ta δ M λ d M1=>match d with| .bl c=>(if c=true then Q (.bl true) M1 else tb δ M1 Q)|_=>False):G8 ta tb δ M Q:=h
theorem C2(h:ta δ M λ d M1=>match d with| .bl c=>Q (.bl (!c)) M1|_=>False):zk ta δ M Q:=h
theorem zH(h:ta δ M λ d M1=>tb δ M1 λ e M2=>r d e M2 λ z M3=>match z with| .bl k=>(if k=true then tc δ M3 λ w M4=>r' e w M4 Q else Q (.bl false) M3)|_=>False):jg r r' ta tb tc δ M Q:=h
theorem Hs(h:QL [] M):G_ δ M QL:=h
theorem Dq(h:ta δ M λ d M1=>tl δ M1 λ ds M2=>QL (d::ds) M2):zo ta tl δ M QL:=h
theorem Hi(h:tl δ M λ ds M1=>ds.length<=sizeLine/\Q (.tup ds) M1):G5 tl δ M Q:=h
theorem Hy(h:tl δ M λ ds M1=>ds.length<=sizeLine/\∀p,M1 p=none->Q (.ref p) (aK M1 p (.lst ds))):G' tl δ M Q:=h
theorem Lx{s:List D->Mem->br->Prop}(h:tl δ M λ ds M1=>s ds M1 Q):KJ s tl δ M Q:=h
theorem PJ{sp:gV}(h:tl δ M λ ds M1=>sp ds M1 Q):sD sp tl δ M Q:=h
theorem Lq{s:D->Option Int->Option Int->Mem->br->Prop}{l h':FE}(h:ta δ M λ d M1=>l δ M1 λ i M2=>h' δ M2 λ j M3=>s d i j M3 Q):PB s ta l h' δ M Q:=h
theorem xp{QO:Option Int->Mem->Prop}(h:QO none M):pI δ M QO:=h
theorem C1{QO:Option Int->Mem->Prop}(h:ta δ M λ d M1=>match d with| .int i=>QO (some i) M1|_=>False):zj ta δ M QO:=h
theorem Ly{T:String}{s:D->List D->Mem->br->Prop}(h:ta δ M λ d M1=>KG T d M1/\tl δ M1 λ ds M2=>s d ds M2 Q):PD T s ta tl δ M Q:=h
theorem ib(W:cZ->Mem->Prop)(h1:∀N:cZ->Mem->Prop,(∀δ' M',W δ' M'->N δ' M')->t {E with nx:=N} δ M)(h2:∀δ' M',W δ' M'->u E δ' M'):CP t u E δ M:=h1 (u E) h2
set_option tactic.hygienic true in
theorem nM{M:Mem}{a:Addr}{o:MO}(h:M a=some o):aK M a o=M:=by
 funext b
 unfold aK
 split
 ·rename_i e;rw[e,h]
 ·rfl
theorem eQ{a:Addr}{i:Int}{ds:List D}{d:D}(h:M a=some (.lst ds))(e:eV ds i=some d)(q:Q d M):Kj (.ref a) (.int i) M Q:=by
 show(match aY M a with|some ds=>(match eV ds i with|some d=>Q d M|none=>False)|none=>False)
 have e1:aY M a=some ds:=by unfold aY;rw[h]
 rw[e1]
 simp only[e]
 exact q
theorem gm{i:Int}{ds:List D}{d:D}(e:eV ds i=some d)(q:Q d M):Kj (.tup ds) (.int i) M Q:=by
 show(match eV ds i with|some d=>Q d M|none=>False)
 rw[e]
 exact q
theorem pJ{i:Int}{z:Str}{x:Nat}(hz:z.length<=sizeLine)(e:eV z.cps.toList i=some x)(q:Q (.str ⟨#[x]⟩) M):Kj (.str z) (.int i) M Q:=by
 refine⟨hz,?_⟩
 show(match eV z.cps.toList i with|some c=>Q (.str ⟨#[c]⟩) M|none=>False)
 rw[e]
 exact q
theorem PH{C:Int->Int->Prop}{g:Int->Int->D}{i j:Int}(h:C i j)(q:Q (g i j) M):dI C g (.int i) (.int j) M Q:=⟨h,q⟩
theorem Hw{g:Int->Int->D}{i j:Int}(h:0 < j)(q:Q (g i j) M):dI (λ _ j=>0 < j) g (.int i) (.int j) M Q:=⟨h,q⟩
theorem HN{g:Int->Int->D}{i j:Int}(h:0 < j)(h2:j < 1073741824)(q:Q (g i j) M):dI KC g (.int i) (.int j) M Q:=⟨⟨h,h2⟩,q⟩
theorem uX{i j:Int}(h0: -1000000000000<=i)(h1:i<=1000000000000):qE i j:=.inl ⟨Int.lt_of_lt_of_le (by decide) h0,Int.lt_of_le_of_lt h1 (by decide)⟩
theorem Km{i j:Int}(h0: -1000000000000<=j)(h1:j<=1000000000000):qE i j:=.inr ⟨Int.lt_of_lt_of_le (by decide) h0,Int.lt_of_le_of_lt h1 (by decide)⟩
theorem Lu{g:Int->Int->D}{i j:Int}(q:Q (g i j) M):Kk g (.int i) (.int j) M Q:=q
theorem C_{i j:Int}(h:qE i j)(q:Q (.int (i*j)) M):Fj (.int i) (.int j) M Q:=⟨h,q⟩
theorem C9{i:Str}{j:Int}(h:MulOk i j)(q:Q (.str (Txt.mul i j)) M):Fj (.str i) (.int j) M Q:=⟨h,q⟩
theorem HB{i j:Int}(q:Q (.bl (decide (i<=j))) M):O4 (.int i) (.int j) M Q:=q
theorem HA{i j:Str}(q:Q (.bl (!decide (j.cps.toList < i.cps.toList))) M):O4 (.str i) (.str j) M Q:=q
theorem HL{i j:Int}(q:Q (.bl (decide (i=j))) M):Gv false (.int i) (.int j) M Q:=by
 show Q (.bl (xor false (decide (i=j)))) M
 simpa using q
theorem HM{i j:Bool}(q:Q (.bl (decide (i=j))) M):Gv false (.bl i) (.bl j) M Q:=by
 show Q (.bl (xor false (decide (i=j)))) M
 simpa using q
theorem HK{i j:Str}(q:Q (.bl (decide (i=j))) M):Gv false (.str i) (.str j) M Q:=by
 show Q (.bl (xor false (decide (i=j)))) M
 simpa using q
theorem Hu{i j:Int}(q:Q (.bl (!decide (i=j))) M):Gv true (.int i) (.int j) M Q:=by
 show Q (.bl (xor true (decide (i=j)))) M
 simpa using q
theorem Hv{i j:Bool}(q:Q (.bl (!decide (i=j))) M):Gv true (.bl i) (.bl j) M Q:=by
 show Q (.bl (xor true (decide (i=j)))) M
 simpa using q
theorem De{a:Addr}{ds:List D}(h:M a=some (.lst ds))(q:Q (.int ds.length) M):uW [.ref a] M Q:=by
 show(match aY M a with|some ds=>Q (.int ds.length) M|none=>False)
 have e1:aY M a=some ds:=by unfold aY;rw[h]
 rw[e1]
 exact q
theorem Dc{ds:List D}(q:Q (.int ds.length) M):uW [.tup ds] M Q:=q
theorem km{z:Str}(h:z.length<=sizeLine)(q:Q (.int z.length) M):uW [.str z] M Q:=⟨h,q⟩
theorem HE{x:D}{ds:List D}{b:Bool}(e:inD x ds=some b)(q:Q (.bl b) M):NO x (.tup ds) M Q:=by
 show(match inD x ds with|some b=>Q (.bl b) M|none=>False)
 rw[e]
 exact q
theorem HG{x:D}{a:Addr}{ds:List D}{b:Bool}(h:M a=some (.lst ds))(e:inD x ds=some b)(q:Q (.bl b) M):NO x (.ref a) M Q:=by
 show(match M a with|some (.lst ds)=>(match inD x ds with|some b=>Q (.bl b) M|none=>False)|_=>False)
 rw[h]
 simp only[e]
 exact q
theorem HF{i j:Str}(q:Q (.bl (!(Builtin.Str.occurrences j i 0 j.length 1).isEmpty)) M):NO (.str i) (.str j) M Q:=q
theorem zz{ds:List D}(q:∀p,M p=none->Q (.ref p) (aK M p (.lst ds))):dList [.fl ds] M Q:=q
theorem Ht{i:Int}(q:Q (.int (-i)) M):NC (.int i) M Q:=q
theorem bz{P:Prop}{inst:Decidable P}{A B:Prop}(h1:P->A)(h2:¬P->B):if @decide P inst=true then A else B:=by
 by_cases h:P
 ·rw[x3 h,A3 rfl];exact h1 h
 ·rw[u4 h,A4 l7];exact h2 h
theorem dG{P:Prop}{inst:Decidable P}{A B:Prop}(h1:¬P->A)(h2:P->B):if(!@decide P inst)=true then A else B:=by
 by_cases h:P
 ·rw[x3 h,Bool.not_true,A4 l7];exact h2 h
 ·rw[u4 h,Bool.not_false,A3 rfl];exact h1 h
theorem Dg{A B:Prop}(h:A):if true=true then A else B:=by rw[A3 rfl];exact h
theorem Dh{A B:Prop}(h:B):if false=true then A else B:=by rw[A4 l7];exact h
theorem eI{b:Bool}{A B:Prop}(h1:b=true->A)(h2:b=false->B):if b=true then A else B:=by
 cases b with
 |true=>rw[A3 rfl];exact h1 rfl
 |false=>rw[A4 l7];exact h2 rfl
end
end L3
namespace L3
open PySem L2
section
variable {g:gA}{tt:eU}{te:bV}{tb:fP}{δ δc:cZ}{M1:Mem}{Qe:List D->Mem->Prop}{E:dq}
theorem fK{ds:List D}(Pv:Nat->List D->Mem->Prop)(h0:Pv 0 [] M1)(hz:∀i acc M,i<=ds.length->Pv i acc M->acc.length<=sizeLine)
  (hs:∀i d acc M,ds[i]?=some d->Pv i acc M->g d δc M λ δ2 M2=>tt δ2 M2 λ b M3=>if b=true then te δ2 M3 λ y M4=>Pv (i+1) (acc++[y]) M4 else Pv (i+1) acc M3)
  (hd:∀acc M,Pv ds.length acc M->Qe acc M):
  ∃(B:Nat) (W:Nat->List D->Mem->Prop),W 0 [] M1/\∀i acc M,W i acc M->i<=B/\acc.length<=sizeLine/\match items (.fix ds) M with
   |none=>False
   |some ds=>match ds[i]? with
    |none=>i=ds.length/\Qe acc M
    |some d=>g d δc M λ δ2 M2=>tt δ2 M2 λ b M3=>if b=true then te δ2 M3 λ y M4=>W (i+1) (acc++[y]) M4 else W (i+1) acc M3:=by
 refine⟨ds.length,λ i acc M=>if i<=ds.length then Pv i acc M else False,by dsimp only;rw[A3 (z4 _)];exact h0,?_⟩
 intro i acc M w
 by_cases hi:i<=ds.length
 ·rw[A3 hi]at w
  refine⟨hi,hz i acc M hi w,?_⟩
  show(match ds[i]? with
    |none=>i=ds.length/\Qe acc M
    |some d=>g d δc M λ δ2 M2=>tt δ2 M2 λ b M3=>if b=true then te δ2 M3 λ y M4=>(if i+1<=ds.length then Pv (i+1) (acc++[y]) M4 else False)else(if i+1<=ds.length then Pv (i+1) acc M3 else False))
  cases e:ds[i]? with
  |none=>
   have:i=ds.length:=Nat.le_antisymm hi (i0.mp e)
   subst this
   exact⟨rfl,hd acc M w⟩
  |some d=>
   have mU:i+1<=ds.length:=(g9.mp e).1
   simp only[A3 mU]
   exact hs i d acc M e w
 ·rw[A4 hi]at w
  exact w.elim
theorem gw{ds:List D}(Pv:Nat->cZ->Mem->Prop)(h0:Pv 0 δ M1)
  (hs:∀i d δ M,ds[i]?=some d->Pv i δ M->g d δ M λ δ2 M2=>tb {E with nx:=Pv (i+1),ct:=Pv (i+1),bk:=E.nx} δ2 M2)
  (hd:∀δ M,Pv ds.length δ M->E.nx δ M):
  ∃(B:Nat) (W:Nat->cZ->Mem->Prop),W 0 δ M1/\∀i δ M,W i δ M->i<=B/\match items (.fix ds) M with
   |none=>False
   |some ds=>match ds[i]? with
    |none=>i=ds.length/\E.nx δ M
    |some d=>g d δ M λ δ2 M2=>tb {E with nx:=W (i+1),ct:=W (i+1),bk:=E.nx} δ2 M2:=by
 refine⟨ds.length,λ i δ M=>if i<=ds.length then Pv i δ M else False,by dsimp only;rw[A3 (z4 _)];exact h0,?_⟩
 intro i δ M w
 by_cases hi:i<=ds.length
 ·rw[A3 hi]at w
  refine⟨hi,?_⟩
  show(match ds[i]? with
    |none=>i=ds.length/\E.nx δ M
    |some d=>g d δ M λ δ2 M2=>tb {E with nx:=(λ δ M=>if i+1<=ds.length then Pv (i+1) δ M else False),ct:=(λ δ M=>if i+1<=ds.length then Pv (i+1) δ M else False),bk:=E.nx} δ2 M2)
  cases e:ds[i]? with
  |none=>
   have:i=ds.length:=Nat.le_antisymm hi (i0.mp e)
   subst this
   exact⟨rfl,hd δ M w⟩
  |some d=>
   have mU:i+1<=ds.length:=(g9.mp e).1
   simp only[A3 mU]
   exact hs i d δ M e w
 ·rw[A4 hi]at w
  exact w.elim
end
section
variable {δ:cZ}{M:Mem}{Q:br}{wi:nE}{g:gA}{tt:eU}{te:bV}{n:Nat}{fr:List Nat}{ta:bV}{E:dq}{tb:fP}{tl:ft}{R:Src->Mem->Prop}
theorem Hj{r3:List D->Mem->br->Prop}(h:wi δ M λ src M1=>∃(B:Nat) (W:Nat->List D->Mem->Prop),W 0 [] M1/\∀i acc M,W i acc M->i<=B/\acc.length<=sizeLine/\match items src M with
   |none=>False
   |some ds=>match ds[i]? with
    |none=>i=ds.length/\r3 acc M Q
    |some d=>g d (ij n fr δ) M λ δ2 M2=>tt δ2 M2 λ b M3=>if b=true then te δ2 M3 λ y M4=>W (i+1) (acc++[y]) M4 else W (i+1) acc M3):xj r3 wi g tt te n fr δ M Q:=h
theorem CU{T:String}{r3:D->List D->Mem->br->Prop}(h:ta δ M λ d M1=>KG T d M1/\ia wi g tt te n fr δ M1 λ ds M'=>r3 d ds M' Q):zi T r3 ta wi g tt te n fr δ M Q:=h
theorem zG{Qe:List D->Mem->Prop}(h:wi δ M λ src M1=>∃(B:Nat) (W:Nat->List D->Mem->Prop),W 0 [] M1/\∀i acc M,W i acc M->i<=B/\acc.length<=sizeLine/\match items src M with
   |none=>False
   |some ds=>match ds[i]? with
    |none=>i=ds.length/\Qe acc M
    |some d=>g d (ij n fr δ) M λ δ2 M2=>tt δ2 M2 λ b M3=>if b=true then te δ2 M3 λ y M4=>W (i+1) (acc++[y]) M4 else W (i+1) acc M3):ia wi g tt te n fr δ M Qe:=h
theorem Dr(h:ia wi g tt te n fr δ M λ ds M'=>∀p,M' p=none->Q (.ref p) (aK M' p (.lst ds))):qX wi g tt te n fr δ M Q:=h
theorem HJ(h:wi δ M λ src M1=>∃(B:Nat) (W:Nat->cZ->Mem->Prop),W 0 δ M1/\∀i δ M,W i δ M->i<=B/\match items src M with
   |none=>False
   |some ds=>match ds[i]? with
    |none=>i=ds.length/\E.nx δ M
    |some d=>g d δ M λ δ2 M2=>tb {E with nx:=W (i+1),ct:=W (i+1),bk:=E.nx} δ2 M2):Hb wi g tb E δ M:=h
theorem C0(h:tl δ M λ ds M1=>match ds with|[.int j]=>KA j/\R (.fix (dY 0 j.toNat)) M1|_=>False):AW tl δ M R:=h
theorem Hg{QB:Bool->Mem->Prop}(h:QB true M):qW δ M QB:=h
theorem mO{α:Type}{xs:List α}{d:Int}(h0:0<=d)(h1:d < xs.length):∃c,eV xs d=some c:=by
 have hl:d.toNat < xs.length:=by omega
 have e:((d.toNat:Nat):Int)=d:=by omega
 have q:eV xs ((d.toNat:Nat):Int)=some xs[d.toNat]:=cI (by simp[hl])
 rw[e]at q
 exact⟨_,q⟩
end
end L3
namespace L3
open PySem L2
def strsOf:List Expr->Option (List Str)
 |[]=>some []
 | .Constant (.str x) _ _::r=>(strsOf r).map (x::·)
 |_::_=>none
def vB(zs:List Str):ft:=λ _ M Q=>Q (zs.map D.str) M
theorem CW{zs:List Str}{δ:cZ}{M:Mem}{Q:List D->Mem->Prop}(h:Q (zs.map D.str) M):vB zs δ M Q:=h
theorem vI{X:Cx}:∀{es:List Expr} {zs:List Str},strsOf es=some zs->QA X es (vB zs)
 |[],zs,h=>by cases h;exact zR
 |e::es,zs,h=>by
  cases e with
  |Constant c j pos=>
   cases c with
   |str x=>
    unfold strsOf at h
    cases q:strsOf es with
    |none=>rw[q]at h;cases h
    |some ys=>
     rw[q]at h
     cases h
     exact Ao (vJ (ta:=sC (.str x)) (t:=vB ys) FV (vI q)) λ σ H Q h=>h
   |_=>exact absurd h (by unfold strsOf;intro z;cases z)
  |_=>exact absurd h (by unfold strsOf;intro z;cases z)
end L3
namespace L4
open PySem PySem.Spec L2 L3
structure WE(X:Cx)(e:Expr)(t:bV):Prop where
 h:QE X e t
structure WT(X:Cx)(e:Expr)(t:eU):Prop where
 h:QT X e t
structure WW(X:Cx)(e:Expr)(t:eU):Prop where
 h:QW X e t
structure WA(X:Cx)(e:List Expr)(t:ft):Prop where
 h:QA X e t
structure WS(X:Cx)(e:Stmt)(t:fP):Prop where
 h:QS X e t
structure B6(X:Cx)(e:List Stmt)(t:fP):Prop where
 h:yK X e t
structure WO(X:Cx)(e:Option Expr)(t:FE):Prop where
 h:QO X e t
structure WG(X:Cx)(e:Expr)(t:gA):Prop where
 h:QG X e t
structure O5(X:Cx)(e:List Expr)(t:mQ):Prop where
 h:N_ X e t
structure RJ(X:Cx)(e:List Expr)(t:eU):Prop where
 h:O7 X e t
structure WI(X:Cx)(tg e:Expr)(t:nE):Prop where
 h:QI X tg e t
theorem WW.pt {X:Cx}{e:Expr}{t:eU}(w:WW X e t):WT X e t:=⟨w.h.pt⟩
structure N5(X:Cx)(scope:Scope)(tgs:List Str)(fr:List Nat)(tg:Expr)(g:gA):Prop where
 h:RM X scope tgs fr tg g
structure fL(X:Cx)(scope:Scope)(tgs:List Str)(fr:List Nat)(tg iter:Expr)(ifs:List Expr)(elt:Expr)(wi:nE)(g:gA)(tt:eU)(te:bV):Prop where
 b:i_ X scope fr
 calm:X.calm=true
 xe:∀e s,X.xe e s->False
 it:WI X tg iter wi
 S5:N5 X scope tgs fr tg g
 ifs:∀cl C fp s H,RJ (bE X scope cl tgs fr C fp s H) ifs tt
 elt:∀cl C fp s H,WE (bE X scope cl tgs fr C fp s H) elt te
theorem fL.h {X:Cx}{scope:Scope}{tgs:List Str}{fr:List Nat}{tg iter:Expr}{ifs:List Expr}{elt:Expr}{wi:nE}{g:gA}{tt:eU}{te:bV}(C:fL X scope tgs fr tg iter ifs elt wi g tt te):jv X scope tgs fr tg iter ifs elt wi g tt te:=
 ⟨C.b,C.calm,C.xe,C.it.h,C.S5.h,λ cl D fp s H=>(C.ifs cl D fp s H).h,λ cl D fp s H=>(C.elt cl D fp s H).h⟩
section
variable {X:Cx}{a b c e:Expr}{ta tb tc:bV}{pos:Pos}
theorem ax(i:Nat){x:Str}(hN:X.N[i]?=some x:=by rfl)(hv:N6 X.env.scope x:=by first|exact Or.inl rfl|exact Or.inr (Or.inl rfl)|exact Or.inr (Or.inr rfl))(hd:(x==("__debug__":Str))=false:=by decide)(hcd:(x==("__classdict__":Str))=false:=by decide):WE X (.Name x pos) (zg i):=⟨Ti (i:=i) (hN:=hN) (hv:=hv) (hd:=hd) (hcd:=hcd)⟩
theorem ak{i j}:WE X (.Constant (.int i) j pos) (sC (.int i)):=⟨LS⟩
theorem jR{i j}:WE X (.Constant (.bool i) j pos) (sC (.bl i)):=⟨P0⟩
theorem bx{i j}:WE X (.Constant (.str i) j pos) (sC (.str i)):=⟨FV⟩
theorem lb{j}:WE X (.Constant .none j pos) (sC .aZ):=⟨LQ⟩
theorem pf{x:Str}{d:D}(G:jP X.K X.mg x d)(hg:Gl X x)(hd:(x==("__debug__":Str))=false:=by decide):WE X (.Name x pos) (sC d):=⟨Ih (G:=G) (hg:=hg) (hd:=hd)⟩
theorem fB{x:Str}{n:String}(hg:Gl X x)(hm:X.mg x=none)(hv:bootBuiltins x=some (.type n))(hn:x≠"__name__":=by decide)(hd:(x==("__debug__":Str))=false:=by decide):WE X (.Name x pos) (sC (.ty n)):=⟨PU (hg:=hg) (hm:=hm) (hv:=hv) (hn:=hn) (hd:=hd)⟩
theorem bu{op:Operator}{r2:eE}(o:dC X (binaryOp op) r2)(ha:WE X a ta)(hb:WE X b tb):WE X (.BinOp a op b pos) (Ce r2 ta tb):=⟨PX (o:=o) (ha:=ha.h) (hb:=hb.h)⟩
theorem pe{op:UnaryOp}{r2:D->Mem->br->Prop}(o:RK X (unaryOp op) r2)(ha:WE X a ta):WE X (.UnaryOp op a pos) (Pz r2 ta):=⟨PR (o:=o) (ha:=ha.h)⟩
theorem eX{op:CmpOp}{r2:eE}(o:dC X (compareOp op) r2)(ha:WE X a ta)(hb:WE X b tb)(hm:behindInMarks op b=false):WE X (.Compare a [op] [b] pos) (Ce r2 ta tb):=⟨LV (o:=o) (ha:=ha.h) (hb:=hb.h) (hm:=hm)⟩
theorem aV{op:CmpOp}{r2:eE}(o:dC X (compareOp op) r2)(ha:WE X a ta)(hb:WE X b tb)(hm:behindInMarks op b=false):WT X (.Compare a [op] [b] pos) (lI (Ce r2 ta tb)):=⟨HX (o:=o) (ha:=ha.h) (hb:=hb.h) (hm:=hm)⟩
theorem Cz{op lT:CmpOp}{r2 ui:eE}(o:dC X (compareOp op) r2)(o':dC X (compareOp lT) ui)(ha:WE X a ta)(hb:WE X b tb)(hc:WE X c tc)(hm:lastMarks [op,lT] [b,c]=false:=by with_unfolding_all rfl):WE X (.Compare a [op,lT] [b,c] pos) (jg r2 ui ta tb tc):=⟨DM (o:=o) (o':=o') (ha:=ha.h) (hb:=hb.h) (hc:=hc.h) (hm:=hm)⟩
theorem yR{op lT:CmpOp}{r2 ui:eE}(o:dC X (compareOp op) r2)(o':dC X (compareOp lT) ui)(ha:WE X a ta)(hb:WE X b tb)(hc:WE X c tc)(hm:lastMarks [op,lT] [b,c]=false:=by with_unfolding_all rfl):WT X (.Compare a [op,lT] [b,c] pos) (lI (jg r2 ui ta tb tc)):=⟨zM (o:=o) (o':=o') (ha:=ha.h) (hb:=hb.h) (hc:=hc.h) (hm:=hm)⟩
theorem cO(h:WE X e ta)(he:∀whole,isTrue e X.env whole=(do let v <- whole;standAt e.pos;holding [v] (truthy v)):=by intro _;rfl):WT X e (lI ta):=⟨HV (h:=h.h) (he:=he)⟩
variable {tA tB:eU}{rest:List Expr}
theorem iy(ha:WT X a tA):WW X (.BoolOp .And [a] pos) tA:=⟨Dz (ha:=ha.h)⟩
theorem hV(ha:WT X a tA):WW X (.BoolOp .Or [a] pos) tA:=⟨HS (ha:=ha.h)⟩
theorem kZ(ha:WT X a tA)(hb:WW X (.BoolOp .And (b::rest) pos) tB):WW X (.BoolOp .And (a::b::rest) pos) (Hc tA tB):=⟨HU (ha:=ha.h) (hb:=hb.h)⟩
theorem jy(ha:WT X a tA)(hb:WW X (.BoolOp .Or (b::rest) pos) tB):WW X (.BoolOp .Or (a::b::rest) pos) (PC tA tB):=⟨LK (ha:=ha.h) (hb:=hb.h)⟩
theorem fz(ha:WT X a tA):WT X (.UnaryOp .Not a pos) (G9 tA):=⟨HW (ha:=ha.h)⟩
theorem gb{op}(h:WE X a ta):WE X (.BoolOp op [a] pos) ta:=⟨LO (h:=h.h)⟩
theorem w_and(ha:WE X a ta)(hb:WE X (.BoolOp .And (b::rest) pos) tb):WE X (.BoolOp .And (a::b::rest) pos) (zp ta tb):=⟨LW (ha:=ha.h) (hb:=hb.h)⟩
theorem w_or(ha:WE X a ta)(hb:WE X (.BoolOp .Or (b::rest) pos) tb):WE X (.BoolOp .Or (a::b::rest) pos) (G8 ta tb):=⟨PV (ha:=ha.h) (hb:=hb.h)⟩
theorem w_not(ha:WE X a ta):WE X (.UnaryOp .Not a pos) (zk ta):=⟨LP (ha:=ha.h)⟩
variable {es:List Expr}{t:ft}
theorem ae:WA X [] G_:=⟨zR⟩
theorem aa(ha:WE X e ta)(hr:WA X es t)(hs:starEach (e::es) X.env=(false,eval e X.env)::starEach es X.env:=by rfl):WA X (e::es) (zo ta t):=⟨vJ (ha:=ha.h) (hr:=hr.h) (hs:=hs)⟩
theorem cP{x1}(h:WA X es t):WE X (.Tuple es x1 pos) (G5 t):=⟨LM (h:=h.h)⟩
theorem gX(h:WA X es t):WE X (.List es pos) (G' t):=⟨LR (h:=h.h)⟩
theorem cf{r2:eE}(o:Oc X r2)(ha:WE X a ta)(hb:WE X b tb)(hs:qC b):WE X (.Subscript a b pos) (Ce r2 ta tb):=⟨PY (o:=o) (ha:=ha.h) (hb:=hb.h) (hs:=hs)⟩
theorem bc:WO X none pI:=⟨DF⟩
theorem bb(h:WE X e ta):WO X (some e) (zj ta):=⟨DE (h:=h.h)⟩
variable {lo hi:Option Expr}{tl th:FE}{p2:Pos}
theorem bg{r2:D->Option Int->Option Int->Mem->br->Prop}(o:N9 X r2)(he:WE X e ta)(hl:WO X lo tl)(hu:WO X hi th):WE X (.Subscript e (.Slice lo hi none p2) pos) (PB r2 ta tl th):=⟨DL (o:=o) (he:=he.h) (hl:=hl.h) (hu:=hu.h)⟩
variable {x:Str}{p:Pos}{id T:String}
theorem aE{r2:List D->Mem->br->Prop}(o:cX X (.builtin id) r2)(hg:Gl X x)(hm:X.mg x=none)(hv:bootBuiltins x=some (.builtin id))(ha:WA X (e::es) t)(hn:x≠"__name__":=by decide)(hdb:(x==("__debug__":Str))=false:=by decide)(he:starEach (e::es) X.env=(false,eval e X.env)::starEach es X.env:=by rfl)(hpl:(backTo pos (starEach es X.env)).any (·.1)=false:=by rfl):WE X (.Call (.Name x p) (e::es) [] pos) (KJ r2 t):=⟨DO (o:=o) (hg:=hg) (hm:=hm) (hv:=hv) (ha:=ha.h) (hn:=hn) (hdb:=hdb) (he:=he) (hpl:=hpl)⟩
theorem pq{r2:List D->Mem->br->Prop}(o:cX X (.type T) r2)(hg:Gl X x)(hm:X.mg x=none)(hv:bootBuiltins x=some (.type T))(ha:WA X (e::es) t)(hn:x≠"__name__":=by decide)(hdb:(x==("__debug__":Str))=false:=by decide)(he:starEach (e::es) X.env=(false,eval e X.env)::starEach es X.env:=by rfl)(hpl:(backTo pos (starEach es X.env)).any (·.1)=false:=by rfl):WE X (.Call (.Name x p) (e::es) [] pos) (KJ r2 t):=⟨DN (o:=o) (hg:=hg) (hm:=hm) (hv:=hv) (ha:=ha.h) (hn:=hn) (hdb:=hdb) (he:=he) (hpl:=hpl)⟩
end
section
variable {X:Cx}{o e:Expr}{es:List Expr}{to:bV}{t:ft}{T id:String}{name:Str}{apos bT:Pos}
theorem GJ{r2:D->List D->Mem->br->Prop}(pa:PlainAttrs T)(slot:Slot T name id)(hty:typeOf (.builtin id)=pure (.type "method_descriptor"))(hm:Kz X id r2)(ho:WE X o to)(ha:WA X (e::es) t)(hbase:attributeBase o name X.env (eval o X.env)=eval o X.env:=by rfl)(hfew:((backTo bT (starEach (e::es) X.env)).all (λ x=>!x.1)&&(backToKw bT (keywordEach [] X.env)).all (λ x=>x.1.isSome)
   &&decide ((e::es).length+([]:List Keyword).length+(if([]:List Keyword).isEmpty then 0 else 1) < 30))=true:=by rfl) (hline:(apos.endLine==bT.line)=true:=by rfl) (hs:starEach (e::es) X.env=(false,eval e X.env)::starEach es X.env:=by rfl) (hplain:(backTo bT (starEach es X.env)).any (·.1)=false:=by rfl):WE X (.Call (.Attribute o name apos) (e::es) [] bT) (PD T r2 to t):=⟨PZ (pa:=pa) (slot:=slot) (hty:=hty) (hm:=hm) (ho:=ho.h) (ha:=ha.h) (hbase:=hbase) (hfew:=hfew) (hline:=hline) (hs:=hs) (hplain:=hplain)⟩
end
section
variable {X:Cx}{x:Str}{p pos:Pos}{e:Expr}{es:List Expr}{t:ft}{k j:Nat}{ps:List Str}{sp:gV}
theorem aQ(d:cw X.prog X.w X.K X.mg X.base k x ps sp)(hr:bC k X.A)(hg:Gl X x)(ha:WA X (e::es) t)(hdb:(x==("__debug__":Str))=false:=by decide)(he:starEach (e::es) X.env=(false,eval e X.env)::starEach es X.env:=by rfl)(hpl:(backTo pos (starEach es X.env)).any (·.1)=false:=by rfl):WE X (.Call (.Name x p) (e::es) [] pos) (sD sp t):=⟨LU (d:=d) (hr:=hr) (hg:=hg) (ha:=ha.h) (hdb:=hdb) (he:=he) (hpl:=hpl)⟩
end
section
variable {X:Cx}{st:Stmt}{rest:List Stmt}{t u:fP}{te:bV}{e:Expr}{pos:Pos}
theorem aL:B6 X [] zl:=⟨DB⟩
theorem ai(h:WS X st t):B6 X [st] t:=⟨DA (h:=h.h)⟩
theorem af(h1:WS X st t)(h2:B6 X rest u):B6 X (st::rest) (CP t u):=⟨zN (h1:=h1.h) (h2:=h2.h)⟩
theorem kf(he:WE X e te)(hs:swapsWith e none pos.line X.env=pure false:=by rfl):WS X (.Expr e pos) (zm te):=⟨DD (he:=he.h) (hs:=hs)⟩
theorem aG(he:WE X e te):WS X (.Return (some e) pos) (G7 te):=⟨HZ (he:=he.h)⟩
theorem bw{c:Expr}{a b:List Stmt}{tc:eU}(hc:WT X c tc)(ha:B6 X a t)(hb:B6 X b u):WS X (.If c a b pos) (Ha tc t u):=⟨LL (hc:=hc.h) (ha:=ha.h) (hb:=hb.h)⟩
theorem cz{i:Nat}{x:Str}(hN:X.N.Nodup)(hi:X.N[i]?=some x)(hx:Loc X.env.scope x)(hf:X.fn x=true\/X.env.scope.names.lookup x=some .local:=by first|exact .inl rfl|exact .inr rfl|assumption):WG X (.Name x pos) (hName i):=⟨DK (hN:=hN) (hi:=hi) (hx:=hx) (hf:=hf)⟩
theorem o_:O5 X [] J8:=⟨DJ⟩
theorem eW{e:Expr}{es:List Expr}{t:gA}{u:mQ}(h1:WG X e t)(h2:O5 X es u)(hs:(assignEach (e::es) X.env).map (·.2)=assign e X.env::(assignEach es X.env).map (·.2):=by rfl):O5 X (e::es) (wm t u):=⟨zQ (h1:=h1.h) (h2:=h2.h) (hs:=hs)⟩
theorem tQ{es:List Expr}{k:Nat}{t:mQ}{n:Nat}(hc:X.calm=true)(h:O5 X es t)(hn:(assignEach es X.env).length=n:=by rfl)(hst:(assignEach es X.env).findIdx? (·.1)=none:=by rfl):WG X (.Tuple es k pos) (J7 n t):=⟨Ia (hc:=hc) (h:=h.h) (hn:=hn) (hst:=hst)⟩
theorem hW{o i:Expr}{to ti:bV}{t:iY}(ho:WE X o to)(hi:WE X i ti)(hs:B8 X t)(ha:∀v,assign (.Subscript o i pos) X.env v=(do
   let ov <- holding [v] (eval o X.env)
   let iv <- holding [v,ov] (eval i X.env)
   standAt pos
   holding [v,ov,iv] (setItem ov iv v)
   release [v,ov,iv] []):=by intro _;rfl):WG X (.Subscript o i pos) (hSub to ti t):=⟨Ib (ho:=ho.h) (hi:=hi.h) (hs:=hs) (ha:=ha)⟩
theorem fA{tg e:Expr}{g:gA}(he:WE X e te)(hg:WG X tg g)(hs:swapsWithSole [tg] e pos.line X.env=pure false:=by rfl)(hw:swappedStores [tg] e X.env=pure none:=by rfl)(h1:(assignEach [tg] X.env).map (·.2)=[assign tg X.env]:=by rfl):WS X (.Assign [tg] e pos) (qY te g):=⟨H9 (he:=he.h) (hg:=hg.h) (hs:=hs) (hw:=hw) (h1:=h1)⟩
theorem aP{i:Nat}{x:Str}{e:Expr}{pos':Pos}(hN:X.N.Nodup)(hi:X.N[i]?=some x)(hx:Loc X.env.scope x)(he:WE X e te)(hs:swapsWith e (some (.Name x pos')) pos.line X.env=pure false:=by rfl)(hf:X.fn x=true\/X.env.scope.names.lookup x=some .local:=by first|exact .inl rfl|exact .inr rfl|assumption):WS X (.Assign [.Name x pos'] e pos) (qY te (hName i)):=⟨HY (hN:=hN) (hi:=hi) (hx:=hx) (he:=he.h) (hs:=hs) (hf:=hf)⟩
end
section
variable {X:Cx}{tg l:Expr}{tl:bV}{ta:ft}{a b:Expr}{p pos:Pos}
theorem du(hl:WE X l tl):WI X tg l (JC tl):=⟨H_ (hl:=hl.h)⟩
theorem bR(hg:Gl X "range")(hm:X.mg "range"=none)(ha:WA X [a] ta)(hs:starEach [a] X.env=[(false,eval a X.env)]:=by rfl):WI X tg (.Call (.Name "range" p) [a] [] pos) (AW ta):=⟨xu (hg:=hg) (hm:=hm) (ha:=ha.h) (hs:=hs)⟩
theorem wV(hg:Gl X "range")(hm:X.mg "range"=none)(ha:WA X [a,b] ta)(hs:starEach [a,b] X.env=[(false,eval a X.env),(false,eval b X.env)]:=by rfl)(hs2:starEach [b] X.env=[(false,eval b X.env)]:=by rfl):WI X tg (.Call (.Name "range" p) [a,b] [] pos) (AV ta):=⟨xt (hg:=hg) (hm:=hm) (ha:=ha.h) (hs:=hs) (hs2:=hs2)⟩
end
section
variable {X:Cx}{tg iter:Expr}{wi:nE}{g:gA}{tb:fP}{body:List Stmt}{pos:Pos}
theorem f'(hp:PassesOwn (model X.prog X.w) X.A X.env X.xe)(hc:X.calm=true)(hi:WI X tg iter wi)(hg:WG X tg g)(hb:B6 X body tb)(hs:∀x,foldedSetIterable iter X.env x=pure x:=by intro _;rfl):WS X (.For tg iter body [] pos) (Hb wi g tb):=⟨H0 (hp:=hp) (hc:=hc) (hi:=hi.h) (hg:=hg.h) (hb:=hb.h) (hs:=hs)⟩
end
section
variable {X:Cx}{c:Expr}{tc:eU}{tb:fP}{body:List Stmt}{pos:Pos}
theorem yS(hp:PassesOwn (model X.prog X.w) X.A X.env X.xe)(hc:WT X c tc)(hb:B6 X body tb):WS X (.While c body [] pos) (ud tc tb):=⟨zO (hp:=hp) (hc:=hc.h) (hb:=hb.h)⟩
end
section
variable {X:Cx}{scope:Scope}{tgs:List Str}{fr:List Nat}{tg elt iter:Expr}{ifs:List Expr}{pos:Pos}{wi:nE}{g:gA}{tt:eU}{te:bV}
theorem bP:RJ X [] qW:=⟨DH⟩
theorem Cv{c:Expr}{t:eU}(h:WT X c t):RJ X [c] t:=⟨DG (h:=h.h)⟩
theorem bj{i:Nat}{x:Str}{ps:Pos}(h:∀cl C fp s H,PG (bE X scope cl tgs fr C fp s H) (.Name x ps) (iR i))(hi:i < tgs.length):N5 X scope tgs fr (.Name x ps) (hName i):=⟨CD (h:=h) (hi:=hi)⟩
theorem pj(C:fL X scope tgs fr tg iter ifs elt wi g tt te)(hs:∀x,foldedSetIterable iter X.env x=pure x:=by intro _;rfl):WE X (.ListComp elt [⟨tg,iter,ifs,0⟩] scope pos) (qX wi g tt te tgs.length fr):=⟨Ik (C:=C.h) (hs:=hs)⟩
theorem la{i:Nat}{y:Str}{py iC:Pos}(hN:X.N.Nodup)(hiy:X.N[i]?=some y)(hy:Loc X.env.scope y)(C:fL X scope tgs fr tg iter ifs elt wi g tt te)(hsw:swapsWith (.ListComp elt [⟨tg,iter,ifs,0⟩] scope pos) (some (.Name y py)) iC.line X.env=pure true:=by rfl)(hf:X.fn y=true\/X.env.scope.names.lookup y=some .local:=by first|exact .inl rfl|exact .inr rfl|assumption)(hs:∀x,foldedSetIterable iter X.env x=pure x:=by intro _;rfl):WS X (.Assign [.Name y py] (.ListComp elt [⟨tg,iter,ifs,0⟩] scope pos) iC) (qY (qX wi g tt te tgs.length fr) (hName i)):=⟨uj (hN:=hN) (hiy:=hiy) (hy:=hy) (C:=C.h) (hsw:=hsw) (hf:=hf) (hs:=hs)⟩
variable {x:Str}{p:Pos}{id T:String}{bT:Pos}
theorem hX{r2 r3:List D->Mem->br->Prop}(o:cX X (.builtin id) r2)(h3:jO r2 r3)(hg:Gl X x)(hm:X.mg x=none)(hv:bootBuiltins x=some (.builtin id))(C:fL X scope tgs fr tg iter ifs elt wi g tt te)(hn:x≠"__name__":=by decide)(hdb:(x==("__debug__":Str))=false:=by decide)(hs:∀x,foldedSetIterable iter X.env x=pure x:=by intro _;rfl):WE X (.Call (.Name x p) [.ListComp elt [⟨tg,iter,ifs,0⟩] scope bT] [] pos) (xj r3 wi g tt te tgs.length fr):=⟨Ig (o:=o) (h3:=h3) (hg:=hg) (hm:=hm) (hv:=hv) (C:=C.h) (hn:=hn) (hdb:=hdb) (hs:=hs)⟩
theorem tR{r2 r3:List D->Mem->br->Prop}(o:cX X (.type T) r2)(h3:jO r2 r3)(hg:Gl X x)(hm:X.mg x=none)(hv:bootBuiltins x=some (.type T))(C:fL X scope tgs fr tg iter ifs elt wi g tt te)(hn:x≠"__name__":=by decide)(hdb:(x==("__debug__":Str))=false:=by decide)(hs:∀x,foldedSetIterable iter X.env x=pure x:=by intro _;rfl):WE X (.Call (.Name x p) [.ListComp elt [⟨tg,iter,ifs,0⟩] scope bT] [] pos) (xj r3 wi g tt te tgs.length fr):=⟨Ic (o:=o) (h3:=h3) (hg:=hg) (hm:=hm) (hv:=hv) (C:=C.h) (hn:=hn) (hdb:=hdb) (hs:=hs)⟩
variable {o:Expr}{to:bV}{name:Str}{apos:Pos}
theorem GH{r2 r3:D->List D->Mem->br->Prop}(pa:PlainAttrs T)(slot:Slot T name id)(hty:typeOf (.builtin id)=pure (.type "method_descriptor"))(hm:Kz X id r2)(h3:vf r2 r3)(ho:WE X o to)(C:fL X scope tgs fr tg iter ifs elt wi g tt te)(hs:∀x,foldedSetIterable iter X.env x=pure x:=by intro _;rfl)(hbase:attributeBase o name X.env (eval o X.env)=eval o X.env:=by rfl)(hfew:((backTo pos (starEach [.ListComp elt [⟨tg,iter,ifs,0⟩] scope bT] X.env)).all (λ x=>!x.1)&&(backToKw pos (keywordEach [] X.env)).all (λ x=>x.1.isSome)
   &&decide (([.ListComp elt [⟨tg,iter,ifs,0⟩] scope bT]:List Expr).length+([]:List Keyword).length+(if([]:List Keyword).isEmpty then 0 else 1) < 30))=true:=by rfl) (hline:(apos.endLine==pos.line)=true:=by rfl):WE X (.Call (.Attribute o name apos) [.ListComp elt [⟨tg,iter,ifs,0⟩] scope bT] [] pos) (zi T r3 to wi g tt te tgs.length fr):=⟨Ie (pa:=pa) (slot:=slot) (hty:=hty) (hm:=hm) (h3:=h3) (ho:=ho.h) (C:=C.h) (hs:=hs) (hbase:=hbase) (hfew:=hfew) (hline:=hline)⟩
end
theorem pb{X:Cx}{es:List Expr}{zs:List Str}(h:strsOf es=some zs):WA X es (vB zs):=⟨vI h⟩
end L4
namespace L4
open PySem PySem.Spec L2 L3
section
variable {P:Program}{w:World}{K:PySem.W.Frag}{mg:Str->Option Value}{base:Heap}
theorem jW{x qual:Str}{st:Stmt}{f:Addr}{fd:FuncData}{N ps:List Str}{k:Nat}{sp:gV}(F:eN K x qual st f fd)(S:aI N ps (aj st))(len:∀ds M Q,sp ds M Q->ds.length=ps.length)
  (fg:∀(bW:Value) (A:Around) (outer:List Env) (s:Shared) (H:Hp) (E:XK) (ds:List D) (M:Mem) (Q:br),bC k (A.deeper (PyProof.Rows.envOfC qual (aj st) s.heap.objs.size f bW))->sp ds M Q->
   ∃t,B6 (nv eO P w K mg base N qual (aj st) f bW A outer s H E).vR (cb st) t/\t {nx:=λ _ M'=>fin2 Q .aZ M',rt:=fin2 Q} (fG N ds) M):bh P w K mg base eO (k+1) f fd ps (cA K sp):=
 To F S len λ bW A outer s H E ds M Q hr h=>let⟨t,a,b⟩:=fg bW A outer s H E ds M Q hr h;⟨t,a.h,b⟩
end
end L4
namespace L5
open PySem PySem.W PyProof.Rows
section
variable (n:Nat)(lt:Nat->Nat->Bool)
def kw{α:Type}:KasT α->(α->Prop)->Prop
 | .ret a,Q=>Q a
 | .ask i j k,Q=>i < n/\j < n/\kw (k (lt i j)) Q
variable {n lt}
theorem gJ{α β:Type}{f:α->KasT β}{Q:β->Prop}:∀{t:KasT α},kw n lt t (λ a=>kw n lt (f a) Q)->kw n lt (t.bind f) Q
 | .ret a,h=>h
 | .ask i j k,h=>⟨h.1,h.2.1,gJ (t:=k (lt i j)) h.2.2⟩
def pg(p:Array Nat)(i:Nat):Nat:=p.getD i 0
theorem iI(p:Array Nat)(i:Nat):pg p i=(p[i]?).getD 0:=by
 unfold pg
 rw[Array.getD_eq_getD_getElem?]
def Pm(n:Nat)(p:Array Nat):Prop:=p.Perm (List.toArray (List.range n))
theorem Pm.size {p:Array Nat}(h:Pm n p):p.size=n:=by
 have:=Array.Perm.size_eq h
 simpa using this
theorem Pm.below {p:Array Nat}(h:Pm n p)(i:Nat)(hn:0 < n):pg p i < n:=by
 rw[iI]
 cases e:p[i]? with
 |none=>exact hn
 |some x=>
  have hm:x∈p:=Array.mem_of_getElem? e
  have:=(Array.Perm.mem_iff h (a:=x)).mp hm
  simpa using this
theorem lP{p:Array Nat}{i j:Nat}(hj:j<=p.size)(k:Nat):pg (kas_rev p i j) k=if i<=k/\k < j then pg p (i+j - 1 - k)else pg p k:=by
 rw[iI]
 unfold kas_rev
 rw[getElem?_mirror_all hj k]
 split
 ·rw[iI]
 ·rw[iI]
theorem Pm.rev {p:Array Nat}(h:Pm n p)(i j:Nat):Pm n (kas_rev p i j):=Array.Perm.trans (mirror_perm _ _ _ _) h
theorem Af{p:Array Nat}{k l:Nat}(hk:k < p.size)(hl:l<=k)(j:Nat):pg (bubble p k (k - l)) j=if j=l then pg p k else if l < j/\j<=k then pg p (j - 1)else pg p j:=by
 have e0:k - (k - l)=l:=by omega
 rw[iI,getElem?_bubble hk (k - l) (by omega) j,e0]
 by_cases h1:j=l
 ·rw[A3 h1,A3 h1,iI]
 ·rw[A4 h1,A4 h1]
  by_cases h2:l < j/\j<=k
  ·rw[A3 h2,A3 h2,iI]
  ·rw[A4 h2,A4 h2,iI]
theorem Pm.VI {p:Array Nat}(h:Pm n p)(k d:Nat):Pm n (bubble p k d):=Array.Perm.trans (bubble_perm _ _ _) h
structure Ord(lt:Nat->Nat->Bool):Prop where
 yw:∀a b,lt a b=true->lt b a=false
 tr:∀a b c,lt a b=false->lt b c=false->lt a c=false
abbrev le(lt:Nat->Nat->Bool)(a b:Nat):Prop:=lt b a=false
theorem Ord.refl (O:Ord lt)(a:Nat):le lt a a:=by
 show lt a a=false
 cases e:lt a a with
 |false=>rfl
 |true=>have:=O.yw a a e;rw[e]at this;cases this
theorem Ord.trans (O:Ord lt){a b c:Nat}(h1:le lt a b)(h2:le lt b c):le lt a c:=O.tr c b a h2 h1
def Up(lt:Nat->Nat->Bool)(p:Array Nat)(m:Nat):Prop:=∀i j,i<=j->j < m->le lt (pg p i) (pg p j)
def Dn(lt:Nat->Nat->Bool)(p:Array Nat)(m:Nat):Prop:=∀i j,i<=j->j < m->le lt (pg p j) (pg p i)
def Ev(lt:Nat->Nat->Bool)(a b:Nat):Prop:=le lt a b/\le lt b a
theorem Ord.Np (O:Ord lt){a b c:Nat}(h:Ev lt a b)(q:Ev lt b c):Ev lt a c:=⟨O.trans h.1 q.1,O.trans q.2 h.2⟩
theorem Ev.sym {a b:Nat}(h:Ev lt a b):Ev lt b a:=⟨h.2,h.1⟩
theorem Up.one (O:Ord lt)(p:Array Nat):Up lt p 1:=λ i j h q=>by
 have:i=j:=by omega
 subst this
 exact O.refl _
theorem Up.next (O:Ord lt){p:Array Nat}{m:Nat}(h:Up lt p m)(hm:1<=m)(q:le lt (pg p (m - 1)) (pg p m)):Up lt p (m+1):=λ i j oC hj=>by
 by_cases e:j=m
 ·subst e
  by_cases e2:i=j
  ·subst e2;exact O.refl _
  ·exact O.trans (h i (j - 1) (by omega) (by omega)) q
 ·exact h i j oC (by omega)
theorem Dn.next (O:Ord lt){p:Array Nat}{m:Nat}(h:Dn lt p m)(hm:1<=m)(q:le lt (pg p m) (pg p (m - 1))):Dn lt p (m+1):=λ i j oC hj=>by
 by_cases e:j=m
 ·subst e
  by_cases e2:i=j
  ·subst e2;exact O.refl _
  ·exact O.trans q (h i (j - 1) (by omega) (by omega))
 ·exact h i j oC (by omega)
theorem Dn.ev (O:Ord lt){p p':Array Nat}{m:Nat}(h:Dn lt p m)(e:∀k,k < m->Ev lt (pg p' k) (pg p k)):Dn lt p' m:=λ i j oC hj=>
 O.trans (e j hj).1 (O.trans (h i j oC hj) (e i (by omega)).2)
theorem Up.Mg {p:Array Nat}{m:Nat}(hm:m<=p.size)(h:Dn lt p m):Up lt (kas_rev p 0 m) m:=λ i j oC hj=>by
 rw[lP hm,lP hm,A3 ⟨z4 _,by omega⟩,A3 ⟨z4 _,hj⟩]
 exact h _ _ (by omega) (by omega)
theorem uQ(O:Ord lt){p:Array Nat}{i j:Nat}(hj:j<=p.size)(he:∀k,i<=k->k < j->Ev lt (pg p k) (pg p (j - 1)))(k:Nat):Ev lt (pg (kas_rev p i j) k) (pg p k):=by
 rw[lP hj]
 split
 case isTrue h=>exact O.Np (he _ (by omega) (by omega)) (he k h.1 h.2).sym
 case isFalse h=>exact⟨O.refl _,O.refl _⟩
theorem uL(O:Ord lt){p:Array Nat}(hp:Pm n p){Q:Nat->Prop}:∀(f a:Nat),1<=a->a+f<=n->Up lt p a->(∀m,a<=m->m<=a+f->Up lt p m->(m < a+f->lt (pg p m) (pg p (m - 1))=true)->Q m)->kw n lt (kas_asc p f a) Q
 |0,a,h1,hn,hu,hq=>hq a (y9 _) (y9 _) hu λ h=>absurd h (by omega)
 |f+1,a,h1,hn,hu,hq=>by
  refine⟨hp.below a (by omega),hp.below (a - 1) (by omega),?_⟩
  show kw n lt (if lt (pg p a) (pg p (a - 1))=true then KasT.ret a else kas_asc p f (a+1)) Q
  cases e:lt (pg p a) (pg p (a - 1))with
  |true=>
   rw[A3 rfl]
   exact hq a (y9 _) (by omega) hu λ _=>e
  |false=>
   rw[A4 (by simp)]
   exact uL O hp f (a+1) (by omega) (by omega) (hu.next O h1 e) λ m m1 m2 m3 m4=>hq m (by omega) (by omega) m3 λ q=>m4 (by omega)
theorem kJ(O:Ord lt){Q:Array Nat×Nat×Nat->Prop}(Bp:0 < n):∀(f:Nat) (p:Array Nat) (m q:Nat),Pm n p->1<=m->m+f<=n->q+1<=m->Dn lt p m->(∀k,m - (q+1)<=k->k < m->Ev lt (pg p k) (pg p (m - 1)))->
  (∀p' m' q',Pm n p'->m<=m'->m'<=m+f->q'+1<=m'->Dn lt p' m'->(∀k,m' - (q'+1)<=k->k < m'->Ev lt (pg p' k) (pg p' (m' - 1)))->Q (p',m',q'))->kw n lt (kas_desc f p m q) Q
 |0,p,m,q,hp,h1,hf,QN,hd,he,hQ=>hQ p m q hp (y9 _) (y9 _) QN hd he
 |f+1,p,m,q,hp,h1,hf,QN,hd,he,hQ=>by
  refine⟨hp.below m Bp,hp.below (m - 1) Bp,?_⟩
  show kw n lt (if lt (pg p m) (pg p (m - 1))=true then(if q > 0 then kas_desc f (kas_rev p (m - (q+1)) m) (m+1) 0 else kas_desc f p (m+1) 0)else KasT.ask (pg p (m - 1)) (pg p m) λ d=>if d=true then KasT.ret (p,m,q)else kas_desc f p (m+1) (q+1)) Q
  have hz:=hp.size
  cases e:lt (pg p m) (pg p (m - 1))with
  |true=>
   rw[A3 rfl]
   by_cases hq:q > 0
   ·rw[A3 hq]
    have ev:=uQ O (p:=p) (i:=m - (q+1)) (j:=m) (by omega) he
    have em:pg (kas_rev p (m - (q+1)) m) m=pg p m:=by rw[lP (by omega),A4 (by omega)]
    refine kJ O Bp f _ (m+1) 0 (hp.rev _ _) (by omega) (by omega) (by omega) ((hd.ev O λ k _=>ev k).next O h1 ?_) (λ k k1 k2=>?_) λ p' m' q' a b c d g i=>hQ p' m' q' a (by omega) (by omega) d g i
    ·rw[em]
     exact O.trans (O.yw _ _ e) (ev (m - 1)).2
    ·have:k=m:=by omega
     subst this
     exact⟨O.refl _,O.refl _⟩
   ·rw[A4 hq]
    refine kJ O Bp f _ (m+1) 0 hp (by omega) (by omega) (by omega) (hd.next O h1 (O.yw _ _ e)) (λ k k1 k2=>?_) λ p' m' q' a b c d g i=>hQ p' m' q' a (by omega) (by omega) d g i
    have:k=m:=by omega
    subst this
    exact⟨O.refl _,O.refl _⟩
  |false=>
   rw[A4 (by simp)]
   refine⟨hp.below (m - 1) Bp,hp.below m Bp,?_⟩
   cases e2:lt (pg p (m - 1)) (pg p m)with
   |true=>exact hQ p m q hp (y9 _) (by omega) QN hd he
   |false=>
    refine kJ O Bp f p (m+1) (q+1) hp (by omega) (by omega) (by omega) (hd.next O h1 e2) (λ k k1 k2=>?_) λ p' m' q' a b c d g i=>hQ p' m' q' a (by omega) (by omega) d g i
    have hE:Ev lt (pg p (m - 1)) (pg p m):=⟨e,e2⟩
    by_cases ek:k=m
    ·subst ek;exact⟨O.refl _,O.refl _⟩
    ·exact O.Np (he k (by omega) (by omega)) hE
theorem vU(O:Ord lt){p:Array Nat}(hp:Pm n p){m:Nat}(h1:1<=m)(hm:m<=n)(hd:Dn lt p m){Q:Nat×Array Nat->Prop}(hQ:∀m' p',Pm n p'->1<=m'->m'<=n->Up lt p' m'->Q (m',p')):kw n lt (kas_tail3 m n p) Q:=by
 unfold kas_tail3
 refine gJ (uL O (hp.rev _ _) (n - m) m h1 (by omega) (Up.Mg (by rw[hp.size];exact hm) hd) λ m' a b c _=>?_)
 exact hQ m' _ (hp.rev _ _) (by omega) (by omega) c
theorem rR(O:Ord lt){p:Array Nat}(hp:Pm n p){m:Nat}(h1:1<=m)(hm:m+1<=n)(hd:Dn lt p (m+1)){Q:Nat×Array Nat->Prop}(hQ:∀m' p',Pm n p'->1<=m'->m'<=n->Up lt p' m'->Q (m',p')):kw n lt (kas_descPart m n p) Q:=by
 unfold kas_descPart
 refine gJ (kJ O (by omega) (n - (m+1)) p (m+1) 0 hp (by omega) (by omega) (by omega) hd (λ k k1 k2=>?_) λ p' m' q' a b c d g i=>?_)
 ·have:k=m:=by omega
  subst this
  exact⟨O.refl _,O.refl _⟩
 ·show kw n lt (if q' > 0 then kas_tail3 m' n (kas_rev p' (m' - (q'+1)) m')else kas_tail3 m' n p') Q
  by_cases hq:q' > 0
  ·rw[A3 hq]
   have hz:=a.size
   exact vU O (a.rev _ _) (by omega) (by omega) (g.ev O λ k _=>uQ O (by omega) i k) hQ
  ·rw[A4 hq]
   exact vU O a (by omega) (by omega) g hQ
theorem AN(O:Ord lt){p:Array Nat}(hp:Pm n p)(hn:2<=n){Q:Nat×Array Nat->Prop}(hQ:∀m' p',Pm n p'->1<=m'->m'<=n->Up lt p' m'->Q (m',p')):kw n lt (kas_count n p) Q:=by
 unfold kas_count
 refine gJ (uL O hp (n - 1) 1 (y9 _) (by omega) (Up.one O p) λ m a b c d=>?_)
 have hz:=hp.size
 by_cases e1:(m==n)=true
 ·rw[A3 e1]
  exact hQ m p hp a (by omega) c
 ·rw[A4 e1]
  have eG:m≠n:=λ q=>e1 (by rw[q];exact beq_self_eq_true _)
  have hl:=d (by omega)
  by_cases e2:m > 1
  ·rw[A3 e2]
   refine⟨hp.below 0 (by omega),hp.below (m - 1) (by omega),?_⟩
   show kw n lt (if lt (pg p 0) (pg p (m - 1))=true then KasT.ret (m,p)else kas_descPart m n (kas_rev p 0 m)) Q
   cases e3:lt (pg p 0) (pg p (m - 1))with
   |true=>rw[A3 rfl];exact hQ m p hp a (by omega) c
   |false=>
    rw[A4 (by simp)]
    have Bz:∀k,0<=k->k < m->Ev lt (pg p k) (pg p (m - 1)):=λ k _ hk=>⟨c k (m - 1) (by omega) (by omega),O.trans e3 (c 0 k (by omega) hk)⟩
    have ev:=uQ O (p:=p) (i:=0) (j:=m) (by omega) Bz
    have em:pg (kas_rev p 0 m) m=pg p m:=by rw[lP (by omega),A4 (by omega)]
    refine rR O (hp.rev _ _) a (by omega) (Dn.next O (λ i j oC hj=>?_) a ?_) hQ
    ·exact O.trans (ev j).1 (O.trans (O.trans (Bz j (z4 _) hj).1 (Bz i (z4 _) (by omega)).2) (ev i).2)
    ·rw[em]
     exact O.trans (O.yw _ _ hl) (ev (m - 1)).2
  ·rw[A4 e2]
   have bO:m=1:=by omega
   subst bO
   refine rR O hp (y9 _) (by omega) (Dn.next O (λ i j oC hj=>?_) (y9 _) (O.yw _ _ hl)) hQ
   have:i=j:=by omega
   subst this
   exact O.refl _
theorem l'(O:Ord lt){p:Array Nat}(hp:Pm n p){k:Nat}(hk:k < n){Q:Nat->Prop}(hQ:∀l,l<=k->(∀i,i < l->le lt (pg p i) (pg p k))->(∀i,l<=i->i < k->lt (pg p k) (pg p i)=true)->Q l)(hu:Up lt p k):
  ∀(f l r:Nat),l<=r->r<=k->r - l<=f->(∀i,i < l->le lt (pg p i) (pg p k))->(∀i,r<=i->i < k->lt (pg p k) (pg p i)=true)->kw n lt (kas_place p k f l r) Q
 |0,l,r,h1,h2,h3,h4,h5=>by
  have:r=l:=by omega
  subst this
  exact hQ r h2 h4 h5
 |f+1,l,r,h1,h2,h3,h4,h5=>by
  unfold kas_place
  by_cases e:l ≥ r
  ·rw[A3 e]
   have:r=l:=by omega
   subst this
   exact hQ r h2 h4 h5
  ·rw[A4 e]
   refine⟨hp.below k (by omega),hp.below _ (by omega),?_⟩
   show kw n lt (if lt (pg p k) (pg p ((l+r) / 2))=true then kas_place p k f l ((l+r) / 2)else kas_place p k f ((l+r) / 2+1) r) Q
   cases e2:lt (pg p k) (pg p ((l+r) / 2))with
   |true=>
    rw[A3 rfl]
    refine l' O hp hk hQ hu f l _ (by omega) (by omega) (by omega) h4 λ i i1 i2=>?_
    cases e3:lt (pg p k) (pg p i)with
    |true=>rfl
    |false=>
     have:=O.tr _ _ _ e3 (hu ((l+r) / 2) i i1 i2)
     rw[e2]at this
     cases this
   |false=>
    rw[A4 (by simp)]
    exact l' O hp hk hQ hu f _ r (by omega) (by omega) (by omega) (λ i hi=>O.trans (hu i ((l+r) / 2) (by omega) (by omega)) e2) h5
theorem AO(O:Ord lt){Q:Array Nat->Prop}(hQ:∀p,Pm n p->Up lt p n->Q p):∀(f:Nat) (p:Array Nat) (k:Nat),Pm n p->k+f=n->Up lt p k->kw n lt (kas_bin f p k) Q
 |0,p,k,hp,hf,hu=>hQ p hp (by rw[<- hf];exact hu)
 |f+1,p,k,hp,hf,hu=>by
  unfold kas_bin
  have hz:=hp.size
  refine gJ (l' O hp (by omega) (λ l hl h4 h5=>?_) hu k 0 k (z4 _) (y9 _) (by omega) (λ i hi=>absurd hi (by omega)) λ i a b=>absurd b (by omega))
  refine AO O hQ f _ (k+1) (hp.VI _ _) (by omega) λ i j oC hj=>?_
  rw[Af (by omega) hl,Af (by omega) hl]
  by_cases e1:i=l
  ·rw[A3 e1]
   by_cases e2:j=l
   ·rw[A3 e2];exact O.refl _
   ·rw[A4 e2,A3 ⟨by omega,by omega⟩]
    exact O.yw _ _ (h5 (j - 1) (by omega) (by omega))
  ·rw[A4 e1]
   by_cases e2:j=l
   ·rw[A3 e2,A4 (by omega)]
    exact h4 i (by omega)
   ·rw[A4 e2]
    by_cases e3:l < i/\i<=k
    ·rw[A3 e3,A3 ⟨by omega,by omega⟩]
     exact hu _ _ (by omega) (by omega)
    ·rw[A4 e3]
     by_cases e4:l < j/\j<=k
     ·rw[A3 e4]
      exact hu _ _ (by omega) (by omega)
     ·rw[A4 e4]
      exact hu _ _ (by omega) (by omega)
theorem EC(O:Ord lt)(hn:2<=n){Q:Array Nat->Prop}(hQ:∀p,Pm n p->Up lt p n->Q p):kw n lt (kas_sort n) Q:=by
 unfold kas_sort
 refine gJ (AN O (Array.Perm.refl _) hn λ m p hp h1 h2 hu=>?_)
 show kw n lt (if m < n then kas_bin (n - max m 1) p (max m 1)else KasT.ret p) Q
 have hm:max m 1=m:=by omega
 rw[hm]
 by_cases e:m < n
 ·rw[A3 e]
  exact AO O hQ (n - m) p m hp (by omega) hu
 ·rw[A4 e]
  have:m=n:=by omega
  subst this
  exact hQ p hp hu
end
end L5
namespace L5
open PySem
def yA(T:String)(h:Heap)(j l:Addr)(i:Nat):Prop:=∃o,h.get? j=some o/\o.cls=.type T/\o.data=.fields #[.ref l,.int i 0]
structure NK(T:String)(Sq:Heap->Addr->Array Value->Prop):Prop where
 keep:∀{h h':Heap} {l:Addr} {vs:Array Value},Sq h l vs->(∀o,h.get? l=some o->h'.get? l=some o)->Sq h' l vs
 start:∀{prog:Program} {w:World} {A:Around} {E:Value->Shared->Prop} {s:Shared} {l:Addr} {vs:Array Value} {Q:Value->Shared->Prop},Sq s.heap l vs->
  Q (.ref s.heap.objs.size) {s with heap:=s.heap.push {cls:=.type T,data:=.fields #[.ref l,.int 0 0]}}->wpAny (model prog w) A (pyIter (.ref l)) Q E s
 item:∀{prog:Program} {w:World} {A:Around} {E:Value->Shared->Prop} {s:Shared} {j l:Addr} {i:Nat} {vs:Array Value} {x:Value} {Q:Value->Shared->Prop},yA T s.heap j l i->Sq s.heap l vs->vs[i]?=some x->
  (∀h',yA T h' j l (i+1)->Heap.SameBut j s.heap h'->Q x {s with heap:=h'})->wpAny (model prog w) A (Builtin.SmallTypes.nextOf (.ref j)) Q E s
 stop:∀{prog:Program} {w:World} {A:Around} {E:Value->Shared->Prop} {s:Shared} {j l:Addr} {i:Nat} {vs:Array Value} {Q:Value->Shared->Prop},A.handled=none->yA T s.heap j l i->Sq s.heap l vs->vs[i]?=none->
  (∀h' e,Heap.ExtBut j s.heap h'->(∃o,h'.get? e=some o/\o.cls=.type "StopIteration")->E (.ref e) {s with heap:=h'})->wpAny (model prog w) A (Builtin.SmallTypes.nextOf (.ref j)) Q E s
theorem El:NK "list_iterator" Heap.IsList where
 keep:=λ x k=>x.at k
 start:=λ x q=>o8 x q
 item:=λ a b c d=>wpAny_nextOf_list_item a b c d
 stop:=λ a b c d e=>wpAny_nextOf_list_end a b c d e
section
variable {prog:Program}{w:World}{A:Around}{E:Value->Shared->Prop}{s:Shared}
theorem Jm{j q:Addr}{i:Nat}{vs:Array Value}{x:Value}{Q:Value->Shared->Prop}(ji:s.heap.IsTupleIter j q i)(jt:s.heap.IsTuple q vs)(jx:vs[i]?=some x)
  (k:∀h',h'.IsTupleIter j q (i+1)->Heap.SameBut j s.heap h'->Q x {s with heap:=h'}):wpAny (model prog w) A (Builtin.SmallTypes.nextOf (.ref j)) Q E s:=by
 obtain⟨ob,hb,kc,kd⟩:=id ji
 obtain⟨ot,ht,_,nt,dt⟩:=jt
 unfold Builtin.SmallTypes.nextOf
 refine z6 (i7 (name:=Str.ofString "__next__") ji.typeIs c5 (q8 c5 ji.typeIs F.entry_tuple_iterator_next ?_ (F.args_tuple_iterator_next_1 _)))
 refine z6 (m:=field (.ref j) 0) (z5 hb kd (x:=.ref q) rfl ?_)
 show wpAny _ _ (if(Value.ref q==Value.none)=true then _ else _) _ _ s
 rw[A4 (show(Value.ref q==Value.none)≠true from l7)]
 refine z6 (m:=field (.ref j) 1) (z5 hb kd (x:=.int i 0) rfl ?_)
 refine z6 (m:=seqItems? (.ref q)) (wpAny_seqItems ht dt ?_)
 simp only[n5,jx]
 refine z6 (wpAny_setField hb kd (by simp) (z7 ⟨x,rfl,z7 (k _ ?_ (k8 ..))⟩))
 refine⟨_,j3 _ hb (Obj.isFreed_of_fields (Obj.data_mapFields kd _)),(Obj.cls_mapFields ..).trans kc,?_⟩
 rw[Obj.data_mapFields kd];simp[rawInt]
theorem G0{j q:Addr}{i:Nat}{vs:Array Value}{Q:Value->Shared->Prop}(hA:A.handled=none)(ji:s.heap.IsTupleIter j q i)(jt:s.heap.IsTuple q vs)(jx:vs[i]?=none)
  (k:∀h' e,Heap.ExtBut j s.heap h'->(∃o,h'.get? e=some o/\o.cls=.type "StopIteration")->E (.ref e) {s with heap:=h'}):wpAny (model prog w) A (Builtin.SmallTypes.nextOf (.ref j)) Q E s:=by
 obtain⟨ob,hb,kc,kd⟩:=id ji
 obtain⟨ot,ht,_,nt,dt⟩:=jt
 unfold Builtin.SmallTypes.nextOf
 refine z6 (i7 (name:=Str.ofString "__next__") ji.typeIs c5 (q8 c5 ji.typeIs F.entry_tuple_iterator_next ?_ (F.args_tuple_iterator_next_1 _)))
 refine z6 (m:=field (.ref j) 0) (z5 hb kd (x:=.ref q) rfl ?_)
 show wpAny _ _ (if(Value.ref q==Value.none)=true then _ else _) _ _ s
 rw[A4 (show(Value.ref q==Value.none)≠true from l7)]
 refine z6 (m:=field (.ref j) 1) (z5 hb kd (x:=.int i 0) rfl ?_)
 refine z6 (m:=seqItems? (.ref q)) (wpAny_seqItems ht dt ?_)
 simp only[n5,jx]
 refine z6 (wpAny_rule (z6 (wpAny_setField hb kd (by simp) ?_)))
 refine z6 (m:=newExc (.type "StopIteration") []) ?_
 simp only[newExc,newTuple]
 refine z6 (n6 (z6 (m:=firstArgMember _ _) (wpAny_of_eq (a:=Value.none) (by first|rfl|(simp only[firstArgMember];rfl)) (n6 ?_ (by size_fits)))) (by size_fits))
 simp only[raiseNew]
 refine z6 (wpAny_handled ?_)
 have hB:A.in1.handled=none:=hA
 rw[hB]
 exact z6 (z7 (wpAny_throw (k _ _ (((k8 ..).extBut.push _).push _) ⟨_,l5 _ rfl,rfl⟩)))
end
theorem rE:NK "tuple_iterator" Heap.IsTuple where
 keep:=λ x k=>let⟨o,a,r⟩:=x;⟨o,k o a,r⟩
 start:=λ x q=>wpAny_pyIter_tuple x q
 item:=λ a b c d=>Jm a b c d
 stop:=λ a b c d e=>G0 a b c d e
end L5
namespace L2
open PySem PySem.Spec PyProof.Rows
open HT (lexLt bB bD bp bq lL)
open PySem.SeqAt PySem.MeetsSeq PySem.MeetsSeq2 PySem.MeetsSeq3 PySem.SeqRoads2
open PySem.AutoSeq1 (wpAny_loadPart')
theorem iL{vs:List Value}{ns:List Int}(h:IntsAre vs ns){i:Nat}(hi:i < ns.length):∃t,vs[i]?=some (.int ns[i] t):=by
 induction h generalizing i with
 |nil=>simp at hi
 |cons n t h ih=>
  cases i with
  |zero=>exact⟨t,rfl⟩
  |succ i=>obtain⟨t',e⟩:=ih (i:=i) (by simpa using hi);exact⟨t',by simpa using e⟩
theorem Es(l b:Addr)(xs ys:Array Value)(n k:Nat)(dd ee:Option Addr)(sl tl:Array (Option Value))(ns ms:List Int)(hi:IntsAre xs.toList ns)(hj:IntsAre ys.toList ms)(f:Nat):
  ∀i:Nat,ns.length - i=f->Meets (Builtin.«list.__eq__.loop» ⟨[.ref l,.ref b,rawInt i,rawInt 0],[]⟩)
   (λ A R s=>s.heap.get? l=some {cls:=.type "list",dict:=dd,data:=.seq xs n,slots:=sl}/\s.heap.get? b=some {cls:=.type "list",dict:=ee,data:=.seq ys k,slots:=tl}/\i<=ns.length/\i<=ms.length/\
    R (.ok (.ret (.bool (lexLt (ns.drop i) (ms.drop i))))) s):=by
 have z1:xs.size=ns.length:=by rw[<- hi.length];simp
 have z2:ys.size=ms.length:=by rw[<- hj.length];simp
 induction f with
 |zero=>
  intro i hf prog w A R s h
  obtain⟨hp,g,d,tk,os⟩:=s
  obtain⟨hl,hb,i1,i2,h⟩:=h
  wp_walk using u5 hl,u5 hb
  have e1:xs[((i:Nat):Int).toNat]?=none:=by simp;omega
  have d1:ns.drop i=[]:=by simp;omega
  rw[d1]at h
  rw[e1]
  have fin:R (.ok (.ret (.bool (decide (xs.size < ys.size))))) ⟨hp,g,d,tk,os⟩:=by
   have q:lexLt [] (ms.drop i)=decide (xs.size < ys.size):=by
    cases e:ms.drop i with
    |nil=>
     have:ms.length<=i:=by simpa using e
     rw[bD];exact(u4 (by omega)).symm
    |cons c r=>
     have:i < ms.length:=by
      refine Nat.lt_of_not_le λ z=>?_
      rw[drop_eq_nil_of_le z]at e
      cases e
     rw[bp];exact(x3 (by omega)).symm
   rw[<- q];exact h
  wp_walk using u5 hl,u5 hb
  exact fin
 |succ f ih=>
  intro i hf prog w A R s h
  obtain⟨hp,g,d,tk,os⟩:=s
  obtain⟨hl,hb,i1,i2,h⟩:=h
  have a1:i < ns.length:=by omega
  obtain⟨t,e1⟩:=iL hi a1
  have e1:xs[((i:Nat):Int).toNat]?=some (.int ns[i] t):=by simpa using e1
  by_cases a2:i < ms.length
  ·obtain⟨u,e2⟩:=iL hj a2
   have e2:ys[((i:Nat):Int).toNat]?=some (.int ms[i] u):=by simpa using e2
   rw[g8 a1,g8 a2,bB]at h
   wp_walk using u5 hl,u5 hb
   rw[e1,e2]
   refine z6 (EqAt.int_int ns[i] t ms[i] u prog w _ _ ?_)
   have cc:((i:Int)+1)=((i+1:Nat):Int):=by push_cast;rfl
   by_cases q:ns[i]=ms[i]
   ·rw[A3 q]at h
    have qb:(ns[i]==ms[i])=true:=by simp[q]
    rw[qb]
    wp_walk
    rw[cc]
    exact⟨y2 plain_eq_loop _,v8 entry_eq_loop (by rw[k7 plain_eq_loop _];exact ih (i+1) (by omega) prog w A R _ ⟨hl,hb,by omega,by omega,h⟩)⟩
   ·rw[A4 q]at h
    have qb:(ns[i]==ms[i])=false:=by simp[q]
    rw[qb]
    have rl:=lL A.in1 ⟨hp,g,d,tk,os⟩ ns[i] t ms[i] u prog w
    wp_walk using u5 hl,u5 hb
    rw[e1,e2]
    wp_walk using rl
    exact h
  ·have e2:ys[((i:Nat):Int).toNat]?=none:=by simp;omega
   have d2:ms.drop i=[]:=by simp;omega
   rw[g8 a1,d2,bq]at h
   wp_walk using u5 hl,u5 hb
   rw[e1,e2]
   wp_walk using u5 hl,u5 hb
   have q:decide (xs.size < ys.size)=false:=u4 (by omega)
   show R (.ok (.ret (.bool (decide (xs.size < ys.size))))) _
   rw[q]
   exact h
theorem rN(l b:Addr)(xs ys:Array Value)(n k:Nat)(dd ee:Option Addr)(sl tl:Array (Option Value))(ns ms:List Int)(hi:IntsAre xs.toList ns)(hj:IntsAre ys.toList ms):
  Meets (Builtin.«list.__lt__» ⟨[.ref l,.ref b],[]⟩) (λ A R s=>s.heap.get? l=some {cls:=.type "list",dict:=dd,data:=.seq xs n,slots:=sl}/\s.heap.get? b=some {cls:=.type "list",dict:=ee,data:=.seq ys k,slots:=tl}/\
    R (.ok (.ret (.bool (lexLt ns ms)))) s):=by
 intro prog w A R s h
 obtain⟨hp,g,d,tk,os⟩:=s
 obtain⟨hl,hb,h⟩:=h
 have f3:=AutoSeq1.sub_list_list
 wp_walk using u5 hl,u5 hb
 exact⟨y2 plain_eq_loop _,v8 entry_eq_loop (by rw[k7 plain_eq_loop _];exact Es l b xs ys n k dd ee sl tl ns ms hi hj _ 0 rfl prog w A R _ ⟨hl,hb,z4 _,z4 _,h⟩)⟩
theorem AG{prog:Program}{w:World}{A:Around}{E:Value->Shared->Prop}{s:Shared}{l b:Addr}{xs ys:Array Value}{ns ms:List Int}{Q:Value->Shared->Prop}(hl:s.heap.IsList l xs)(hb:s.heap.IsList b ys)(hi:IntsAre xs.toList ns)(hj:IntsAre ys.toList ms)
  (hu:A.units < cLine) (h:Q (.bool (lexLt ns ms)) s):wpAny (model prog w) A (compareOp .Lt (.ref l) (.ref b)) Q E s:=by
 obtain⟨⟨c1,dd,da,sl⟩,o1,k1,n,d1⟩:=id hl
 obtain⟨⟨c2,ee,db,tl⟩,o2,k2,m,d2⟩:=id hb
 simp only at k1 d1 k2 d2
 subst k1 d1 k2 d2
 exact richCompare_meets_room (op:=.Lt) ⟨_,o1,rfl⟩ ⟨_,o2,rfl⟩ PySem.F.slot_list_lt PySem.F.entry_list_lt (PySem.F.args_list_lt_2 _ _) (rN l b xs ys n m dd ee sl tl ns ms hi hj)
  ⟨o1,o2,show Value.bool (lexLt ns ms)≠Value.notImplemented/\Q (.bool (lexLt ns ms)) s from⟨(λ x=>nomatch x),h⟩⟩ hu
end L2
namespace L2
open PySem PySem.Spec PyProof.Rows L5
def Sq(b:Bool)(K:PySem.W.Frag)(H:Hp)(a:Addr)(xs:List V):Prop:=match b with
 |true=>fu K H a xs
 |false=>dN K H a xs
def R1(b:Bool):String:=match b with
 |true=>"tuple_iterator"
 |false=>"list_iterator"
def uO(b:Bool):Heap->Addr->Array Value->Prop:=match b with
 |true=>Heap.IsTuple
 |false=>Heap.IsList
theorem AB:∀b,NK (R1 b) (uO b)
 |true=>rE
 |false=>El
section
variable {X:Cx}{pins:List (Addr×Obj)}{σ:St}{H:Hp}{s:Shared}{a v:Addr}{xs ys:List V}
theorem lA(I:Inv X pins σ H s):∀{b:Bool},Sq b X.K H a xs->∃au:List Value,Vals xs au/\uO b s.heap a au.toArray
 |true,h=>let⟨au,r,p,_⟩:=I.tuple h;⟨au,r,p⟩
 |false,h=>let⟨au,r,p,_⟩:=I.list h;⟨au,r,p.isList⟩
theorem G1(I:Inv X pins σ H s):∀{b:Bool},Sq b X.K H a xs->Sq b X.K H a ys->xs=ys
 |true,h,q=>I.nN h q
 |false,h,q=>I.rM h q
theorem vD{u:HO}(h:Rd H a u):∃o,H a=some o:=by
 rcases h with h|⟨o,h⟩
 ·exact⟨_,h⟩
 ·exact⟨_,h⟩
theorem za:∀{b:Bool} {K:PySem.W.Frag},Sq b K H a xs->(∃o,H a=some o)\/∃o,K.lookup a=some o
 |true,K,h=>by
  rcases h with h|⟨o,au,n,hk,_⟩
  ·exact .inl (vD h)
  ·exact .inr ⟨o,hk⟩
 |false,K,h=>by
  rcases h with h|⟨o,au,n,hk,_⟩
  ·exact .inl (vD h)
  ·exact .inr ⟨o,hk⟩
theorem zb(I:Inv X pins σ H s)(f:ip X pins H v){b:Bool}(h:Sq b X.K H a xs):a≠v:=λ e=>by
 subst e
 rcases za h with⟨o,q⟩|⟨o,q⟩
 ·rw[f.1]at q;cases q
 ·have q:=I.ok.mod.KL a o q
  rcases f.2.2.2.1 with z|z
  ·exact I.ok.uC a o q z
  ·exact absurd (m7 (y4 q) (y8 I.ok.yJ z)) (x9 _)
theorem qL{t':Nat}{ch:List Addr}{h':Heap}(I:Inv X pins σ H s)(k:∀b o,b∉ch->s.heap.get? b=some o->h'.get? b=some o)(hf:∀b∈ch,ip X pins H b):Inv X pins σ H {s with heap:=h',toks:=t'}:=by
 have Mu:∀b u,H b=some u->b∉ch:=λ b u e z=>by rw[(hf b z).1]at e;cases e
 refine I.step (g':=s.gens) (d':=s.drawn) (ch:=ch) (λ b hb=>?_) (λ b o _ _ hc e _=>k b o hc e) (λ b o _ _ hc e _=>⟨o.slots,k b o hc e⟩) (λ _ _ _ _ n=>n)
  (λ b o hc e=>⟨o,k b o hc e⟩) (λ _ _ e=>e) (λ _ _ _ e=>e) (λ b ps e=>⟨#[],by rw[e];simp⟩) (λ m hm=>?_) (λ b u e=>?_) I.bare
 ·obtain⟨f0,f1,f2,f3,f4,f5⟩:=hf b hb
  exact⟨f3,f1,f4,f5⟩
 ·obtain⟨o,es,ep,ho,r⟩:=hm
  exact⟨o,es,ep,k _ o (λ z=>(hf _ z).2.1 rfl) ho,r⟩
 ·refine(I.a_ b u e).dU (λ c v hc q=>k c v ?_ q) (λ _ q=>q) λ _ _ q=>q
  rcases hc with z|z
  ·rw[z];exact Mu b u e
  ·exact Mu c _ z
end
end L2
namespace L5
open PySem PySem.W PySem.Calls PyProof.Rows
section
variable {prog:Program}{w:World}{A:Around}{E:Value->Shared->Prop}{s:Shared}
theorem F'{α:Type}{n:Nat}{lt:Nat->Nat->Bool}{κ:SortKind}{ks:List Value}{Q:α->Shared->Prop}(hc:∀i j C,i < n->j < n->C (lt i j) s->wpAny (model prog w) A (keyLt' κ (ks.getD i Value.none) (ks.getD j Value.none)) C (λ _ _=>False) s):
  ∀(t:KasT α),kw n lt t (λ a=>Q a s)->t.kasWp (kas_ask prog w A κ ks) Q s
 | .ret a,h=>h
 | .ask i j k,h=>hc i j _ h.1 h.2.1 (F' hc (k (lt i j)) h.2.2)
def Out{α:Type}(lt:Nat->Nat->Bool)(vs:List α)(d:α)(out:List α):Prop:=∃p:Array Nat,Pm vs.length p/\Up lt p vs.length/\out=p.toList.map λ i=>vs.getD i d
theorem D5{α:Type}{lt:Nat->Nat->Bool}(O:Ord lt){vs:List α}(d:α)(h:vs.length < 2):Out lt vs d vs:=by
 refine⟨List.toArray (List.range vs.length),Array.Perm.refl _,λ i j oC hj=>?_,?_⟩
 ·have:i=j:=by omega
  subst this
  exact O.refl _
 ·match vs,h with
  |[],_=>rfl
  |[v],_=>rfl
theorem vW{a kS:Addr}{e e1:Nat}{ks out:List Value}{st:SortSt}{P:PySem.Fin->Shared->Prop}(hk:s.heap.get? kS=some (seqObj "list" (List.toArray ks) e))(ha:s.heap.get? a=some (seqObj "list" #[] e1))(eG:a≠kS)(Wm:ks.length < 64)(Wi:out.length < 64)
  (ho:(arrOf st).map (·.2)=List.toArray out) (hf:failedOf st=none)
  (h:∀h' c,h'.get? a=some (seqObj "list" (List.toArray out) c)->(∀b o,b≠a->b≠kS->s.heap.get? b=some o->h'.get? b=some o)->P (.done (.ret .none)) {s with heap:=h'}):wpAny (model prog w) A (ksk_tail a false e1 (.ref kS) st) P E s:=by
 unfold ksk_tail
 try dsimp only
 rw[ho]
 have s1:=k8 s.heap kS (Obj.mapSeq λ _=>(#[]:Array Value))
 have a1:(s.heap.update kS (Obj.mapSeq λ _=>(#[]:Array Value))).get? a=some (seqObj "list" #[] e1):=(s1.2 a eG).trans ha
 have s2:=k8 (s.heap.update kS (Obj.mapSeq λ _=>(#[]:Array Value))) a (Obj.mapSeq λ _=>List.toArray out)
 refine z6 (listUpdate_at hk rfl (z6 (wpAny_letGo (z6 (seqEpoch_at a1 rfl (z6 (listUpdate_at a1 rfl ?_ (z4 _) ?_)))))) (by rw[p4,z0];omega) (z4 _))
 ·rw[hf]
  simp only[bne_self_eq_false,l9,A0]
  exact z7 (h _ _ (get?_update_seq a1 λ _=>List.toArray out) λ b o b1 b2 q=>(s2.2 b b1).trans ((s1.2 b b2).trans q))
 ·simp only[l9,A0]
  rw[p4,z0];omega
theorem Jt{a kS:Addr}{e e1:Nat}{ks vs:List Value}{κ:SortKind}{lt:Nat->Nat->Bool}{P:PySem.Fin->Shared->Prop}(O:Ord lt)(hl:ks.length=vs.length)(Co:vs.length < 64)(hk:s.heap.get? kS=some (seqObj "list" (List.toArray ks) e))(ha:s.heap.get? a=some (seqObj "list" #[] e1))(eG:a≠kS)
  (Br:2<=vs.length->∀C:SortKind->Shared->Prop,C κ s->wpAny (model prog w) A (keyKind' (List.toArray ks)) C E s)
  (hc:2<=vs.length->∀i j C,i < vs.length->j < vs.length->C (lt i j) s->wpAny (model prog w) A (keyLt' κ (ks.getD i Value.none) (ks.getD j Value.none)) C (λ _ _=>False) s)
  (h:∀out h' c,Out lt vs Value.none out->h'.get? a=some (seqObj "list" (List.toArray out) c)->(∀b o,b≠a->b≠kS->s.heap.get? b=some o->h'.get? b=some o)->P (.done (.ret .none)) {s with heap:=h'}):
  wpAny (model prog w) A (ksk_end a false vs.toArray e1 (.ref kS) (List.toArray ks)) P E s:=by
 unfold ksk_end
 try dsimp only
 simp only[l9,A0]
 by_cases h2:vs.length < 2
 ·have z2:vs.toArray.size < 2:=by rw[p4];exact h2
  rw[A3 z2,A3 z2]
  refine z6 (z7 (z6 ?_))
  rw[StateT.run_pure]
  refine z7 ?_
  refine vW hk ha eG (by omega) Co (st:=SortSt.mk' general' ((List.toArray ks).zip vs.toArray) #[] 7 none) ?_ rfl λ h' c a1 a2=>h vs h' c (D5 O _ h2) a1 a2
  show((List.toArray ks).zip vs.toArray).map (·.2)=_
  apply Array.toList_inj.mp
  simp
  exact map_snd_zip (by omega)
 ·have z2:¬vs.toArray.size < 2:=by rw[p4];exact h2
  rw[A4 z2,A4 z2]
  refine z6 (Br (by omega) _ ?_)
  refine z6 (z9 (kat_run (Q:=λ tK s'=>s'=s/\∃p:Array Nat,p.size=vs.length/\arrOf tK=p.map (kas_item ((List.toArray ks).zip vs.toArray))/\failedOf tK=none/\Pm vs.length p/\Up lt p vs.length)
   (G:=λ p s'=>s'=s/\Pm vs.length p/\Up lt p vs.length) hl (by omega) Co (λ p tK s' a1 a2 a3 a4=>⟨a4.1,p,a1,a2,a3,a4.2⟩) (F' (hc (by omega)) _ (EC O (by omega) λ p p1 p2=>⟨rfl,p1,p2⟩))) ?_ λ _ _ x=>x)
  rintro⟨⟨⟩,tK⟩ s' ⟨rfl,p,hp,UE,hf,p1,p2⟩
  try dsimp only
  refine vW hk ha eG (by omega) ?_ (kat_snds hl UE) hf λ h' c a1 a2=>h _ h' c ⟨p,p1,p2,rfl⟩ a1 a2
  rw[w5,l4,hp]
  exact Co
theorem vX{kS q:Addr}{body:Value->PUnit->Sem (ForInStep PUnit)}{J:List Value->Nat->Shared->Prop}{vs:List Value}
  (hb:∀x ks e (s:Shared),J ks e s->vs[ks.length]?=some x->wpAny (model prog w) A (body x ⟨⟩) (λ r s'=>r=.yield ⟨⟩/\∃k c,J (ks++[k]) c s') E s):∀(r ks:List Value) (e:Nat) (s:Shared),vs.drop ks.length=r->ks.length<=vs.length->J ks e s->
   wpAny (model prog w) A (forIn r PUnit.unit body) (λ _ s'=>∃ks e,ks.length=vs.length/\J ks e s') E s
 |[],ks,e,s,hr,hl,h=>by
  rw[forIn_nil]
  exact z7 ⟨ks,e,Nat.le_antisymm hl (by simpa using hr),h⟩
 |x::r,ks,e,s,hr,hl,h=>by
  rw[forIn_cons]
  have mU:ks.length < vs.length:=by
   refine Nat.lt_of_not_le λ z=>?_
   rw[drop_eq_nil_of_le z]at hr
   cases hr
  rw[g8 mU]at hr
  injection hr with e1 e2
  refine z6 (z9 (hb x ks e s h (by rw[i4 mU,e1])) (λ y s' hy=>?_) λ _ _ z=>z)
  obtain⟨rfl,k,c,h2⟩:=hy
  exact vX (kS:=kS) (q:=q) hb r (ks++[k]) c s' (by rw[l8,j5];exact e2) (by rw[l8,j5];omega) h2
theorem ED{a kS q:Addr}{e1:Nat}{vs:List Value}{P:PySem.Fin->Shared->Prop}{J:List Value->Nat->Shared->Prop}(Co:vs.length < 64)(hJ:∀ks e s,J ks e s->s.heap.get? kS=some (seqObj "list" (List.toArray ks) e)/\ks.length<=vs.length)
  (Nc:∀x ks e (s:Shared),J ks e s->vs[ks.length]?=some x->wpAny (model prog w) A (call (.ref q) [x]) (λ k s'=>s'.heap.get? kS=some (seqObj "list" (List.toArray ks) e)/\∀h' c,h'.get? kS=some (seqObj "list" (List.toArray (ks++[k])) c)->Heap.SameBut kS s'.heap h'->J (ks++[k]) c {s' with heap:=h'}) (λ _ _=>False) s)
  (h0:J [] 0 s) (Rg:∀ks e s,J ks e s->ks.length=vs.length->wpAny (model prog w) A (ksk_end a false vs.toArray e1 (.ref kS) (List.toArray ks)) P E s):wpAny (model prog w) A (ksk_rest a (.ref q) false vs.toArray e1 (.ref kS)) P E s:=by
 unfold ksk_rest
 refine z6 (wpAny_rule ?_)
 first
  |rw[List.forIn_toArray]
  |(rw[<- Array.forIn_toList];simp only[List.toList_toArray])
  |rw[<- Array.forIn_toList]
 refine z6 (z9 (vX (kS:=kS) (q:=q) (J:=J) (vs:=vs) (λ x ks e s' hj hx=>?_) vs [] 0 s rfl (z4 _) h0) (λ _ s' hd=>?_) λ _ _ x=>x)
 ·refine z6 (x6 (z9 (Nc x ks e s' hj hx) (λ k Lm hk=>?_) λ _ _ hF=>hF.elim))
  obtain⟨k1,k2⟩:=hk
  have hz:=(hJ ks e s' hj).2
  have s1:=k8 Lm.heap kS (Obj.mapSeq (·.push k))
  have ea:(List.toArray ks).push k=List.toArray (ks++[k]):=by simp
  try dsimp only
  refine z6 (listUpdate_at k1 rfl (z7 ⟨rfl,k,_,k2 _ _ (by rw[<- ea];exact get?_update_seq k1 (·.push k)) s1⟩) (by rw[p4,z0];omega) (y8 (Nat.le_of_eq (Array.size_push ..)) (by rw[p4,z0];omega)))
 ·obtain⟨ks,e,hl,hj⟩:=hd
  try dsimp only
  exact z6 (listItems_at (hJ ks e s' hj).1 rfl (Rg ks e s' hj hl))
end
end L5
namespace L2
open PySem PySem.Spec PyProof.Rows L5 PySem.W
open HT (lexLt bB bD bp bq)
theorem dW{h:Heap}:∀{vs:List Value} {ns:List Int},IntsAre vs ns->ReadsAll h vs (ns.map PyData.int) []
 |_,_,.nil=>ReadsAll.nil
 |_,_,.cons n t r=>ReadsAll.cons (Reads.int n t) (dW r)
abbrev Ky:=Int×List Int
def klt(a b:Ky):Bool:=if a.1=b.1 then lexLt a.2 b.2 else decide (a.1 < b.1)
theorem kI:∀a:List Int,lexLt a a=false
 |[]=>rfl
 |x::a=>by rw[bB,A3 rfl];exact kI a
theorem rO:∀a b:List Int,lexLt a b=true->lexLt b a=false
 |[],[],h=>by cases h
 |[],_::_,_=>rfl
 |_::_,[],h=>by cases h
 |x::a,y::b,h=>by
  rw[bB]at h ⊢
  by_cases e:x=y
  ·rw[A3 e]at h
   rw[A3 e.symm]
   exact rO a b h
  ·rw[A4 e]at h
   rw[A4 (A2 e)]
   have:=of_decide_eq_true h
   exact u4 (by omega)
set_option tactic.hygienic true in
theorem AH:∀a b c:List Int,lexLt a b=false->lexLt b c=false->lexLt a c=false
 |_,_::_,[],_,_=>by rename_i a _ _ _ _;cases a <;> rfl
 |[],[],c,_,h=>h
 |_::_,[],[],_,_=>rfl
 |_::_,[],_::_,_,h=>by cases h
 |[],_::_,_::_,h,_=>by cases h
 |x::a,y::b,z::c,h,g=>by
  rw[bB]at h g ⊢
  by_cases e:x=y
  ·rw[A3 e]at h
   subst e
   by_cases e2:x=z
   ·rw[A3 e2]at g ⊢
    exact AH a b c h g
   ·rw[A4 e2]at g ⊢
    exact g
  ·rw[A4 e]at h
   have h:=of_decide_eq_false h
   by_cases e2:y=z
   ·subst e2
    rw[A4 e]
    exact u4 h
   ·rw[A4 e2]at g
    have g:=of_decide_eq_false g
    have:x≠z:=by omega
    rw[A4 this]
    exact u4 (by omega)
theorem og:∀a b:List Int,a.length=b.length->lexLt a b=false->lexLt b a=false->a=b
 |[],[],_,_,_=>rfl
 |x::a,y::b,l,h,g=>by
  rw[bB]at h g
  by_cases e:x=y
  ·subst e
   rw[A3 rfl]at h g
   rw[og a b (by simpa using l) h g]
  ·rw[A4 e]at h
   rw[A4 (A2 e)]at g
   have h:=of_decide_eq_false h
   have g:=of_decide_eq_false g
   omega
theorem AQ(a b:Ky)(h:klt a b=true):klt b a=false:=by
 unfold klt at h ⊢
 by_cases e:a.1=b.1
 ·rw[A3 e]at h
  rw[A3 e.symm]
  exact rO _ _ h
 ·rw[A4 e]at h
  rw[A4 (A2 e)]
  have:=of_decide_eq_true h
  exact u4 (by omega)
theorem Ju(a b c:Ky)(h:klt a b=false)(g:klt b c=false):klt a c=false:=by
 unfold klt at h g ⊢
 by_cases e:a.1=b.1
 ·rw[A3 e]at h
  by_cases e2:b.1=c.1
  ·rw[A3 e2]at g
   rw[A3 (e.trans e2)]
   exact AH _ _ _ h g
  ·rw[A4 e2]at g
   rw[A4 (by rw[e];exact e2),e]
   exact g
 ·rw[A4 e]at h
  have h:=of_decide_eq_false h
  by_cases e2:b.1=c.1
  ·rw[A4 (by rw[<- e2];exact e),<- e2]
   exact u4 h
  ·rw[A4 e2]at g
   have g:=of_decide_eq_false g
   have:a.1≠c.1:=by omega
   rw[A4 this]
   exact u4 (by omega)
theorem EF(key:Nat->Ky):Ord λ i j=>klt (key i) (key j):=⟨λ a b h=>AQ _ _ h,λ a b c h g=>Ju _ _ _ h g⟩
def fv(K:PySem.W.Frag)(b:Bool)(H:Hp)(k:V)(c:Ky):Prop:=∃t m,k=.ref t/\fu K H t [.int c.1,.ref m]/\Sq b K H m (c.2.map V.int)
section
variable {X:Cx}{pins:List (Addr×Obj)}{σ:St}{H:Hp}{s:Shared}
theorem fH(I:Inv X pins σ H s){b:Bool}{k:V}{c:Ky}{u:Value}(h:fv X.K b H k c)(r:RelV k u):∃(t m:Addr) (o:Obj) (tk:Tok) (n:Nat) (au:List Value),u=.ref t/\s.heap.get? t=some o/\o.cls=.type "tuple"/\o.data=.seq #[.int c.1 tk,.ref m] n/\uO b s.heap m au.toArray/\IntsAre au c.2:=by
 obtain⟨t,m,rfl,h1,h2⟩:=h
 cases(show u=Value.ref t from r)
 obtain⟨au,r1,⟨o,ho,hc,n,hd⟩,_⟩:=I.tuple h1
 obtain⟨u1,u2,rfl,⟨tk,rfl⟩,q2⟩:=vals2 r1
 cases(show u2=Value.ref m from q2)
 obtain⟨TB,r2,p2⟩:=lA I h2
 exact⟨t,m,o,tk,n,TB,rfl,ho,hc,hd,p2,intsAre_of r2⟩
theorem qi{A:Around}{b:Bool}{m m':Addr}{xs ys:List Value}{ns ms:List Int}(h1:uO b s.heap m xs.toArray)(h2:uO b s.heap m' ys.toArray)(i1:IntsAre xs ns)(i2:IntsAre ys ms)(hu:A.units+1 < cLine):SeqAt.EqAt A s (.ref m) (.ref m') (decide (ns=ms)):=by
 have dp:∀l:List Int,PyData.depthAll (l.map PyData.int)=0:=λ l=>ke_depthAll l
 cases b with
 |true=>
  obtain⟨o,ho,hc,n,hd⟩:=h1
  obtain⟨o',gR,sj,n',fM⟩:=h2
  have q:=p5 (.tuple (ns.map .int)) (.tuple (ms.map .int)) A s (.ref m) (.ref m') _ _ (reads_tuple_at ho hc hd (dW i1)) (reads_tuple_at gR sj fM (dW i2)) (by simp[PyData.canLay0,ke_canLayAll0]) (by simp[PyData.canLay0,ke_canLayAll0]) (by simp[PyData.depth,dp];omega)
  rw[show PyData.eqv (.tuple (ns.map .int)) (.tuple (ms.map .int))=decide (ns=ms) by simp only[PyData.eqv];exact ked_eqvAll ns ms]at q
  exact q
 |false=>
  obtain⟨o,ho,hc,n,hd⟩:=h1
  obtain⟨o',gR,sj,n',fM⟩:=h2
  have q:=p5 (.list (ns.map .int)) (.list (ms.map .int)) A s (.ref m) (.ref m') _ _ (reads_list_at ho hc hd (dW i1)) (reads_list_at gR sj fM (dW i2)) (by simp[PyData.canLay0,ke_canLayAll0]) (by simp[PyData.canLay0,ke_canLayAll0]) (by simp[PyData.depth,dp];omega)
  rw[show PyData.eqv (.list (ns.map .int)) (.list (ms.map .int))=decide (ns=ms) by simp only[PyData.eqv];exact ked_eqvAll ns ms]at q
  exact q
theorem Et{prog:Program}{w:World}{A:Around}{E:Value->Shared->Prop}{b:Bool}{m m':Addr}{xs ys:List Value}{ns ms:List Int}{Q:Value->Shared->Prop}(h1:uO b s.heap m xs.toArray)(h2:uO b s.heap m' ys.toArray)(i1:IntsAre xs ns)(i2:IntsAre ys ms)(hu:A.units < cLine)
  (h:Q (.bool (lexLt ns ms)) s):wpAny (model prog w) A (compareOp .Lt (.ref m) (.ref m')) Q E s:=by
 cases b with
 |true=>exact HT.uJ (show IsTup s.heap m xs.toArray from h1) (show IsTup s.heap m' ys.toArray from h2) i1 i2 hu h
 |false=>exact AG h1 h2 i1 i2 hu h
theorem Jx{A:Around}(I:Inv X pins σ H s)(hu:A.units+1 < cLine){b:Bool}{k k':V}{c c':Ky}{u u':Value}(h:fv X.K b H k c)(h':fv X.K b H k' c')(r:RelV k u)(r':RelV k' u'){C:Bool->Shared->Prop}(hC:C (klt c c') s):
  wpAny (model X.prog X.w) A (keyLt' (tuples' true) u u') C (λ _ _=>False) s:=by
 obtain⟨t,m,o,tk,n,au,rfl,ho,_,hd,hm,hi⟩:=fH I h r
 obtain⟨t',m',o',vo,n',its',rfl,gR,_,fM,dR,MZ⟩:=fH I h' r'
 refine kat_lt ho hd gR fM (kat_cons (SeqAt.EqAt.int_int c.1 tk c'.1 vo X.prog X.w _ _ ?_))
 unfold klt at hC
 by_cases e:c.1=c'.1
 ·rw[A3 e]at hC
  rw[show(c.1==c'.1)=true by simp[e]]
  refine kat_yes (kat_cons (qi hm dR hi MZ hu X.prog X.w _ _ ?_))
  by_cases e2:c.2=c'.2
  ·rw[x3 e2]
   rw[e2,kI]at hC
   exact kat_yes (kat_nil hC)
  ·rw[u4 e2]
   exact kat_no (kat_one _ _ (Et hm dR hi MZ (by omega) hC))
 ·rw[A4 e]at hC
  rw[show(c.1==c'.1)=false by simp[e]]
  exact kat_no (oneLt_int hC)
theorem rS(I:Inv X pins σ H s){b:Bool}:∀{aw:List V} {ks:List Value} {key:Nat->Ky},Vals aw ks->(∀i k,aw[i]?=some k->fv X.K b H k (key i))->∃fs,KatTups s.heap ks fs/\fs.length=ks.length/\∀v∈fs,∃i t,v=Value.int i t
 |_,_,_,.nil,_=>⟨[],KatTups.nil,rfl,λ v hv=>by cases hv⟩
 |_,_,key,.cons (a:=k) r rr,h=>by
  obtain⟨fs,h1,h2,h3⟩:=rS I rr (key:=λ i=>key (i+1)) λ i k hk=>h (i+1) k (by simpa using hk)
  obtain⟨t,m,o,tk,n,au,rfl,ho,hc,hd,_,_⟩:=fH I (h 0 _ rfl) r
  refine⟨.int (key 0).1 tk::fs,KatTups.cons ho hc hd rfl h1,by simp[h2],λ v hv=>?_⟩
  rcases y1.mp hv with rfl|hv
  ·exact⟨_,_,rfl⟩
  ·exact h3 v hv
theorem yV{ys:List V}{au:List Value}(r:Vals ys au)(p:List Nat):Vals (p.map λ i=>ys.getD i V.aZ) (p.map λ i=>au.getD i Value.none):=by
 induction p with
 |nil=>exact .nil
 |cons i p ih=>
  refine .cons ?_ ih
  show RelV (ys.getD i V.aZ) (au.getD i Value.none)
  cases e:ys[i]? with
  |none=>
   have e2:=r.none_of e
   rw[c7,c7,e,e2]
   rfl
  |some y=>
   obtain⟨u,hu,ru⟩:=r.get e
   rw[c7,c7,e,hu]
   exact ru
variable {k:Nat}{q:Addr}{fd:FuncData}{ps:List Str}{sp:Sp}
end
end L2
namespace L5
open PySem
theorem CC:fillsNumberSlot (.type "tuple") "mul"=pure false:=fillsNumberSlot_seq (id:="tuple.__mul__") (r:=some (.builtin "tuple.__rmul__")) F.slot_tuple_mul.lookup (by decide+kernel) F.slot_tuple_rmul.lookup (by decide+kernel)
theorem GN:seqRepeat? (.type "tuple")=pure (some (.builtin "tuple.__mul__")):=by
 unfold seqRepeat?
 rw[seqSlot_of (T:="tuple") (name:="__mul__") (id:="tuple.__mul__") F.slot_tuple_mul.lookup (by decide+kernel),seqSlot_of (T:="tuple") (name:="__rmul__") (id:="tuple.__rmul__") F.slot_tuple_rmul.lookup (by decide+kernel)]
 rfl
theorem GQ(a:Int)(t:Tok)(l:Addr)(au:Array Value)(n:Nat)(dd:Option Addr)(sl:Array (Option Value)):Meets (Builtin.«int.__rmul__» ⟨[.int a t,.ref l],[]⟩) (λ _ R s=>s.heap.get? l=some {cls:=.type "tuple",dict:=dd,data:=.seq au n,slots:=sl}/\R (.ok (.ret Value.notImplemented)) s):=
 .of_wp λ prog w A R s h=>by
  obtain⟨hp,g,d,tk,os⟩:=s
  obtain⟨hl,h⟩:=h
  wp_walk
  exact⟨_,rfl,h⟩
theorem GP(l:Addr)(au:Array Value)(n:Nat)(dd:Option Addr)(sl:Array (Option Value))(u:Tok):Meets (Builtin.«tuple.__mul__» ⟨[.ref l,.int 1 u],[]⟩) (λ _ R s=>s.heap.get? l=some {cls:=.type "tuple",dict:=dd,data:=.seq au n,slots:=sl}/\R (.ok (.ret (.ref l))) s):=
 .of_wp λ prog w A R s h=>by
  obtain⟨hp,g,d,tk,os⟩:=s
  obtain⟨hl,h⟩:=h
  wp_walk
  exact⟨_,rfl,h⟩
theorem CB(l:Addr)(au:Array Value)(n:Nat)(dd:Option Addr)(sl:Array (Option Value))(x:Int)(u:Tok)(hx:x≠1)(h1: -(2^63)<=x)(h2:x < 2^63)(hi:au.isEmpty=false)(hz:au.size*x.toNat<=sizeLine):
  Meets (Builtin.«tuple.__mul__» ⟨[.ref l,.int x u],[]⟩) (λ _ R s=>s.heap.get? l=some {cls:=.type "tuple",dict:=dd,data:=.seq au n,slots:=sl}/\
   R (.ok (.ret (.ref s.heap.objs.size))) {s with heap:=s.heap.push {cls:=.type "tuple",data:=.seq ((List.replicate x.toNat au).foldl (·++·) #[])}}):=
 .of_wp λ prog w A R s h=>by
  obtain⟨hp,g,d,tk,os⟩:=s
  obtain⟨hl,h⟩:=h
  wp_walk
  rw[A4 (by simp;omega)]
  wp_walk
  by_cases QD:x<=0
  ·rw[A3 (by simp[QD])]
   wp_walk
   have e:x.toNat=0:=by omega
   rw[e]at h
   exact⟨_,rfl,h⟩
  ·rw[A4 (by simp[hi];omega)]
   have ez:((au.size:Int)*x)=((au.size*x.toNat:Nat):Int):=by
    rw[Int.natCast_mul,Int.toNat_of_nonneg (by omega)]
   have Qu:=hz
   rw[z0]at Qu
   rw[A4 (by rw[ez];omega)]
   wp_walk
   rw[A4 (by unfold Builtin.Tuple.tupleTooMany;rw[ez,n4,z0];omega)]
   have hsz:(List.foldl (λ x1 x2=>x1++x2) #[] (List.replicate x.toNat au)).size<=sizeLine:=by
    have f0:∀(m:Nat) (acc:Array Value),(List.foldl (λ x1 x2=>x1++x2) acc (List.replicate m au)).size=acc.size+m*au.size:=by
     intro m
     induction m with
     |zero=>intro acc;simp
     |succ m ih=>intro acc;rw[l3,foldl_cons,ih,Array.size_append,Nat.succ_mul];omega
    rw[f0,Nat.mul_comm]
    simpa using hz
   wp_walk
   exact⟨_,rfl,h⟩
end L5
namespace L2
open PySem PySem.Spec PyProof.Rows L5
section
variable {X:Cx}
theorem vp(ns:List Int):∀n,n<=ns.length->preSum (λ i=>ns.getD i 0) n=(ns.take n).sum
 |0,_=>by simp[preSum]
 |n+1,h=>by
  have hn:n < ns.length:=by omega
  rw[preSum,vp ns n (by omega),take_succ_eq_append_getElem hn,sum_append]
  simp[c7,hn]
theorem nA(hc:X.calm=true):cY X (.builtin "sum") (λ xs H Q=>∃(b:Bool) (p:Addr) (ns:List Int),xs=[.ref p]/\Sq b X.K H p (ns.map V.int)/\Q (.int ns.sum) H):=by
 intro pins s σ H xs us Q I r h
 obtain⟨b,p,ns,rfl,hq,q⟩:=h
 obtain⟨u,rfl,r1⟩:=vals1 r
 cases r1
 obtain⟨au,rv,pl⟩:=lA I hq
 have hi:IntsAre au ns:=intsAre_of rv
 have hlen:au.length=ns.length:=by rw[<- rv.length,w5]
 have hA:X.A.in1.handled=none:=I.ok.hd hc
 have hv:∀i v,au.toArray[i]?=some v->∃t,v=Value.int (ns.getD i 0) t:=λ i v e=>by
  have e:au[i]?=some v:=by simpa using e
  have h1:i < ns.length:=by rw[<- hlen];exact(g9.mp e).1
  obtain⟨t,e2⟩:=iL hi h1
  rw[e]at e2
  cases e2
  exact⟨t,by simp[c7,h1]⟩
 have ht:preSum (λ i=>ns.getD i 0) au.toArray.size=ns.sum:=by
  rw[p4,hlen,vp ns _ (y9 _),take_length]
 cases b with
 |false=>
  have pl:s.heap.IsList p au.toArray:=pl
  have eG:p≠s.heap.objs.size:=by
   obtain⟨o,e,_⟩:=pl
   exact y3 (y4 e)
  refine call_sum_walkG (o8 pl ⟨s.heap.objs.size,_,_,_,_,_,λ i=>ns.getD i 0,rfl,Walks.list hA s.heap.objs.size p eG au.toArray,⟨⟨_,l5 _ rfl,rfl,rfl⟩,pl.at λ o e=>j1 _ e⟩,?_,hv,λ h' tk t' hk=>?_⟩)
  ·intro b hb
   have:s.heap.objs.size < (s.heap.push {cls:=.type "list_iterator",data:=.fields #[.ref p,.int 0 0]}).objs.size:=by rw[x4];omega
   obtain⟨o,e,_⟩:=pl
   have h2:=y4 e
   simp at hb
   rcases hb with rfl|rfl
   ·exact this
   ·exact Nat.lt_trans h2 this
  ·rw[ht]
   exact⟨.int ns.sum,H,I.kept (t':=tk) λ b o e=>hk b o (by simpa using y3 (y4 e)) (j1 _ e),⟨_,rfl⟩,q⟩
 |true=>
  have pl:s.heap.IsTuple p au.toArray:=pl
  have eG:p≠s.heap.objs.size:=by
   obtain⟨o,e,_⟩:=pl
   exact y3 (y4 e)
  refine call_sum_walkG (wpAny_pyIter_tuple pl ⟨s.heap.objs.size,_,_,_,_,_,λ i=>ns.getD i 0,rfl,Walks.tuple hA s.heap.objs.size p eG au.toArray,⟨⟨_,l5 _ rfl,rfl,rfl⟩,rE.keep pl λ o e=>j1 _ e⟩,?_,hv,λ h' tk t' hk=>?_⟩)
  ·intro b hb
   have:s.heap.objs.size < (s.heap.push {cls:=.type "tuple_iterator",data:=.fields #[.ref p,.int 0 0]}).objs.size:=by rw[x4];omega
   obtain⟨o,e,_⟩:=pl
   have h2:=y4 e
   simp at hb
   rcases hb with rfl|rfl
   ·exact this
   ·exact Nat.lt_trans h2 this
  ·rw[ht]
   exact⟨.int ns.sum,H,I.kept (t':=tk) λ b o e=>hk b o (by simpa using y3 (y4 e)) (j1 _ e),⟨_,rfl⟩,q⟩
theorem D6:dE X (binaryOp .Mult) (λ x y H Q=>∃l k xs,x=.ref l/\y=.int k/\fu X.K H l xs/\xs≠[]/\-(2^63)<=k/\k < 2^63/\xs.length*k.toNat<=sizeLine/\(k=1->Q (.ref l) H)/\(k≠1->∀p,H p=none->Q (.ref p) (upd H p (.tup (List.replicate k.toNat xs).flatten)))):=by
 intro pins s σ H x y v u Q I rx ry h
 obtain⟨l,k,xs,rfl,rfl,hH,eG,h1,h2,hz,q1,q2⟩:=h
 cases rx
 obtain⟨t,rfl⟩:=ry
 obtain⟨au,r,⟨⟨c,dd,da,sl⟩,e,hc,n,hd⟩,_⟩:=I.tuple hH
 have hl:=r.length
 cases(show c=.type "tuple" from hc)
 cases(show da=.seq au.toArray n from hd)
 refine wpAny_binaryOp_repeat_ref (T:="tuple") (U:="int") (by decide) ⟨_,e,rfl⟩ (λ s'=>typeIs_int s' k t) CC F.fills_int_mul F.slot_int_rmul GN F.slot_int_index.lookup
  (z8 F.slot_int_rmul (typeIs_int s k t) F.entry_int_rmul (F.args_int_rmul_2 _ _) (GQ k t l au.toArray n dd sl) ⟨e,rfl,⟨_,e,rfl⟩,?_⟩)
 by_cases hk:k=1
 ·subst hk
  exact z8 F.slot_tuple_mul ⟨_,e,rfl⟩ F.entry_tuple_mul (F.args_tuple_mul_2 _ _) (GP l au.toArray n dd sl t) ⟨e,.ref l,H,I,rfl,q1 rfl⟩
 ·refine z8 F.slot_tuple_mul ⟨_,e,rfl⟩ F.entry_tuple_mul (F.args_tuple_mul_2 _ _) (CB l au.toArray n dd sl k t hk h1 h2 ?_ (by rw[p4,<- hl];exact hz)) ⟨e,?_⟩
  ·cases au with
   |nil=>cases r;exact absurd rfl eG
   |cons a b=>rfl
  ·have JS:List.foldl (λ x1 x2=>x1++x2) #[] (List.replicate k.toNat au.toArray)=(List.replicate k.toNat au).flatten.toArray:=by
    have:=foldl_rep au k.toNat []
    rw[nil_append]at this
    exact this
   rw[JS]
   have fr:=I.fresh
   refine⟨.ref s.heap.objs.size,_,I.laid (t':=s.toks) (o:=.tup (List.replicate k.toNat xs).flatten) (λ b o e=>j1 _ e) (y9 _) ⟨?_,_,r.rep k.toNat,⟨_,l5 _ rfl,rfl,_,rfl⟩⟩,rfl,q2 hk _ fr⟩
   rw[len_rep,Nat.mul_comm]
   exact hz
end
end L2
namespace L3
open PySem PySem.Spec L2 L5 PyProof.Rows
mutual
def toP:D->PyData
 | .aZ=>.none
 | .bl b=>.bool b
 | .int i=>.int i
 | .str x=>.str x
 | .ty _=>.none
 | .ref _=>.none
 | .tup ds=>.tuple (toPs ds)
 | .fl ds=>.list (toPs ds)
def toPs:List D->List PyData
 |[]=>[]
 |d::ds=>toP d::toPs ds
end
mutual
def nr:D->Bool
 | .aZ=>true
 | .bl _=>true
 | .int _=>true
 | .str _=>true
 | .ty _=>false
 | .ref _=>false
 | .tup ds=>pV ds
 | .fl ds=>pV ds
def pV:List D->Bool
 |[]=>true
 |d::ds=>nr d&&pV ds
end
section
variable {X:Cx}{pins:List (Addr×Obj)}{σ:L2.St}{H:Hp}{s:Shared}
mutual
theorem OK(I:Inv X pins σ H s):∀(d:D) {x:V} {u:Value},nr d=true->Dat X.K H d x->RelV x u->∃as,Reads s.heap u (toP d) as
 | .aZ,x,u,_,h,r=>by cases(cU.mp h);cases r;unfold toP;exact⟨_,Reads.none⟩
 | .bl b,x,u,_,h,r=>by cases(aB.mp h);cases r;unfold toP;exact⟨_,Reads.bool b⟩
 | .int i,x,u,_,h,r=>by cases(av.mp h);obtain⟨t,rfl⟩:=r;unfold toP;exact⟨_,Reads.int i t⟩
 | .str z,x,u,_,h,r=>by cases(aN.mp h);obtain⟨t,rfl⟩:=r;unfold toP;exact⟨_,Reads.str z t⟩
 | .ty _,x,u,n,h,r=>by unfold nr at n;cases n
 | .ref _,x,u,n,h,r=>by unfold nr at n;cases n
 | .tup ds,x,u,n,h,r=>by
  unfold nr at n
  obtain⟨p,xs,rfl,hq,hd⟩:=aJ.mp h
  cases(show u=Value.ref p from r)
  obtain⟨au,rv,⟨o,ho,hc,m,sh⟩,_⟩:=I.tuple hq
  obtain⟨as,ra⟩:=ug I ds n hd rv
  unfold toP
  exact⟨_,reads_tuple_at ho hc sh ra⟩
 | .fl ds,x,u,n,h,r=>by
  unfold nr at n
  obtain⟨p,xs,rfl,hq,hd⟩:=ie.mp h
  cases(show u=Value.ref p from r)
  obtain⟨au,rv,pl,_⟩:=I.list hq.sq
  obtain⟨o,ho,hc,m,sh⟩:=pl.isList
  obtain⟨as,ra⟩:=ug I ds n hd rv
  unfold toP
  exact⟨_,reads_list_at ho hc sh ra⟩
theorem ug(I:Inv X pins σ H s):∀(ds:List D) {xs:List V} {us:List Value},pV ds=true->aA X.K H ds xs->Vals xs us->∃as,ReadsAll s.heap us (toPs ds) as
 |[],xs,us,_,h,r=>by cases(aq.mp h);cases r;unfold toPs;exact⟨_,ReadsAll.nil⟩
 |d::ds,xs,us,n,h,r=>by
  unfold pV at n
  rw[q9]at n
  obtain⟨x,GD,rfl,h1,h2⟩:=ag.mp h
  cases r with
  |cons r1 r2=>
   obtain⟨as,a⟩:=OK I d n.1 h1 r1
   obtain⟨bs,b⟩:=ug I ds n.2 h2 r2
   unfold toPs
   exact⟨_,ReadsAll.cons a b⟩
end
end
def KZ(K:PySem.W.Frag)(H:Hp)(x:V)(a:PyData):Prop:=(∃d,nr d=true/\Dat K H d x/\toP d=a)\/∃p ds xs,x=.ref p/\dN K H p xs/\aA K H ds xs/\pV ds=true/\a=.list (toPs ds)
def rn(M:Mem)(d:D):Option PyData:=match d with
 | .ref a=>match M a with
  |some (.lst ds)=>if pV ds=true then some (.list (toPs ds))else none
  |_=>none
 |d=>if nr d=true then some (toP d)else none
theorem ko{K:PySem.W.Frag}{H:Hp}{M:Mem}{d:D}{x:V}{a:PyData}(e:rn M d=some a)(h:Dat K H d x)(hm:RelM K H M):KZ K H x a:=by
 cases d with
 |ref p=>
  cases(aH.mp h)
  unfold rn at e
  cases q:M p with
  |none=>simp[q]at e
  |some o=>
   cases o with
   |ir b aw=>simp[q]at e
   |lst ds=>
    simp only[q]at e
    by_cases n:pV ds=true
    ·rw[A3 n]at e
     cases e
     obtain⟨xs,hx,hd⟩:=hm p _ q
     exact .inr ⟨p,ds,xs,rfl,dN.of hx,hd,n,rfl⟩
    ·rw[A4 n]at e
     cases e
 |aZ=>exact .inl ⟨_,rfl,h,by simpa[rn,nr]using e⟩
 |bl _=>exact .inl ⟨_,rfl,h,by simpa[rn,nr]using e⟩
 |int _=>exact .inl ⟨_,rfl,h,by simpa[rn,nr]using e⟩
 |str _=>exact .inl ⟨_,rfl,h,by simpa[rn,nr]using e⟩
 |ty _=>simp[rn,nr]at e
 |tup ds=>
  by_cases n:pV ds=true
  ·exact .inl ⟨.tup ds,by unfold nr;exact n,h,by simpa[rn,nr,n]using e⟩
  ·simp[rn,nr,n]at e
 |fl ds=>
  by_cases n:pV ds=true
  ·exact .inl ⟨.fl ds,by unfold nr;exact n,h,by simpa[rn,nr,n]using e⟩
  ·simp[rn,nr,n]at e
section
variable {X:Cx}
theorem gG{pins:List (Addr×Obj)}{σ:L2.St}{H:Hp}{s:Shared}(I:Inv X pins σ H s){x:V}{u:Value}{a:PyData}(h:KZ X.K H x a)(r:RelV x u):∃as,Reads s.heap u a as:=by
 rcases h with⟨d,n,hd,rfl⟩|⟨p,ds,xs,rfl,hq,hd,n,rfl⟩
 ·exact OK I d n hd r
 ·cases(show u=Value.ref p from r)
  obtain⟨au,rv,pl,_⟩:=I.list hq
  obtain⟨o,ho,hc,m,sh⟩:=pl.isList
  obtain⟨as,ra⟩:=ug I ds n hd rv
  exact⟨_,reads_list_at ho hc sh ra⟩
def RF(neg:Bool):eE:=λ x y M Q=>∃a b,rn M x=some a/\rn M y=some b/\SeqAt.shaped a=true/\SeqAt.shaped b=true/\Q (.bl (if neg then !PyData.eqv a b else PyData.eqv a b)) M
theorem Ja(hu:X.A.units+64 < cLine):dE X (compareOp .Eq) (λ x y H Q=>∃a b,KZ X.K H x a/\KZ X.K H y b/\SeqAt.shaped a=true/\SeqAt.shaped b=true/\Q (.bl (PyData.eqv a b)) H):=by
 intro pins s σ H x y v u Q I rx ry h
 obtain⟨a,b,ha,hb,sa,sb,q⟩:=h
 obtain⟨as,ra⟩:=gG I ha rx
 obtain⟨bs,rb⟩:=gG I hb ry
 exact eq_dataH ra rb sa sb hu ⟨.bl (PyData.eqv a b),H,I,rfl,q⟩
theorem IS(hu:X.A.units+64 < cLine):dE X (compareOp .NotEq) (λ x y H Q=>∃a b,KZ X.K H x a/\KZ X.K H y b/\SeqAt.shaped a=true/\SeqAt.shaped b=true/\Q (.bl (!PyData.eqv a b)) H):=by
 intro pins s σ H x y v u Q I rx ry h
 obtain⟨a,b,ha,hb,sa,sb,q⟩:=h
 obtain⟨as,ra⟩:=gG I ha rx
 obtain⟨bs,rb⟩:=gG I hb ry
 exact ne_dataH ra rb sa sb hu ⟨.bl (!PyData.eqv a b),H,I,rfl,q⟩
theorem dC.or {f:Value->Value->Sem Value}{r r':eE}(h:dC X f r)(h':dC X f r'):dC X f (λ x y M Q=>r x y M Q\/r' x y M Q):=by
 obtain⟨a,h1,h2⟩:=h
 obtain⟨b,g1,g2⟩:=h'
 refine⟨_,h1.or g1,λ x y d e H M Q2 Q hd he hm q k=>?_⟩
 rcases q with q|q
 ·exact .inl (h2 x y d e H M Q2 Q hd he hm q k)
 ·exact .inr (g2 x y d e H M Q2 Q hd he hm q k)
def nu(neg:Bool):eE:=λ x y M Q=>Gv neg x y M Q\/RF neg x y M Q
theorem gZ(hu:X.A.units+64 < cLine):dC X (compareOp .Eq) (nu false):=Qd.or ⟨_,Ja hu,λ x y d e H M Q2 Q hd he hm q k=>by
 obtain⟨a,b,ha,hb,sa,sb,q⟩:=q
 exact⟨a,b,ko ha hd hm,ko hb he hm,sa,sb,k _ H _ M (aB.mpr rfl) hm (ar.refl H) q⟩⟩
theorem lW(hu:X.A.units+64 < cLine):dC X (compareOp .NotEq) (nu true):=Qb.or ⟨_,IS hu,λ x y d e H M Q2 Q hd he hm q k=>by
 obtain⟨a,b,ha,hb,sa,sb,q⟩:=q
 exact⟨a,b,ko ha hd hm,ko hb he hm,sa,sb,k _ H _ M (aB.mpr rfl) hm (ar.refl H) q⟩⟩
def BV:D->List D->Mem->br->Prop:=λ x vs M Q=>∃p ds y,x=.ref p/\vs=[y]/\M p=some (.lst ds)/\pV ds=true/\nr y=true/\PyData.canLayAll0 (toPs ds)=true/\(toP y).canLay0=true/\(toP y).depth < 60/\Q (.int (ds.countP λ d=>PyData.eqv (toP d) (toP y):Nat)) M
theorem sW{A:Around}{s:Shared}{v:Value}{y:PyData}{bs:List Addr}(ry:Reads s.heap v y bs)(cy:y.canLay0=true)(hu:A.units+y.depth < cLine):∀{ds:List D} {us:List Value} {as:List Addr},ReadsAll s.heap us (toPs ds) as->PyData.canLayAll0 (toPs ds)=true->
  ∃e:Value->Bool,(∀u∈us,SeqAt.EqAt A s u v (e u))/\us.countP e=ds.countP λ d=>PyData.eqv (toP d) y:=by
 intro ds us as ra cl
 refine⟨λ u=>PyData.eqv (SeqAt.readOf s.heap u) y,λ u KN=>?_,?_⟩
 ·obtain⟨d,SM,rd,cd,_⟩:=SeqAt.readsAll_mem _ _ _ cl ra u KN
  have e:=SeqAt.readOf_eq cd rd
  dsimp only
  rw[e]
  exact p5 d y A s u v _ _ rd ry cd cy (by omega)
 ·have e:=SeqAt.readsAll_map _ _ _ cl ra
  have f:∀(us:List Value) (ds:List D),us.map (SeqAt.readOf s.heap)=toPs ds->us.countP (λ u=>PyData.eqv (SeqAt.readOf s.heap u) y)=ds.countP λ d=>PyData.eqv (toP d) y:=by
   intro us
   induction us with
   |nil=>
    intro ds q
    cases ds with
    |nil=>rfl
    |cons d r=>unfold toPs at q;cases q
   |cons u us ih=>
    intro ds q
    cases ds with
    |nil=>unfold toPs at q;cases q
    |cons d r=>
     unfold toPs at q
     rw[y0]at q
     injection q with q1 q2
     rw[countP_cons,countP_cons,ih r q2,q1]
  exact f us ds e
theorem Er(hu:X.A.units+64 < cLine):Kz X "list.count" BV:=⟨λ x vs H Q=>∃p ds xs d y,x=.ref p/\vs=[y]/\dN X.K H p xs/\aA X.K H ds xs/\Dat X.K H d y/\pV ds=true/\nr d=true/\PyData.canLayAll0 (toPs ds)=true/\(toP d).canLay0=true/\(toP d).depth < 60/\Q (.int (ds.countP λ e=>PyData.eqv (toP e) (toP d):Nat)) H,by
  intro pins s σ H x xs v us Q I rx rv h
  obtain⟨p,ds,zs,d,y,rfl,rfl,hq,hd,hy,n1,n2,c1,c2,dp,q⟩:=h
  cases(show v=Value.ref p from rx)
  obtain⟨u,rfl,ru⟩:=rv.one
  obtain⟨au,rz,pl,_⟩:=I.list hq
  obtain⟨as,ra⟩:=ug I ds n1 hd rz
  obtain⟨bs,rb⟩:=OK I d n2 hy ru
  obtain⟨e,e1,e2⟩:=sW (A:=X.A.in1) rb c2 (by show X.A.units+1+_ < _;omega) ra c1
  obtain⟨⟨c,dd,da,sl⟩,ho,hc,n,sh⟩:=pl.isList
  cases(show c=.type "list" from hc)
  cases(show da=.seq au.toArray n from sh)
  refine z8 PySem.F.slot_list_count ⟨_,ho,rfl⟩ PySem.F.entry_list_count (PySem.F.args_list_count_2 _ _) (SeqAt.list_countAt p au.toArray n dd sl u e) ⟨ho,λ y hy=>e1 y (by simpa using hy),?_⟩
  rw[show au.toArray.toList=au from rfl,e2]
  exact⟨.int _,H,I.tok _,⟨_,rfl⟩,q⟩,λ x xs d ds H M Q2 Q hx hd hm q k=>by
  obtain⟨p,es,y,rfl,rfl,hM,n1,n2,c1,c2,dp,q⟩:=q
  cases(aH.mp hx)
  obtain⟨v,r,rfl,hv,hr⟩:=ag.mp hd
  cases(aq.mp hr)
  obtain⟨zs,hz,fM⟩:=hm p _ hM
  exact⟨p,es,zs,y,v,rfl,rfl,dN.of hz,fM,hv,n1,n2,c1,c2,dp,k _ H _ M (av.mpr rfl) hm (ar.refl H) q⟩⟩
def wB:D->List D->Mem->br->Prop:=λ x vs M Q=>∃p ds y,x=.ref p/\vs=[y]/\M p=some (.lst ds)/\ds.length < sizeLine/\Q .aZ (aK M p (.lst (ds++[y])))
theorem rL:Kz X "list.append" wB:=⟨vH,xP,λ x xs d ds H M Q2 Q hx hd hm q k=>by
 obtain⟨p,es,y,rfl,rfl,hM,hz,q⟩:=q
 cases(aH.mp hx)
 obtain⟨v,r,rfl,hv,hr⟩:=ag.mp hd
 cases(aq.mp hr)
 obtain⟨zs,h1,h2⟩:=hm p _ hM
 have t:=ar.lst (o:=.lst (zs++[v])) h1
 refine⟨p,zs,v,rfl,rfl,h1,by rw[h2.length];exact hz,k _ _ .aZ _ (cU.mpr rfl) (hm.put (u:=.lst (es++[y])) t ⟨_,aS,?_⟩) t q⟩
 exact(aA.mono t es h2).append (aA.one (Dat.mono t y hv))⟩
theorem cK{K:PySem.W.Frag}{H:Hp}:∀{ns:List Int} {xs:List V},aA K H (ns.map D.int) xs->xs=ns.map V.int
 |[],xs,h=>by rw[map_nil,aq]at h;exact h
 |b::bs,xs,h=>by
  rw[y0,ag]at h
  obtain⟨x,r,rfl,a,q⟩:=h
  rw[av]at a
  rw[a,cK q]
  rfl
def NA:List D->Mem->br->Prop:=λ xs M Q=>∃(x:D) (ds:List D) (ns:List Int),xs=[x]/\dz M x=some ds/\ds=ns.map D.int/\Q (.int ns.sum) M
theorem Gy(hc:X.calm=true):cX X (.builtin "sum") NA:=⟨_,nA hc,λ xs ds H M Q2 Q hd hm q k=>by
 obtain⟨x,es,ns,rfl,e,rfl,q⟩:=q
 obtain⟨v,r,rfl,hv,hr⟩:=ag.mp hd
 cases(aq.mp hr)
 obtain⟨p,ys,rfl,h,hy⟩:=gc e hv hm
 rw[cK hy]at h
 rcases h with h|h
 ·exact⟨false,p,ns,rfl,h,k _ H _ M (av.mpr rfl) hm (ar.refl H) q⟩
 ·exact⟨true,p,ns,rfl,h,k _ H _ M (av.mpr rfl) hm (ar.refl H) q⟩⟩
def NF:List D->Mem->br->Prop:=λ xs M Q=>∃i j,xs=[.int i,.int j]/\Q (.int (if j < i then j else i)) M
theorem NY(hc:X.calm=true):cX X (.builtin "min") NF:=⟨_,yp hc,λ xs ds H M Q2 Q hd hm q k=>by
 obtain⟨i,j,rfl,q⟩:=q
 obtain⟨v,r,rfl,hv,hr⟩:=ag.mp hd
 obtain⟨v2,r2,rfl,TU,EU⟩:=ag.mp hr
 cases(aq.mp EU)
 cases(av.mp hv)
 cases(av.mp TU)
 exact⟨i,j,rfl,k _ H _ M (av.mpr rfl) hm (ar.refl H) q⟩⟩
def ND:eE:=λ x y M Q=>∃ds k,x=.tup ds/\y=.int k/\ds≠[]/\-(2^63)<=k/\k < 2^63/\ds.length*k.toNat<=sizeLine/\Q (.tup (List.replicate k.toNat ds).flatten) M
theorem mB{K:PySem.W.Frag}{H:Hp}{ds:List D}{xs:List V}(h:aA K H ds xs):∀k:Nat,aA K H (List.replicate k ds).flatten (List.replicate k xs).flatten
 |0=>by simp[aq]
 |k+1=>by rw[l3,l3,n9,n9];exact h.append (mB h k)
def wA:eE:=λ x y M Q=>Fj x y M Q\/ND x y M Q
theorem Jh:dC X (binaryOp .Mult) wA:=Mj.or ⟨_,D6,λ x y d e H M Q2 Q hd he hm q k=>by
 obtain⟨ds,n,rfl,rfl,eG,h1,h2,hz,q⟩:=q
 obtain⟨p,xs,rfl,hq,hx⟩:=aJ.mp hd
 cases(av.mp he)
 refine⟨p,n,xs,rfl,rfl,hq,λ z=>?_,h1,h2,by rw[hx.length];exact hz,λ e1=>?_,λ _ l hl=>?_⟩
 ·have:=hx.length
  rw[z]at this
  exact eG (i8.mp this.symm)
 ·subst e1
  rw[show(1:Int).toNat=1 from rfl,show(List.replicate 1 ds).flatten=ds by simp]at q
  exact k _ H _ M (aJ.mpr ⟨p,xs,rfl,hq,hx⟩) hm (ar.refl H) q
 ·exact k _ _ (.tup _) M (gC hl (mB hx _)) (hm.laid hl) (ar.laid hl) q⟩
end
end L3
namespace L3
open PySem PySem.Spec L2 L5
def FH(b:Bool)(M:Mem)(k:D)(c:Ky):Prop:=match b with
 |true=>k=.tup [.int c.1,.tup (c.2.map D.int)]
 |false=>∃m,k=.tup [.int c.1,.ref m]/\M m=some (.lst (c.2.map D.int))
theorem FH.v {K:PySem.W.Frag}{H:Hp}{M:Mem}{b:Bool}{k:D}{c:Ky}{v:V}(h:FH b M k c)(r:Dat K H k v)(hm:RelM K H M):fv K b H v c:=by
 cases b with
 |true=>
  cases(show k=_ from h)
  obtain⟨p,xs,rfl,hq,hd⟩:=aJ.mp r
  obtain⟨x1,r1,rfl,h1,hd⟩:=ag.mp hd
  obtain⟨x2,r2,rfl,h2,hd⟩:=ag.mp hd
  cases(aq.mp hd)
  cases(av.mp h1)
  obtain⟨p2,ys,rfl,EV,hd2⟩:=aJ.mp h2
  rw[cK hd2]at EV
  exact⟨p,p2,rfl,hq,EV⟩
 |false=>
  obtain⟨m,rfl,hM⟩:=h
  obtain⟨p,xs,rfl,hq,hd⟩:=aJ.mp r
  obtain⟨x1,r1,rfl,h1,hd⟩:=ag.mp hd
  obtain⟨x2,r2,rfl,h2,hd⟩:=ag.mp hd
  cases(aq.mp hd)
  cases(av.mp h1)
  cases(aH.mp h2)
  obtain⟨ys,hy,hd2⟩:=hm m _ hM
  rw[cK hd2]at hy
  exact⟨p,m,rfl,hq,dN.of hy⟩
theorem oK{K:PySem.W.Frag}{H:Hp}{ds:List D}{xs:List V}(h:aA K H ds xs):∀p:List Nat,aA K H (p.map λ i=>ds.getD i D.aZ) (p.map λ i=>xs.getD i V.aZ)
 |[]=>by simp[aq]
 |i::p=>by
  rw[y0,y0,ag]
  refine⟨_,_,rfl,?_,oK h p⟩
  cases e:ds[i]? with
  |none=>
   have e2:xs[i]?=none:=by
    have:=h.length
    have:=i0.mp e
    exact j8 (by omega)
   rw[c7,c7,e,e2]
   exact cU.mpr rfl
  |some d=>
   obtain⟨x,e2,hx⟩:=h.get e
   rw[c7,c7,e,e2]
   exact hx
end L3
namespace L3
open PySem PySem.Spec L2 L5
section
variable {M:Mem}{Q:br}
theorem Dl{i j:Int}(q:Q (.bl (decide (i=j))) M):nu false (.int i) (.int j) M Q:=.inl (HL q)
theorem Dm{i j:Bool}(q:Q (.bl (decide (i=j))) M):nu false (.bl i) (.bl j) M Q:=.inl (HM q)
theorem Dk{i j:Str}(q:Q (.bl (decide (i=j))) M):nu false (.str i) (.str j) M Q:=.inl (HK q)
theorem C5{i j:Int}(q:Q (.bl (!decide (i=j))) M):nu true (.int i) (.int j) M Q:=.inl (Hu q)
theorem C6{i j:Bool}(q:Q (.bl (!decide (i=j))) M):nu true (.bl i) (.bl j) M Q:=.inl (Hv q)
theorem zx{i j:Int}(h:qE i j)(q:Q (.int (i*j)) M):wA (.int i) (.int j) M Q:=.inl (C_ h q)
theorem zw{i:Str}{j:Int}(h:MulOk i j)(q:Q (.str (Txt.mul i j)) M):wA (.str i) (.int j) M Q:=.inl (C9 h q)
theorem Hx{i j:Int}(q:Q (.int (if j < i then j else i)) M):NF [.int i,.int j] M Q:=⟨i,j,rfl,q⟩
theorem vC{ns:List Int}(q:Q (.int ns.sum) M):NA [.tup (ns.map D.int)] M Q:=⟨_,_,ns,rfl,rfl,rfl,q⟩
theorem zI{p:Addr}{ds:List D}{y:D}(h:M p=some (.lst ds))(hz:ds.length < sizeLine)(q:Q .aZ (aK M p (.lst (ds++[y])))):wB (.ref p) [y] M Q:=⟨p,ds,y,rfl,rfl,h,hz,q⟩
abbrev row(ns:List Int):D:=.tup (ns.map D.int)
theorem toPs_ints:∀ns:List Int,toPs (ns.map D.int)=ns.map PyData.int
 |[]=>rfl
 |n::ns=>by rw[y0];unfold toPs;rw[toPs_ints ns];unfold toP;rfl
theorem rC:∀ns:List Int,pV (ns.map D.int)=true
 |[]=>rfl
 |n::ns=>by rw[y0];unfold pV;rw[rC ns];rfl
theorem CS{i j:Nat}{a b:D}{δ:cZ}{N:cZ->Mem->Prop}(h:N ((δ.set i (some a)).set j (some b)) M):J7 2 (wm (hName i) (wm (hName j) J8)) (.tup [a,b]) δ M N:=⟨rfl,h⟩
theorem zB{A B:Prop}(h:B):if(!true)=true then A else B:=by rw[Bool.not_true,A4 l7];exact h
theorem zC{A B:Prop}(h:A):if(!false)=true then A else B:=by rw[Bool.not_false,A3 rfl];exact h
theorem zt{c:eU}{tb:fP}{E:dq}{δ:cZ}(h:∃W:Nat->cZ->Mem->Prop,(∃m,W m δ M)/\∀m δ M,W m δ M->c δ M λ b M1=>
  if b=true then ∃N:cZ->Mem->Prop,(∀δ' M',N δ' M'->∃m',m' < m/\W m' δ' M')/\tb {E with nx:=N,ct:=N,bk:=E.nx} δ M1 else E.nx δ M1):ud c tb E δ M:=h
theorem NW{g:gA}{tt:eU}{te:bV}{δc:cZ}{M1:Mem}{Qe:List D->Mem->Prop}{a:Addr}{ds:List D}(Pv:Nat->List D->Mem->Prop)(h0:Pv 0 [] M1)(hl:∀i acc M,i<=ds.length->Pv i acc M->M a=some (.lst ds))(hz:∀i acc M,i<=ds.length->Pv i acc M->acc.length<=sizeLine)
  (hs:∀i d acc M,ds[i]?=some d->Pv i acc M->g d δc M λ δ2 M2=>tt δ2 M2 λ b M3=>if b=true then te δ2 M3 λ y M4=>Pv (i+1) (acc++[y]) M4 else Pv (i+1) acc M3)
  (hd:∀acc M,Pv ds.length acc M->Qe acc M):
  ∃(B:Nat) (W:Nat->List D->Mem->Prop),W 0 [] M1/\∀i acc M,W i acc M->i<=B/\acc.length<=sizeLine/\match items (.at a) M with
   |none=>False
   |some ds=>match ds[i]? with
    |none=>i=ds.length/\Qe acc M
    |some d=>g d δc M λ δ2 M2=>tt δ2 M2 λ b M3=>if b=true then te δ2 M3 λ y M4=>W (i+1) (acc++[y]) M4 else W (i+1) acc M3:=by
 refine⟨ds.length,λ i acc M=>if i<=ds.length then Pv i acc M else False,by dsimp only;rw[A3 (z4 _)];exact h0,?_⟩
 intro i acc M w
 by_cases hi:i<=ds.length
 ·rw[A3 hi]at w
  refine⟨hi,hz i acc M hi w,?_⟩
  have e0:items (.at a) M=some ds:=by
   show(match M a with|some (.lst ds)=>some ds|_=>none)=some ds
   rw[hl i acc M hi w]
  rw[e0]
  show(match ds[i]? with
    |none=>i=ds.length/\Qe acc M
    |some d=>g d δc M λ δ2 M2=>tt δ2 M2 λ b M3=>if b=true then te δ2 M3 λ y M4=>(if i+1<=ds.length then Pv (i+1) (acc++[y]) M4 else False)else(if i+1<=ds.length then Pv (i+1) acc M3 else False))
  cases e:ds[i]? with
  |none=>
   have:i=ds.length:=Nat.le_antisymm hi (i0.mp e)
   subst this
   exact⟨rfl,hd acc M w⟩
  |some d=>
   have mU:i+1<=ds.length:=(g9.mp e).1
   simp only[A3 mU]
   exact hs i d acc M e w
 ·rw[A4 hi]at w
  exact w.elim
theorem xq{a:Addr}{ns:List Int}{i:Int}(ha:M a=some (.lst (ns.map D.int)))(q:Q (.int (ns.count i:Nat)) M):BV (.ref a) [.int i] M Q:=by
 refine⟨a,_,_,rfl,rfl,ha,rC ns,rfl,by rw[toPs_ints];exact PySem.W.ke_canLayAll0 ns,by simp[toP,PyData.canLay0],by simp[toP,PyData.depth],?_⟩
 have e:(ns.map D.int).countP (λ d=>PyData.eqv (toP d) (toP (.int i)))=ns.count i:=by
  rw[countP_map,count_eq_countP]
  refine countP_congr λ x _=>?_
  show PyData.eqv (toP (.int x)) (toP (.int i))=true↔_
  simp[toP,PyData.eqv]
 rw[e]
 exact q
end
end L3
namespace L5
open PySem
theorem pX:typeLookup (.type "list") "keys"=pure none:=by rw[typeLookup_type,builtinLookup_eq_fast];kernel_rfl
theorem Ei{prog:Program}{w:World}{A:Around}{E:Value->Shared->Prop}{s:Shared}{a:Addr}{xs:Array Value}{k:Nat}{sl:Array (Option Value)}{Q:Option Value->Shared->Prop}(hx:s.heap.get? a=some {cls:=.type "list",dict:=none,data:=.seq xs k,slots:=sl})(hA:A.handled=none)
  (h:∀h' tk,(∀b o,s.heap.get? b=some o->h'.get? b=some o)->Q none {s with heap:=h',toks:=tk}):wpAny (model prog w) A (getAttr? (.ref a) "keys") Q E s:=by
 obtain⟨hp,g,d,tk,os⟩:=s
 have ty:∀vo,(⟨hp,g,d,vo,os⟩:Shared).TypeIs (.ref a) "list":=λ _=>⟨_,hx,rfl⟩
 have f1:=sub_AttributeError
 have f3:=F.slot_list_getattribute.lookup
 have f4:=F.slot_list_getattribute.bind (.ref a)
 have f5:=am_list_getattr_none
 unfold getAttr? getAttrBy? getAttrBy
 repeat(any_goals (first|assumption|exact ty _|((with_reducible show wpAny _ _ (call (Value.builtin "list.__getattribute__") _ _) _ _ _);refine z8 F.slot_list_getattribute (ty _) am_entry_list_getattribute (F.args_list_getattribute_2 _ _) (meets_getattribute_miss_list a xs k sl _ _ pX (by decide+kernel) (by decide+kernel)) ⟨hx,hA,λ h' vo e JM=>?_⟩)|wp_step))
 obtain⟨t',u',he⟩:=JM.there
 show wpAny _ _ (getattributeRaised _ _ _ _ _ _ _) _ _ _
 unfold getattributeRaised
 repeat(any_goals (first|assumption|wp_step))
 exact h _ _ JM.keeps
end L5
namespace L5
open PySem
theorem sF:entryFor table "dict.update.loop"=some Builtin.«dict.update.loop»:=entryFor_of_tree (by kernel_rfl)
theorem ky:plainId "dict.update.loop"=true:=by decide+kernel
section
variable {prog:Program}{w:World}{A:Around}{R:Result->Shared->Prop}
abbrev TK(prog:Program)(w:World):HeapKind prog w (List L2.Key):=tupleKind (L2.b_ prog w)
abbrev Ent:=List L2.Key×Addr×Value
theorem tW{h:Heap}{k:List L2.Key}{a:Addr}(x:(TK prog w).is h k a):∃o,h.get? a=some o/\o.cls=.type "tuple":=let⟨o,au,n,h1,h2,h3,h4⟩:=x;⟨o,h1,h2⟩
theorem px{h h':Heap}{k:List L2.Key}{a:Addr}(x:(TK prog w).is h k a)(q:∀o,h.get? a=some o->h'.get? a=some o):(TK prog w).is h' k a:=let⟨o,au,n,h1,h2,h3,h4⟩:=x;⟨o,au,n,q o h1,h2,h3,h4⟩
structure ju(prog:Program)(w:World)(h:Heap)(u:Value)(p:Ent):Prop where
 ex:∃t,u=.ref t/\h.IsTuple t #[.ref p.2.1,p.2.2]
 key:(TK prog w).is h p.1 p.2.1
def mP(h h':Heap):Prop:=∀b o,o.cls=.type "tuple"->h.get? b=some o->h'.get? b=some o
theorem ju.dU {h h':Heap}{u:Value}{p:Ent}(x:ju prog w h u p)(q:mP h h'):ju prog w h' u p:=by
 obtain⟨⟨t,rfl,o,ho,hc,n,hd⟩,key⟩:=x
 obtain⟨oa,h1,h2⟩:=tW key
 exact⟨⟨t,rfl,o,q t o hc ho,hc,n,hd⟩,px key λ o' e=>by rw[h1]at e;cases e;exact q _ _ h2 h1⟩
def putAll(xs:List Ent)(ps:List Ent):List Ent:=ps.foldl (λ xs p=>storedH xs p.1 p.2.1 p.2.2) xs
theorem jB(xs:List Ent)(p:Ent):(storedH xs p.1 p.2.1 p.2.2).length<=xs.length+1:=by
 unfold storedH
 split
 ·simp
 ·simp
theorem uq(hu:A.in1.units < cLine)(hA:A.handled=none)(d it l:Addr)(Rj:d≠it)(Ue:l≠it)(Ug:l≠d)(au:List Value)(ps:List Ent)(hlen:au.length=ps.length)(MW:ps.length<=1000):
  ∀(k i:Nat) (s:Shared) (xs:List Ent),ps.length - i=k->i<=ps.length->xs.length<=i->s.heap.IsListIter it l i->s.heap.IsList l au.toArray->s.heap.DictOfH (TK prog w) d xs->
   (∀(j:Nat) (u:Value) (p:Ent),au[j]?=some u->ps[j]?=some p->ju prog w s.heap u p)->
   (∀h' tk,(∀b o,b≠d->b≠it->s.heap.get? b=some o->h'.get? b=some o)->h'.DictOfH (TK prog w) d (putAll xs (ps.drop i))->R (.ok (.ret .none)) {s with heap:=h',toks:=tk})->
   codeAny (model prog w) A (.builtin "dict.update.loop" ⟨[.ref d,.ref it,rawInt i,.none],[]⟩) R s:=by
 intro k
 induction k with
 |zero=>
  intro i s xs hk hi Qz hit hl hd hp hR
  have e:i=ps.length:=by omega
  subst e
  refine v8 sF ?_
  rw[k7 ky _]
  refine z6 (m:=pyNext (.ref it)) (wpAny_pyNext_list_end (show A.in1.handled=none from hA) hit hl (by simp;omega) λ h' eb=>?_)
  refine z6 (m:=Builtin.Dict.addKeywords d []) (z7 (z7 ?_))
  refine hR h' s.toks (λ b o _ n2 q=>eb b o n2 q) ?_
  rw[drop_length]
  obtain⟨o,es,ep,ho,r1,r2,r3,r4,r5⟩:=hd
  refine⟨o,es,ep,eb d o Rj ho,r1,r2,r3,λ x hx=>?_,r5⟩
  obtain⟨oa,h1,h2⟩:=tW (r4 x hx)
  refine px (r4 x hx) λ o' e=>eb _ _ (λ z=>?_) e
  rw[z]at h1
  obtain⟨oi,g1,g2,_⟩:=hit
  rw[g1]at h1
  cases h1
  rw[g2]at h2
  exact absurd h2 (by decide)
 |succ k ih=>
  intro i s xs hk hi Qz hit hl hd hp hR
  have mU:i < ps.length:=by omega
  have e1:au[i]?=some au[i]:=i4 (by omega)
  have e2:ps[i]?=some ps[i]:=i4 mU
  refine v8 sF ?_
  rw[k7 ky _]
  refine z6 (m:=pyNext (.ref it)) (wpAny_pyNext_list_item hit hl (x:=au[i]) (by simpa using e1) λ g1 Tz s1=>?_)
  have Pf:mP s.heap g1:=λ b o hc e=>s1.extBut _ _ (λ z=>by
   rw[z]at e
   obtain⟨oi,q1,q2,_⟩:=hit
   rw[q1]at e
   cases e
   rw[hc]at q2
   exact absurd q2 (by decide)) e
  obtain⟨⟨t,et,⟨ct,dt,da,st⟩,ho,hc,n,sh⟩,key⟩:=(hp i _ _ e1 e2).dU Pf
  cases(show ct=.type "tuple" from hc)
  cases(show da=_ from sh)
  have Uj:g1.IsList l au.toArray:=hl.at λ o e=>s1.extBut _ _ Ue e
  have Su:g1.DictOfH (TK prog w) d xs:=by
   obtain⟨o,es,ep,ho,r1,r2,r3,r4,r5⟩:=hd
   refine⟨o,es,ep,s1.extBut _ _ Rj ho,r1,r2,r3,λ x hx=>?_,r5⟩
   obtain⟨oa,h1,h2⟩:=tW (r4 x hx)
   exact px (r4 x hx) λ o' e=>by rw[h1]at e;cases e;exact Pf _ _ h2 h1
  rw[et]
  refine z6 (x5 (z6 (wpAny_tryCatch ?_)))
  unfold Builtin.Dict.pairItems
  refine z6 (wpAny_typeOf (T:="tuple") ⟨_,ho,rfl⟩ ?_)
  rw[A3 (by decide)]
  refine z6 (wpAny_seqItems ho rfl (z7 ?_))
  show wpAny _ A.in1 (holding [Value.ref ps[i].2.1,ps[i].2.2] (dictSet d (.ref ps[i].2.1) ps[i].2.2)) _ _ _
  refine x5 (wpAny_dictSet_heap (s:={s with heap:=g1}) (knd:=TK prog w) hu key Su (λ g2 d2 s2=>?_) (y8 (show xs.length<=1000 by omega) (by decide)))
  refine z7 ⟨y2 ky _,?_⟩
  have od:∃o,g1.get? d=some o/\o.cls=.type "dict":=by
   obtain⟨o,es,ep,ho,r1,_⟩:=Su
   exact⟨o,ho,r1.1⟩
  have S3:mP g1 g2:=λ b o hc e=>s2.extBut _ _ (λ z=>by
   rw[z]at e
   obtain⟨oi,q1,q2⟩:=od
   rw[q1]at e
   cases e
   rw[hc]at q2
   exact absurd q2 (by decide)) e
  have UB:((i:Int)+1)=((i+1:Nat):Int):=by push_cast;rfl
  show codeAny (model prog w) A (.builtin "dict.update.loop" ⟨[.ref d,.ref it,rawInt ((i:Int)+1),.none],[]⟩) R _
  rw[UB]
  refine ih (i+1) _ (storedH xs ps[i].1 ps[i].2.1 ps[i].2.2) (by omega) mU ?_ (Tz.at λ o e=>s2.extBut _ _ (A2 Rj) e) (Uj.at λ o e=>s2.extBut _ _ Ug e) d2 (λ j u p h1 h2=>((hp j u p h1 h2).dU Pf).dU S3) λ h' tk E1 fM=>?_
  ·have:=jB xs ps[i]
   omega
  ·refine hR h' tk (λ b o n1 n2 e=>E1 b o n1 n2 (s2.extBut _ _ n1 (s1.extBut _ _ n2 e))) ?_
   rw[g8 mU]
   exact fM
end
end L5
namespace L5
open PySem PySem.W PySem.Calls PyProof.Rows
section
variable {prog:Program}{w:World}{A:Around}{E:Value->Shared->Prop}{s:Shared}
theorem Ep{l:Addr}{au:List Value}{ps:List Ent}{Q:Value->Shared->Prop}(hu:A.units+2 < cLine)(hA:A.handled=none)(hl:s.heap.IsList l au.toArray)(hpl:∃o,s.heap.get? l=some o/\o.dict=none)(hlen:au.length=ps.length)(MW:ps.length<=1000)
  (hp:∀(j:Nat) (u:Value) (p:Ent),au[j]?=some u->ps[j]?=some p->ju prog w s.heap u p)
  (h:∀h' tk,(∀b o,s.heap.get? b=some o->h'.get? b=some o)->h'.DictOfH (TK prog w) s.heap.objs.size (putAll [] ps)->s.heap.objs.size < h'.objs.size->Q (.ref s.heap.objs.size) {s with heap:=h',toks:=tk}):
  wpAny (model prog w) A (call (.type "dict") [.ref l]) Q E s:=by
 refine callType_codes (Q₁:=λ obj s₁=>obj=.ref s.heap.objs.size/\s₁={s with heap:=s.heap.push {cls:=.type "dict",data:=.dict #[]}}) F.kt_called_dict (F.kt_typeCall_dict_1 _) F.entry_dict_init (kt_code_dict_new _ ⟨rfl,rfl⟩) ?_
 rintro obj s1 ⟨rfl,rfl⟩
 have new:(s.heap.push {cls:=.type "dict",data:=.dict #[]}).DictOfH (TK prog w) s.heap.objs.size []:=Heap.DictOfH.new s.heap
 refine⟨new.typeIs,F.args_dict_init_2 _ _,?_⟩
 unfold Builtin.«dict.__init__»
 refine z6 ?_
 unfold Builtin.Dict.selfAndRest
 refine z6 (wpAny_notOrdered_dict new.typeIs ?_)
 refine z7 (a:=(s.heap.objs.size,[Value.ref l])) ?_
 obtain⟨ob,MQ,Uv⟩:=hpl
 obtain⟨⟨c,dd,da,sl⟩,ho,hc,n,sh⟩:=id hl
 rw[ho]at MQ
 cases MQ
 cases(show c=.type "list" from hc)
 cases(show da=.seq au.toArray n from sh)
 cases(show dd=none from Uv)
 have Bo:(s.heap.push {cls:=.type "dict",data:=.dict #[]}).get? l=some {cls:=.type "list",dict:=none,data:=.seq au.toArray n,slots:=sl}:=j1 _ ho
 show wpAny _ _ (Builtin.Dict.updateFrom "dict.__init__" s.heap.objs.size (.ref l) [] .none) _ _ _
 unfold Builtin.Dict.updateFrom
 refine z6 (wpAny_typeOf (T:="list") ⟨_,Bo,rfl⟩ ?_)
 rw[A3 (by decide)]
 refine z6 (Ei (s:={s with heap:=s.heap.push {cls:=.type "dict",data:=.dict #[]}}) Bo (show A.in1.handled=none from hA) λ g tk gk=>?_)
 rw[A3 (by rfl)]
 have k0:∀b o,s.heap.get? b=some o->g.get? b=some o:=λ b o e=>gk b o (j1 _ e)
 have Sm:g.IsList l au.toArray:=hl.at λ o e=>k0 l o e
 have dg:g.DictOfH (TK prog w) s.heap.objs.size []:=by
  obtain⟨o,es,ep,h1,r⟩:=new
  exact⟨o,es,ep,gk _ _ h1,r.1,r.2.1,r.2.2.1,λ x hx=>absurd hx (by simp),r.2.2.2.2⟩
 have RD:s.heap.objs.size < g.objs.size:=by obtain⟨o,es,ep,h1,_⟩:=dg;exact y4 h1
 refine z6 (wpAny_rule (z6 (o8 (s:={s with heap:=g,toks:=tk}) Sm ?_)))
 refine z7 ⟨y2 ky _,?_⟩
 have up:∀b o,g.get? b=some o->(g.push {cls:=.type "list_iterator",data:=.fields #[.ref l,.int 0 0]}).get? b=some o:=λ b o e=>j1 _ e
 have eG:l≠s.heap.objs.size:=y3 (y4 ho)
 have mU:l < g.objs.size:=Nat.lt_trans (y4 ho) RD
 refine uq (prog:=prog) (w:=w) (A:=A.in1) (by show A.units+1+1 < cLine;omega) (show A.in1.handled=none from hA) s.heap.objs.size g.objs.size l (y3 RD) (y3 mU) eG au ps hlen MW _ 0 {s with heap:=g.push {cls:=.type "list_iterator",data:=.fields #[.ref l,.int 0 0]},toks:=tk} [] rfl (z4 _) (y9 _) ⟨_,l5 _ rfl,rfl,rfl⟩ (Sm.at λ o e=>up l o e) ?_ ?_ ?_
 ·obtain⟨o,es,ep,h1,r⟩:=dg
  exact⟨o,es,ep,up _ _ h1,r.1,r.2.1,r.2.2.1,λ x hx=>absurd hx (by simp),r.2.2.2.2⟩
 ·intro j u p e1 e2
  exact(hp j u p e1 e2).dU λ b o _ e=>up b o (k0 b o e)
 ·intro h' vo E1 fM
  have Q8:s.heap.objs.size < h'.objs.size:=by obtain⟨o,es,ep,h1,_⟩:=fM;exact y4 h1
  refine⟨rfl,h h' vo (λ b o e=>E1 b o (y3 (y4 e)) (y3 (Nat.lt_trans (y4 e) RD)) (up b o (k0 b o e))) fM Q8⟩
end
end L5
namespace L5
open PySem PySem.W PySem.Calls PyProof.Rows
def Raw(g:Heap)(d:Addr)(es:Array DictEntry)(ep:Nat):Prop:=∃b,g.get? d=some b/\b.ExactDict/\b.data=.dict es ep
theorem Raw.to {g g':Heap}{d:Addr}{es:Array DictEntry}{ep:Nat}(x:Raw g d es ep)(q:∀b,g.get? d=some b->g'.get? d=some b):Raw g' d es ep:=let⟨b,h1,h2⟩:=x;⟨b,q b h1,h2⟩
theorem Raw.ty {s:Shared}{d:Addr}{es:Array DictEntry}{ep:Nat}(x:Raw s.heap d es ep):s.TypeIs (.ref d) "dict":=let⟨b,h1,h2,_⟩:=x;⟨b,h1,h2.1⟩
theorem Raw.lt {g:Heap}{d:Addr}{es:Array DictEntry}{ep:Nat}(x:Raw g d es ep):d < g.objs.size:=let⟨b,h1,_⟩:=x;y4 h1
section
variable {prog:Program}{w:World}{A:Around}{E:Value->Shared->Prop}{s:Shared}
theorem zL{d:Addr}{es:Array DictEntry}{ep:Nat}{Q:Value->Shared->Prop}(nd:(d==sysModules)=false)(x:Raw s.heap d es ep)
  (fin:Q (.ref s.heap.objs.size) {s with heap:=s.heap.push {cls:=.type "dict_keyiterator",data:=.fields #[.ref d,.int 0 0,.int es.size 0,.int ep 0]}}):wpAny (model prog w) A (pyIter (.ref d)) Q E s:=by
 obtain⟨b,hb,xb,db⟩:=id x
 refine wpAny_pyIter_slot x.ty F.slot_dict_iter (q8 F.slot_dict_iter x.ty F.entry_dict_iter ?_ (F.args_dict_iter_1 _))
 unfold Builtin.«dict.__iter__»
 refine z6 ?_
 unfold Builtin.Dict.dictSlotNone
 refine z6 (wpAny_notOrdered_dict x.ty ?_)
 refine z7 (a:=Value.ref d) ?_
 show wpAny (model prog w) _ (Builtin.Dict.showsAll d >>= _) _ _ s
 unfold Builtin.Dict.showsAll
 rw[A4 (by simp[nd])]
 refine z6 (z7 (z6 (wpAny_dictEntries hb db (z6 (wpAny_dictEpoch hb db ?_)))))
 refine z6 (n6 (z7 ⟨_,rfl,"dict_keyiterator",_,⟨_,l5 _ rfl,rfl⟩,a9.lookup,?_⟩))
 simpa[rawInt]using fin
theorem rh{it d:Addr}{i n ep:Nat}{es:Array DictEntry}{Q:Option Value->Shared->Prop}(ki:s.heap.IsKeyIter it d i n ep)(x:Raw s.heap d es ep)(en:n=es.size)
  (hi:∀e:DictEntry,es[i]?=some e->∀g,g.IsKeyIter it d (i+1) n ep->Heap.SameBut it s.heap g->Q (some e.key) {s with heap:=g})
  (hn:A.handled=none) (he:es[i]?=none->∀g,Heap.ExtBut it s.heap g->Q none {s with heap:=g}):wpAny (model prog w) A (pyNext (.ref it)) Q E s:=by
 subst en
 obtain⟨oi,gi,ci,di⟩:=id ki
 obtain⟨b,hb,xb,db⟩:=id x
 unfold pyNext
 refine z6 (x6 (i7 (name:=Str.ofString "__next__") ki.typeIs a9
  (q8 a9 ki.typeIs F.entry_dict_keyiterator_next ?_ (F.args_dict_keyiterator_next_1 _))))
 refine z6 (z7 (z6 (z6 ?_)))
 first|refine z6 (a8 ki.typeIs (z7 ?_))|refine z6 (wpAny_typeNameOf_keyiter ki.typeIs (z7 ?_))
 refine z6 (wpAny_fieldsOf gi di ?_)
 have own:Builtin.Dict_items.ownsTuple "dict_keyiterator"=false:=rfl
 simp only[own,A0,l9]
 show wpAny (model prog w) _ (if(Value.ref d==Value.none)=true then _ else _) _ _ s
 rw[A4 (by exact l7)]
 refine z6 (z7 (z6 (wpAny_dictEntries hb db ?_)))
 rw[A4 (by simp)]
 refine z6 (z7 (z6 (wpAny_dictEpoch hb db ?_)))
 rw[A4 (by simp)]
 refine z7 ?_
 have nn:¬((i:Int) < 0):=by omega
 by_cases lt:i < es.size
 ·simp only[nn,A0,n5,c9 lt]
  refine z6 ?_
  first|refine z6 (a8 ki.typeIs (z7 ?_))|refine z6 (wpAny_typeNameOf_keyiter ki.typeIs (z7 ?_))
  refine z6 (wpAny_isOneOf_keyiter ki.typeIs ?_)
  show wpAny (model prog w) _ (setField (.ref it) 1 (rawInt ((i:Int)+1)) >>= _) _ _ s
  refine z6 (wpAny_setField gi di (by simp) ?_)
  have k2:(s.heap.update it (Obj.mapFields (·.setIfInBounds 1 (rawInt ((i:Int)+1))))).IsKeyIter it d (i+1) es.size ep:=
   ⟨_,j3 _ gi (Obj.isFreed_of_fields (Obj.data_mapFields di _)),(Obj.cls_mapFields ..).trans ci,by rw[Obj.data_mapFields di];simp[rawInt]⟩
  refine z6 (x5 (z6 (wpAny_isOneOf_keyiter (s:={s with heap:=s.heap.update it (Obj.mapFields (·.setIfInBounds 1 (rawInt ((i:Int)+1))))}) k2.typeIs ?_)))
  show wpAny (model prog w) _ (pure es[i].key) _ _ _
  exact z7 (z7 ⟨_,rfl,z7 (hi _ (c9 lt) _ k2 (k8 ..))⟩)
 ·have ge:es.size<=i:=p7 lt
  simp only[nn,A0,n5,j0 ge]
  refine z6 ?_
  first|refine z6 (a8 ki.typeIs (z7 ?_))|refine z6 (wpAny_typeNameOf_keyiter ki.typeIs (z7 ?_))
  show wpAny (model prog w) _ (setField (.ref it) 0 .none >>= _) _ _ s
  refine z6 (wpAny_setField gi di (by simp) ?_)
  show wpAny (model prog w) _ (newExc (.type "StopIteration") [] >>= _) _ _ _
  refine z6 ?_
  simp only[newTuple,newExc]
  refine z6 (n6 ?_ (by size_fits))
  refine z6 (m:=firstArgMember _ _) (wpAny_of_eq (a:=Value.none) (by first|rfl|(simp only[firstArgMember];rfl)) (n6 ?_ (by size_fits)))
  simp only[raiseNew]
  refine z6 (wpAny_handled ?_)
  rw[show A.in1.handled=none from hn]
  refine z6 (z7 (wpAny_throw ?_))
  refine z6 (wpAny_isInstance (b:=true) (T:="StopIteration") ⟨_,l5 _ rfl,rfl⟩ isSubtype_stop ?_)
  exact z7 (he (j0 ge) _ (((k8 ..).extBut.push _).push _))
theorem zK(hn:A.handled=none)(I d:Addr)(ne:d≠I)(es:Array DictEntry)(ep:Nat):
  Walks prog w A I [I,d] [I] es.size (λ i v=>∃e,es[i]?=some e/\v=e.key) (λ i g=>g.IsKeyIter I d i es.size ep/\Raw g d es ep) where
 sub:=λ b m=>by simp at m;simp[m]
 frame:=λ _ _ _ st k=>⟨st.1.at λ o e=>k I (by simp) o e,st.2.to λ o e=>k d (by simp) o e⟩
 item:=λ i s Q E lt st fin=>rh st.1 st.2 rfl (λ e ee g k2 sb=>fin e.key g s.toks ⟨e,ee,rfl⟩ ⟨k2,st.2.to λ o q=>sb.extBut d o ne q⟩ λ b o m q=>sb.extBut b o (λ z=>m (by simp[z])) q) hn λ e=>absurd e (by rw[c9 lt];exact λ z=>nomatch z)
 done:=λ s Q E st fin=>rh st.1 st.2 rfl (λ e ee=>absurd ee (by rw[j0 (y9 _)];exact λ z=>nomatch z)) hn λ _ g sb=>fin g s.toks λ b o m q=>sb b o (λ z=>m (by simp[z])) q
 self:=λ _ _ _ _ st fin=>wpAny_pyIter_keyiter st.1 fin
theorem Dy{d:Addr}{es:Array DictEntry}{ep:Nat}(nd:(d==sysModules)=false):KdlSrc prog w "dict" d d es.size (λ i v=>∃e,es[i]?=some e/\v=e.key) (λ g=>Raw g d es ep) where
 type:=λ _ x=>x.ty
 there:=λ _ x=>⟨x.lt,x.lt⟩
 keep:=λ _ _ x k=>x.to λ o e=>k d (.inl rfl) o e
 notList:=by decide
 notTuple:=by decide
 hint:=λ _ _ _ _ x q=>kdl_hint_dict x.ty q
 iter:=λ _ _ hn x=>⟨_,_,(λ _ _ q=>zL nd x q),zK hn _ d (y3 x.lt) es ep,⟨⟨_,l5 _ rfl,rfl,rfl⟩,x.to λ o e=>j1 _ e⟩⟩
theorem xr{es:Array DictEntry}{acc:Array Value}(it:ItemsOf (λ i v=>∃e,es[i]?=some e/\v=e.key) acc es.size):acc.toList=es.toList.map (·.key):=by
 apply ext_getElem?
 intro i
 by_cases lt:i < acc.size
 ·have le:i < es.size:=by rw[<- it.1];exact lt
  obtain⟨e,e1,e2⟩:=it.2 i acc[i] (c9 lt)
  rw[j6,c9 lt,n0,j6,e1,e2]
  rfl
 ·have le:¬i < es.size:=by rw[<- it.1];exact lt
  rw[j6,j0 (p7 lt),n0,j6,j0 (p7 le)]
  rfl
theorem sX{d:Addr}{es:Array DictEntry}{ep:Nat}{R:List Value->Shared->Prop}(nd:(d==sysModules)=false)(hn:A.handled=none)(x:Raw s.heap d es ep)(hz:es.size<=sizeLine)
  (h:∀g tk,(∀b o,s.heap.get? b=some o->g.get? b=some o)->R (es.toList.map (·.key)) {s with heap:=g,toks:=tk}):wpAny (model prog w) A (collect (.ref d)) R E s:=by
 refine kdu_collect (Dy nd) hn x hz λ g tk acc k it=>?_
 have e:=xr it
 rw[e]
 exact h g tk k
end
end L5
namespace L5
open PySem PySem.W PySem.Calls PyProof.Rows
section
variable {prog:Program}{w:World}{A:Around}{E:Value->Shared->Prop}{s:Shared}
theorem CL{d q:Addr}{es:Array DictEntry}{ep:Nat}{Q:Value->Shared->Prop}(nd:(d==sysModules)=false)(hn:A.handled=none)(x:Raw s.heap d es ep)(Co:es.size < 64)
  (h:∀(Dd kS:Addr) (g0 g:Heap) (tk e1:Nat),(∀b o,s.heap.get? b=some o->g0.get? b=some o)->Dd≠kS->g0.objs.size<=Dd->g0.objs.size<=kS->g.get? Dd=some (seqObj "list" #[] e1)->g.get? kS=some (seqObj "list" #[] 0)->(∀b o,s.heap.get? b=some o->g.get? b=some o)->
   wpAny (model prog w) A.in1.in1 (ksk_rest Dd (.ref q) false (es.toList.map (·.key)).toArray e1 (.ref kS)) (λ f s'=>f=.done (.ret .none)/\Q (.ref Dd) s') E {s with heap:=g,toks:=tk}):
  wpAny (model prog w) A (call (.builtin "sorted") [.ref d] [(Str.ofString "key",.ref q)]) Q E s:=by
 refine call_function_entry_kw kind_sorted plain_sorted entry_sorted (ksk_s1 _ _) ?_
 unfold Builtin.«sorted»
 have hlen:(es.toList.map (·.key)).length=es.size:=by simp
 refine z6 (m:=checkCount "sorted" 1 1 _) (z7 (z6 (sX nd (show A.in1.handled=none from hn) x (by rw[z0];omega) λ g tk gk=>z6 (wpAny_newList ?_ (by rw[hlen,z0];omega)))))
 generalize Se:es.toList.map (·.key)=vs at*
 have Q5:g.objs.size≠g.objs.size+2:=by omega
 have g1:(g.push (seqObj "list" vs.toArray 0)).get? g.objs.size=some (seqObj "list" vs.toArray 0):=l5 _ rfl
 refine z6 (x5 (wpAny_call_entry_kw slot_list_sort ⟨_,g1,rfl⟩ entry_list_sort ?body (ksk_l1 _ _)))
 case body=>
  show wpAny (model prog w) A.in1.in1 (Builtin.«list.sort» ⟨[.ref g.objs.size],[(Str.ofString "key",.ref q)]⟩) _ _ _
  rw[ksk_t1]
  unfold ksk_tree
  generalize hH:g.push (seqObj "list" vs.toArray 0)=H at*
  have eH:H.objs.size=g.objs.size+1:=by rw[<- hH,size_push']
  obtain⟨c1,o1⟩:∃c1,(H.update g.objs.size (Obj.mapSeq λ _=>(#[]:Array Value))).get? g.objs.size=some (seqObj "list" #[] c1):=⟨_,get?_update_seq g1 λ _=>#[]⟩
  refine z6 (listItems_at g1 rfl (z6 (listUpdate_at g1 rfl (z6 (seqEpoch_at o1 rfl (z6 (wpAny_newTuple (z6 (wpAny_newList (x5 ?_) (z4 _))) (by show vs.length<=_;rw[z0];omega))))) (by rw[p4,z0];omega) (z4 _))))
  have e2:(H.update g.objs.size (Obj.mapSeq λ _=>(#[]:Array Value))).objs.size=g.objs.size+1:=by rw[Heap.size_update,eH]
  have e3:((H.update g.objs.size (Obj.mapSeq λ _=>(#[]:Array Value))).push (seqObj "tuple" vs.toArray 0)).objs.size=g.objs.size+2:=by rw[size_push',e2]
  have g3:(((H.update g.objs.size (Obj.mapSeq λ _=>(#[]:Array Value))).push (seqObj "tuple" vs.toArray 0)).push (seqObj "list" #[] 0)).get? (g.objs.size+2)=some (seqObj "list" #[] 0):=by rw[<- e3];exact l5 _ rfl
  show wpAny (model prog w) A.in1.in1 (ksk_rest g.objs.size (.ref q) false vs.toArray c1 (.ref ((H.update g.objs.size (Obj.mapSeq λ _=>(#[]:Array Value))).push (seqObj "tuple" vs.toArray 0)).objs.size)) _ _ {s with heap:=((H.update g.objs.size (Obj.mapSeq λ _=>(#[]:Array Value))).push (seqObj "tuple" vs.toArray 0)).push (seqObj "list" #[] 0),toks:=tk}
  rw[e3]
  refine z9 (h g.objs.size (g.objs.size+2) g _ tk c1 gk Q5 (y9 _) (Nat.le_add_right _ _) (j1 _ (j1 _ o1)) g3 λ b o y=>j1 _ (j1 _ (by
   have hb:b < g.objs.size:=y4 (gk b o y)
   rw[Heap.get?_update_ne _ _ _ _ (y3 hb),<- hH];exact j1 _ (gk b o y)))) (λ f s' hf=>?_) λ _ _ z=>z
  obtain⟨rfl,hq⟩:=hf
  exact⟨_,rfl,z7 ⟨_,rfl,hq⟩⟩
end
end L5
namespace L2
open PySem PySem.Spec PyProof.Rows L5 PySem.W
section
variable {X:Cx}{pins:List (Addr×Obj)}{σ:St}{H:Hp}{s:Shared}
variable {k:Nat}{q:Addr}{fd:FuncData}{ps:List Str}{sp:Sp}
def Goes(X:Cx)(q l:Addr)(au:List Value)(s:Shared):Prop:=∀(Q:Value->Shared->Prop),
 (∀(Dd kS:Addr) (g0 g:Heap) (tk e1:Nat),(∀b o,s.heap.get? b=some o->g0.get? b=some o)->Dd≠kS->g0.objs.size<=Dd->g0.objs.size<=kS->g.get? Dd=some (seqObj "list" #[] e1)->g.get? kS=some (seqObj "list" #[] 0)->(∀b o,s.heap.get? b=some o->g.get? b=some o)->
  wpAny (model X.prog X.w) X.A.in1.in1 (ksk_rest Dd (.ref q) false au.toArray e1 (.ref kS)) (λ f s'=>f=.done (.ret .none)/\Q (.ref Dd) s') X.xe {s with heap:=g,toks:=tk})->
 wpAny (model X.prog X.w) X.A (call (.builtin "sorted") [.ref l] [(Str.ofString "key",.ref q)]) Q X.xe s
theorem vc(F:bh X.prog X.w X.K X.mg X.base eO k q fd ps sp)(hb:Binds X.K fd ps [])(hr:bC (k+2) X.A){l:Addr}{ys:List V}{Q:VK}{b:Bool}(I:Inv X pins σ H s){au:List Value}(rv:Vals ys au)(go:Goes X q l au s)(Co:ys.length < 64)(R:List V->Hp->Prop)(key:Nat->Ky)(h0:R [] H)
  (hc:∀aw H v,R aw H->ys[aw.length]?=some v->sp [v] H (λ k H'=>R (aw++[k]) H') E0)
  (hk:∀aw H,R aw H->aw.length=ys.length->(∀i k,aw[i]?=some k->fv X.K b H k (key i))/\∀p out,H p=none->Out (λ i j=>klt (key i) (key j)) ys V.aZ out->Q (.ref p) (upd H p (.lst out))):
  wpAny (model X.prog X.w) X.A (call (.builtin "sorted") [.ref l] [(Str.ofString "key",.ref q)]) (EP X pins σ Q) X.xe s:=by
 have hlen:=rv.length
 have hu:=hr.units
 have room:bC k X.A.in1.in1:=(hr.in1 (k:=k+1)).in1
 refine go _ λ Dd kS g0 g tk e1 UT eG lD lK gD gK gk=>?_
 have I0:Inv X pins σ H {s with heap:=g0,toks:=tk}:=I.kept (t':=tk) UT
 have f1:=I0.mm (H':=λ _=>none) (b:=Dd) lD rfl
 have f3:=I0.mm (H':=λ _=>none) (b:=kS) lK rfl
 refine ED (J:=λ ks e s'=>∃aw H',Inv X ((kS,seqObj "list" (List.toArray ks) e)::(Dd,seqObj "list" #[] e1)::pins) σ H' s'/\Vals aw ks/\R aw H'/\ks.length<=au.length) (by omega) ?_ ?_ ?_ ?_
 ·rintro ks e s' ⟨aw,H',I',rk,hR,Bq⟩
  exact⟨(I'.pin _ (j4 _ (.head _))).1,Bq⟩
 ·rintro x ks e s' ⟨aw,H',I',rk,hR,Bq⟩ hx
  have lk:=rk.length
  obtain⟨y,hy,ry⟩:∃y,ys[aw.length]?=some y/\RelV y x:=by
   have hi:aw.length < ys.length:=by
    have:=(g9.mp hx).1
    omega
   obtain⟨u,KN,ru⟩:=rv.get (i4 hi)
   rw[lk,hx]at KN
   cases KN
   exact⟨_,i4 hi,ru⟩
  have call:=hc aw H' y hR hy
  have r1:Vals [y] [x]:=.cons ry .nil
  have T5:([x]++([]:List Value)).length=ps.length:=by
   have:=F.len _ _ _ _ call
   simpa using this
  have en:mT X.prog X.w X.K X.mg X.base X.A.in1.in1 X.stack s' H':=I'.Fe.in1.in1
  have bt:=hb s' [x] I'.fV T5
  rw[s9]at bt
  refine wpAny_call (codeAny_mono (F.run X.A.in1.in1 X.stack s' H' ⟨[x],[]⟩ [x] [y] _ E0 room en bt r1 call) λ r s2 hq=>?_)
  cases r with
  |error e=>exact hq
  |ok fl=>
   cases fl with
   |ret u=>
    obtain⟨kv,H2,I2,ru,UH⟩:=I'.after hq
    have pk:=I2.pin _ (j4 _ (l6 ..))
    refine⟨pk.1,λ h' c Ur sb=>⟨aw++[kv],H2,?_,rk.append (.cons ru .nil),UH,?_⟩⟩
    ·have I3:Inv X ((Dd,seqObj "list" #[] e1)::pins) σ H2 s2:=I2.dH λ p hp=>I2.pin p (j4 _ (.tail _ hp))
     have pd:=I2.pin _ (j4 _ (List.Mem.tail _ (l6 ..)))
     have fk:ip X ((Dd,seqObj "list" #[] e1)::pins) H2 (kS):=⟨pk.2.1,f3.2.1,f3.2.2.1,f3.2.2.2.1,f3.2.2.2.2.1,λ p hp=>by
      rcases w6.mp hp with z|z
      ·exact f3.2.2.2.2.2 p (mem_append_left _ z)
      ·rcases y1.mp z with rfl|z
       ·exact eG
       ·exact f3.2.2.2.2.2 p (j4 _ z)⟩
     have I4:Inv X ((Dd,seqObj "list" #[] e1)::pins) σ H2 {s2 with heap:=h'}:=qL (t':=s2.toks) (ch:=[kS]) I3 (λ b o hb e=>(sb.2 b (λ z=>hb (by simp[z]))).trans e) λ b wj=>by
      have:b=kS:=by simpa using wj
      subst this
      exact fk
     refine I4.dH λ p hp=>?_
     rcases y1.mp hp with rfl|z
     ·exact⟨Ur,pk.2.1,f3.2.1,f3.2.2.1,λ v z=>by cases z⟩
     ·exact I4.pin p (j4 _ z)
    ·have:=(g9.mp hx).1
     rw[l8,j5]
     omega
   |next=>exact hq.elim
   |brk=>exact hq.elim
   |cont=>exact hq.elim
 ·have I5:Inv X pins σ H {s with heap:=g,toks:=tk}:=I.kept (t':=tk) gk
  have hn:∀b,g0.objs.size<=b->H b=none:=λ b hb=>I0.a_.fresh hb
  refine⟨[],H,I5.dH λ p hp=>?_,.nil,h0,z4 _⟩
  rcases y1.mp hp with rfl|z
  ·exact⟨gK,hn _ lK,f3.2.1,f3.2.2.1,λ v z=>by cases z⟩
  ·rcases y1.mp z with rfl|z
   ·exact⟨gD,hn _ lD,f1.2.1,f1.2.2.1,λ v z=>by cases z⟩
   ·exact I5.pin p (j4 _ z)
 ·rintro ks e s' ⟨aw,H',I',rk,hR,_⟩ Bq
  have lk:=rk.length
  obtain⟨Bs,hQ⟩:=hk aw H' hR (by omega)
  have pk:=I'.pin _ (j4 _ (l6 ..))
  have pd:=I'.pin _ (j4 _ (List.Mem.tail _ (l6 ..)))
  have Sf:X.A.in1.in1.units+1 < cLine:=by have:=room.units;omega
  refine Jt (κ:=tuples' true) (EF key) Bq (by omega) pk.1 pd.1 eG (λ h2 C hC=>?_) (λ h2 i j C hi hj hC=>?_) λ out h' c ho hD MY=>⟨rfl,?_⟩
  ·obtain⟨fs,t1,t2,t3⟩:=rS I' rk Bs
   refine kat_kind (T:=.type "int") t1 (by omega) (λ v hv=>?_) rfl hC
   obtain⟨i,t,rfl⟩:=t3 v hv
   exact(show Looks _ s'.heap (pure (Value.type "int")) _ from .now)
  ·have gi:∀i,i < au.length->∃k u,aw[i]?=some k/\ks.getD i Value.none=u/\RelV k u:=λ i hi=>by
    have MZ:i < aw.length:=by omega
    obtain⟨u,e,r⟩:=rk.get (i4 MZ)
    exact⟨_,u,i4 MZ,by rw[c7,e];rfl,r⟩
   obtain⟨k1,u1,a1,a2,a3⟩:=gi i hi
   obtain⟨k2,u2,b1,b2,b3⟩:=gi j hj
   rw[a2,b2]
   exact Jx I' Sf (Bs i k1 a1) (Bs j k2 b1) a3 b3 hC
  ·obtain⟨p,p1,p2,p3⟩:=ho
   subst p3
   have I6:Inv X pins σ H' s':=I'.dH λ p hp=>I'.pin p (j4 _ (.tail _ (.tail _ hp)))
   have I7:Inv X pins σ H' {s' with heap:=h'}:=qL (t':=s'.toks) (ch:=[Dd,kS]) I6 (λ b o hb e=>MY b o (λ z=>hb (by simp[z])) (λ z=>hb (by simp[z])) e) λ b wj=>by
    simp at wj
    rcases wj with rfl|rfl
    ·exact⟨pd.2.1,f1.2⟩
    ·exact⟨pk.2.1,f3.2⟩
   have Td:Vals (p.toList.map λ i=>ys.getD i V.aZ) (p.toList.map λ i=>au.getD i Value.none):=yV rv _
   have Qu:(p.toList.map λ i=>ys.getD i V.aZ).length<=sizeLine:=by
    rw[w5,l4,p1.size,z0]
    omega
   refine⟨.ref (Dd),_,Inv.vn (D:=Dd) (o:=.lst (p.toList.map λ i=>ys.getD i V.aZ)) I7 pd.2.1 (show _/\∃(au:List Value) (n:Nat),Vals _ au/\_ from⟨Qu,_,c,Td,hD⟩) f1.2.1 (y8 I0.sz lD) f1.2.2.2.2.1 f1.2.2.2.2.2,rfl,hQ _ _ pd.2.1 ⟨p,by rw[hlen];exact p1,by rw[hlen];exact p2,rfl⟩⟩
end
end L2
namespace L5
open PySem
section
variable {α β γ:Type}[DecidableEq α][DecidableEq γ]
def iK(acc:List (α×β))(p:α×β):List (α×β):=if p.1∈acc.map (·.1)then acc else acc++[p]
def eh(ps:List (α×β)):List (α×β):=ps.foldl iK []
def gr(acc:List γ)(r:γ):List γ:=if r∈acc then acc else acc++[r]
def once(rs:List γ):List γ:=rs.foldl gr []
theorem xR{acc:List (α×β)}{p q:α×β}(h:q∈iK acc p):q∈acc\/q=p:=by
 unfold iK at h
 split at h
 ·exact .inl h
 ·simpa using h
theorem rJ:∀(ps acc:List (α×β)) (q:α×β),q∈ps.foldl iK acc->q∈acc\/q∈ps
 |[],_,_,h=>.inl h
 |p::ps,acc,q,h=>by
  rcases rJ ps _ q h with h|h
  ·rcases xR h with h|h
   ·exact .inl h
   ·exact .inr (by simp[h])
  ·exact .inr (by simp[h])
theorem uF{ps:List (α×β)}{q:α×β}(h:q∈eh ps):q∈ps:=by
 rcases rJ ps [] q h with h|h
 ·cases h
 ·exact h
theorem oF(F:γ->α)(inj:∀a b,F a=F b->a=b):∀(ps acc:List (α×β)) (rs ac:List γ),acc.map (·.1)=ac.map F->ps.map (·.1)=rs.map F->(ps.foldl iK acc).map (·.1)=(rs.foldl gr ac).map F
 |[],_,[],_,h,_=>h
 |[],_,_::_,_,_,e=>by simp at e
 |_::_,_,[],_,_,e=>by simp at e
 |p::ps,acc,r::rs,ac,h,e=>by
  simp only[y0,List.cons.injEq]at e
  refine oF F inj ps _ rs _ ?_ e.2
  have iff:p.1∈acc.map (·.1)↔r∈ac:=by
   rw[h,e.1,y6]
   constructor
   ·rintro⟨a,ha,hb⟩
    rw[<- inj _ _ hb]
    exact ha
   ·exact λ ha=>⟨r,ha,rfl⟩
  unfold iK gr
  by_cases m:r∈ac
  ·rw[A3 m,A3 (iff.mpr m)]
   exact h
  ·rw[A4 m,A4 (λ z=>m (iff.mp z))]
   simp[h,e.1]
theorem sx(F:γ->α)(inj:∀a b,F a=F b->a=b){ps:List (α×β)}{rs:List γ}(e:ps.map (·.1)=rs.map F):(eh ps).map (·.1)=(once rs).map F:=oF F inj ps [] rs [] rfl e
theorem nZ:∀(rs acc:List γ) (q:γ),q∈rs.foldl gr acc->q∈acc\/q∈rs
 |[],_,_,h=>.inl h
 |p::ps,acc,q,h=>by
  rcases nZ ps _ q h with h|h
  ·unfold gr at h
   split at h
   ·exact .inl h
   ·rcases w6.mp h with h|h
    ·exact .inl h
    ·exact .inr (by simp at h;simp[h])
  ·exact .inr (by simp[h])
theorem rH{rs:List γ}{q:γ}(h:q∈once rs):q∈rs:=by
 rcases nZ rs [] q h with h|h
 ·cases h
 ·exact h
theorem oh:∀(rs acc:List γ),(rs.foldl gr acc).length<=acc.length+rs.length
 |[],_=>by simp
 |p::ps,acc=>by
  have h:=oh ps (gr acc p)
  have h2:(gr acc p).length<=acc.length+1:=by
   unfold gr
   split <;> simp
  simp only[foldl_cons,p8]
  omega
theorem AI(rs:List γ):(once rs).length<=rs.length:=by
 have:=oh rs []
 simpa[once]using this
end
def ka(x:Ent):List L2.Key×Addr:=(x.1,x.2.1)
theorem JB(k:List L2.Key)(v:Value)(x:Ent):ka (putAt k v x)=ka x:=by
 unfold putAt ka
 split <;> rfl
theorem B2(xs:List Ent)(k:List L2.Key):(atKey xs k).isSome=true↔k∈(xs.map ka).map (·.1):=by
 unfold atKey
 rw[p0,find?_isSome]
 constructor
 ·rintro⟨x,hx,e⟩
  refine y6.mpr ⟨ka x,y6.mpr ⟨x,hx,rfl⟩,of_decide_eq_true e⟩
 ·intro h
  obtain⟨p,hp,e⟩:=y6.mp h
  obtain⟨x,hx,rfl⟩:=y6.mp hp
  exact⟨x,hx,x3 e⟩
theorem xU(xs:List Ent)(p:Ent):(storedH xs p.1 p.2.1 p.2.2).map ka=iK (xs.map ka) (ka p):=by
 unfold storedH iK
 by_cases h:(atKey xs p.1).isSome=true
 ·rw[A3 h,A3 (show(ka p).1∈_ from(B2 xs p.1).mp h),y7]
  exact map_congr_left λ x _=>JB _ _ x
 ·rw[A4 h,A4 (show ¬(ka p).1∈(xs.map ka).map (·.1)from λ z=>h ((B2 xs p.1).mpr z)),w9]
  rfl
theorem AS:∀(ps xs:List Ent),(putAll xs ps).map ka=(ps.map ka).foldl iK (xs.map ka)
 |[],_=>rfl
 |p::ps,xs=>by
  show(putAll (storedH xs p.1 p.2.1 p.2.2) ps).map ka=_
  rw[AS ps,xU]
  rfl
theorem vT:∀(ps xs:List Ent),(putAll xs ps).length<=xs.length+ps.length
 |[],_=>by simp[putAll]
 |p::ps,xs=>by
  have h:=vT ps (storedH xs p.1 p.2.1 p.2.2)
  have h2:=jB xs p
  have e:putAll xs (p::ps)=putAll (storedH xs p.1 p.2.1 p.2.2) ps:=rfl
  rw[e,p8]
  omega
end L5
namespace L2
open PySem PySem.Spec PyProof.Rows L5 PySem.W
def il(K:PySem.W.Frag)(H:Hp):List V->List (List Key×Addr)->Prop
 |[],[]=>True
 |y::ys,p::ps=>(∃(t:Addr) (v:V) (r:List Int),y=.ref t/\fu K H t [.ref p.2,v]/\p.1=r.map Sum.inl/\fu K H p.2 (r.map V.int))/\il K H ys ps
 |_,_=>False
theorem il.row {K:PySem.W.Frag}{H:Hp}:∀{ys:List V} {ps:List (List Key×Addr)},il K H ys ps->∀p∈ps,∃r:List Int,p.1=r.map Sum.inl/\fu K H p.2 (r.map V.int)
 |[],[],_,_,m=>by cases m
 |[],_::_,h,_,_=>h.elim
 |_::_,[],h,_,_=>h.elim
 |y::ys,q::ps,⟨⟨t,v,r,_,_,h1,h2⟩,h⟩,p,m=>by
  rcases y1.mp m with rfl|m
  ·exact⟨r,h1,h2⟩
  ·exact il.row h p m
section
variable {X:Cx}{pins:List (Addr×Obj)}{σ:St}{H:Hp}{s:Shared}
theorem me{prog:Program}{w:World}:∀{au:List Value} {r:List Int},Vals (r.map V.int) au->ItemsAre (b_ prog w) (r.map Sum.inl) au
 |au,[],h=>by cases h;exact .nil
 |au,i::r,h=>by
  cases h with
  |cons h1 h2=>
   obtain⟨t,rfl⟩:=h1
   exact .cons (jD prog w i t) (me h2)
theorem lR(I:Inv X pins σ H s):∀{ys:List V} {kp:List (List Key×Addr)} {au:List Value},il X.K H ys kp->Vals ys au->∃ps:List Ent,ps.map ka=kp/\au.length=ps.length/\∀(j:Nat) (u:Value) (p:Ent),au[j]?=some u->ps[j]?=some p->ju X.prog X.w s.heap u p
 |[],[],_,_,.nil=>⟨[],rfl,rfl,λ j u p h=>by simp at h⟩
 |[],_::_,_,h,_=>h.elim
 |_::_,[],_,h,_=>h.elim
 |y::ys,q::kp,_,h0,.cons (b:=u0) e0 er=>by
  obtain⟨⟨t,v,r,rfl,h1,h2,h3⟩,h⟩:=h0
  obtain⟨ps,p1,p2,p3⟩:=lR I h er
  cases(show u0=Value.ref t from e0)
  obtain⟨i2,r2,⟨o,ho,hc,n,hd⟩,_⟩:=I.tuple h1
  obtain⟨u1,u2,rfl,q1,q2⟩:=vals2 r2
  cases(show u1=Value.ref q.2 from q1)
  obtain⟨i3,r3,⟨o3,T6,Uz,n3,Na⟩,_⟩:=I.tuple h3
  refine⟨(q.1,q.2,u2)::ps,by simp[ka,p1],by simp[p2],λ j u p e1 e2=>?_⟩
  cases j with
  |zero=>
   simp at e1 e2
   subst e1 e2
   refine⟨⟨t,rfl,o,ho,hc,n,hd⟩,o3,i3.toArray,n3,T6,Uz,Na,?_⟩
   rw[h2]
   exact me r3
  |succ j=>exact p3 j u p (by simpa using e1) (by simpa using e2)
end
section
variable {X:Cx}{e:Expr}{te:TE}{p p2 pos dB fp kp:Pos}{f:Str}{k:Nat}{ps:List Str}{sp:Sp}
def pO(K:PySem.W.Frag)(sp:Sp)(x:V)(H:Hp)(Q:VK):Prop:=∃(l:Addr) (ys zs:List V) (kp:List (List Key×Addr)) (b:Bool) (R:List V->Hp->Prop) (key:Nat->Ky),x=.ref l/\dN K H l ys/\ys.length < 64/\il K H ys kp/\zs=(eh kp).map (λ p=>V.ref p.2)/\R [] H/\
 (∀aw H v,R aw H->zs[aw.length]?=some v->sp [v] H (λ k H'=>R (aw++[k]) H') E0)/\
 ∀aw H,R aw H->aw.length=zs.length->(∀i k,aw[i]?=some k->fv K b H k (key i))/\∀p out,H p=none->Out (λ i j=>klt (key i) (key j)) zs V.aZ out->Q (.ref p) (upd H p (.lst out))
theorem nJ:∀as:List Addr,Vals (as.map V.ref) (as.map Value.ref)
 |[]=>.nil
 |a::as=>.cons rfl (nJ as)
theorem rp(d:bI X.prog X.w X.K X.mg X.base k f ps sp)(hr:bC (k+2) X.A)(hg:Gl X "sorted")(hm:X.mg "sorted"=none)(Cj:Gl X "dict")(MU:X.mg "dict"=none)(M8:Gl X f)(he:PE X e te)(Bw:(f==("__debug__":Str))=false:=by decide)
  (hs:starEach [.Call (.Name "dict" p2) [e] [] dB] X.env=[(false,eval (.Call (.Name "dict" p2) [e] [] dB) X.env)]:=by rfl) (Bj:backTo pos (starEach [.Call (.Name "dict" p2) [e] [] dB] X.env)=(false,eval (.Call (.Name "dict" p2) [e] [] dB) X.env)::backTo pos (starEach [] X.env):=by rfl) (hs2:(backTo pos (starEach [.Call (.Name "dict" p2) [e] [] dB] X.env)).any (·.1)=false:=by rfl)
  (ht:starEach [e] X.env=[(false,eval e X.env)]:=by rfl) (MC:starEach [e] X.env=(false,eval e X.env)::starEach [] X.env:=by rfl) (MB:(backTo dB (starEach [] X.env)).any (·.1)=false:=by rfl):
  PE X (.Call (.Name "sorted" p) [.Call (.Name "dict" p2) [e] [] dB] [⟨some "key",.Name f fp,kp⟩] pos) (λ σ H Q=>te σ H λ x H1=>pO X.K sp x H1 Q):=by
 intro pins s σ H Q I h
 obtain⟨q,fd,G,Ua,kq,bd⟩:=d.ex
 refine m9 (gq I hg hm PyProof.Rows.boot_sorted ?_ (by decide) (by decide))
 refine PyProof.Rows.callWith_kw ?_ Bj hs2
 rw[hs]
 show wpAny _ _ (spliced ((false,eval (.Call (.Name "dict" p2) [e] [] dB) X.env)::[])) _ _ s
 refine Calls.spliced_cons (m9 (gq I Cj MU PyProof.Rows.boot_dict ?_ (by decide) (by decide)))
 refine c4 (ck ((cH he gn (by rw[ht];rfl)) dB pins s σ H (λ vs H1=>match vs with|[x]=>pO X.K sp x H1 Q|_=>False) I h) λ us s1 ⟨vs,H1,I1,r1,q1⟩=>?_) MC MB
 cases vs with
 |nil=>exact q1.elim
 |cons x vs=>
  cases vs with
  |cons _ _=>exact q1.elim
  |nil=>
  have q1:pO X.K sp x H1 Q:=q1
  obtain⟨u,rfl,ru⟩:=vals1 r1
  obtain⟨l,ys,zs,Cg,b,R,key,rfl,hl,Co,hp,rfl,h0,hc,hk⟩:=q1
  cases(show u=Value.ref l from ru)
  obtain⟨au,rv,pl,hz⟩:=I1.list hl
  have hlen:=rv.length
  obtain⟨es,e1,e2,e3⟩:=lR I1 hp rv
  have hu:=hr.un
  have ol:∃o,s1.heap.get? l=some o/\o.dict=none:=by
   obtain⟨o,n,a1,a2,a3,a4⟩:=pl
   exact⟨o,a1,a3⟩
  have two:(s1.heap.objs.size==sysModules)=false:=by
   obtain⟨o,n,a1,a2,a3,a4⟩:=pl
   obtain⟨m,⟨o',b1,b2,b3,b4,_⟩,_⟩:=I1.loc
   have ne:l≠X.env.locals:=λ z=>by
    rw[z,b3]at a1
    cases a1
    rw[a4]at b4
    cases b4
   have l1:l < s1.heap.objs.size:=y4 a1
   have l2:X.env.locals < s1.heap.objs.size:=y4 b3
   refine beq_eq_false_iff_ne.mpr λ z=>?_
   have z:s1.heap.objs.size=1:=z
   have:∀a b:Nat,a≠b->a < 1->b < 1->False:=λ a b _ _ _=>by omega
   exact this l X.env.locals ne (z▸l1) (z▸l2)
  refine Ep (by omega) hr.hd pl.isList ol e2 (by omega) e3 λ g tk gk gd gz=>?_
  have I2:Inv X pins σ H1 {s1 with heap:=g,toks:=tk}:=I1.kept (t':=tk) gk
  refine Calls.spliced_nil ?_
  show wpAny _ _ (evalAll ((do let v <- eval (.Name f fp) X.env;standAt pos;pure v)::[])) _ _ _
  refine wpAny_evalAll_cons (z6 (eJ I2 M8 Ua (z6 (wpAny_standAt (z7 (wpAny_evalAll_nil ?_)))) Bw))
  obtain⟨o,Nw,ep,o1,o2,o3,o4,o5,o6⟩:=gd
  have ek:(putAll [] es).map ka=eh Cg:=by
   rw[AS,e1]
   rfl
  have ev:Nw.toList.map (·.key)=((eh Cg).map (·.2)).map Value.ref:=by
   rw[o4,<- ek,y7,y7,y7]
   rfl
  have hsz:Nw.size < 64:=by
   have a:=vT es []
   have b:Nw.toList.length=(putAll [] es).length:=by rw[o4,w5]
   rw[l4]at b
   simp at a
   omega
  have ez:(eh Cg).map (λ p=>V.ref p.2)=((eh Cg).map (·.2)).map V.ref:=by
   rw[y7]
   rfl
  have lz:((eh Cg).map (λ p=>V.ref p.2)).length < 64:=by
   have b:(eh Cg).length=Nw.size:=by
    have:=A1 List.length ev
    simpa using this.symm
   rw[w5,b]
   exact hsz
  have go:Goes X q s1.heap.objs.size (((eh Cg).map (·.2)).map Value.ref) {s1 with heap:=g,toks:=tk}:=by
   intro Q' hQ
   refine CL (s:={s1 with heap:=g,toks:=tk}) two hr.hd (⟨o,o1,o2,o3⟩:Raw g _ Nw ep) hsz λ Dd kS g0 g' vo Nt a1 a2 a3 a4 a5 a6 a7=>?_
   rw[ev]
   exact hQ Dd kS g0 g' vo Nt a1 a2 a3 a4 a5 a6 a7
  exact vc G bd hr I2 (by rw[ez];exact nJ _) go lz R key h0 hc hk
end
end L2
namespace L3
open PySem PySem.Spec L2 L5
def xm(r:List Int):D:=.tup (r.map D.int)
def pairD(r:List Int):D:=.tup [xm r,.bl true]
theorem p_:∀a b:List Int,(a.map Sum.inl:List Key)=b.map Sum.inl->a=b
 |[],[],_=>rfl
 |[],_::_,h=>by cases h
 |_::_,[],h=>by cases h
 |x::a,y::b,h=>by
  simp only[y0,List.cons.injEq,Sum.inl.injEq]at h
  rw[h.1,p_ a b h.2]
section
variable {K:PySem.W.Frag}{H:Hp}
theorem rq:∀{rows:List (List Int)} {ys:List V},aA K H (rows.map pairD) ys->∃kp,il K H ys kp/\kp.map (·.1)=rows.map λ r=>(r.map Sum.inl:List Key)
 |[],ys,h=>by
  cases(aq.mp h)
  exact⟨[],trivial,rfl⟩
 |r::rows,ys,h=>by
  obtain⟨y,ys,rfl,h1,h2⟩:=ag.mp h
  obtain⟨kp,a1,a2⟩:=rq h2
  obtain⟨t,xs,rfl,hq,hd⟩:=aJ.mp h1
  obtain⟨x1,r1,rfl,b1,hd⟩:=ag.mp hd
  obtain⟨x2,r2,rfl,b2,hd⟩:=ag.mp hd
  cases(aq.mp hd)
  obtain⟨m,zs,rfl,EV,hd2⟩:=aJ.mp b1
  rw[cK hd2]at EV
  exact⟨((r.map Sum.inl:List Key),m)::kp,⟨⟨t,x2,r,rfl,hq,rfl,EV⟩,a1⟩,by simp[a2]⟩
theorem jJ:∀{fs:List (List Key×Addr)} {rs:List (List Int)},(∀p∈fs,∃r:List Int,p.1=r.map Sum.inl/\fu K H p.2 (r.map V.int))->fs.map (·.1)=rs.map (λ r=>(r.map Sum.inl:List Key))->aA K H (rs.map xm) (fs.map λ p=>V.ref p.2)
 |[],[],_,_=>by simp[aq]
 |[],_::_,_,h=>by cases h
 |_::_,[],_,h=>by cases h
 |p::fs,r::rs,h,e=>by
  simp only[y0,List.cons.injEq]at e
  obtain⟨r',e1,e2⟩:=h p (by simp)
  have er:r'=r:=p_ _ _ (e1.symm.trans e.1)
  subst er
  rw[y0,y0,ag]
  refine⟨_,_,rfl,aJ.mpr ⟨p.2,_,rfl,e2,jr r'⟩,jJ (λ q m=>h q (by simp[m])) e.2⟩
end
def qo(sp:gV)(d:D)(M:Mem)(Q:br):Prop:=∃(l:Addr) (rows:List (List Int)) (b:Bool) (R:List D->Mem->Prop) (key:Nat->Ky),d=.ref l/\M l=some (.lst (rows.map pairD))/\rows.length < 64/\R [] M/\
 (∀i' M e,R i' M->((once rows).map xm)[i'.length]?=some e->sp [e] M (λ k M'=>R (i'++[k]) M'))/\
 ∀i' M,R i' M->i'.length=(once rows).length->(∀i k,i'[i]?=some k->FH b M k (key i))/\∀p out,M p=none->Out (λ i j=>klt (key i) (key j)) ((once rows).map xm) D.aZ out->Q (.ref p) (aK M p (.lst out))
def pH(sp:gV)(te:bV):bV:=λ δ M Q=>te δ M λ d M1=>qo sp d M1 Q
section
variable {X:Cx}{e:Expr}{te:bV}{p p2 pos dB fp kp:Pos}{f:Str}{k:Nat}{ps:List Str}{sp:gV}
theorem uk(d:cw X.prog X.w X.K X.mg X.base k f ps sp)(hr:bC (k+2) X.A)(hg:Gl X "sorted")(hm:X.mg "sorted"=none)(Cj:Gl X "dict")(MU:X.mg "dict"=none)(M8:Gl X f)(he:QE X e te)(Bw:(f==("__debug__":Str))=false:=by decide)
  (hs:starEach [.Call (.Name "dict" p2) [e] [] dB] X.env=[(false,eval (.Call (.Name "dict" p2) [e] [] dB) X.env)]:=by rfl) (Bj:backTo pos (starEach [.Call (.Name "dict" p2) [e] [] dB] X.env)=(false,eval (.Call (.Name "dict" p2) [e] [] dB) X.env)::backTo pos (starEach [] X.env):=by rfl) (hs2:(backTo pos (starEach [.Call (.Name "dict" p2) [e] [] dB] X.env)).any (·.1)=false:=by rfl)
  (ht:starEach [e] X.env=[(false,eval e X.env)]:=by rfl) (MC:starEach [e] X.env=(false,eval e X.env)::starEach [] X.env:=by rfl) (MB:(backTo dB (starEach [] X.env)).any (·.1)=false:=by rfl):
  QE X (.Call (.Name "sorted" p) [.Call (.Name "dict" p2) [e] [] dB] [⟨some "key",.Name f fp,kp⟩] pos) (pH sp te):=by
 refine bF (rp d hr hg hm Cj MU M8 he Bw hs Bj hs2 ht MC MB) ?_
 rintro σ H Q ⟨δ,M,Q2,hs,hm,q,k⟩
 refine⟨δ,M,_,hs,hm,q,λ x H1 d M1 hd bO t1 q1=>?_⟩
 obtain⟨l,rows,b,R,key,rfl,hM,Co,h0,hc,hk⟩:=q1
 cases(aH.mp hd)
 obtain⟨ys,hy,Sr⟩:=bO l _ hM
 have hlen:=Sr.length
 rw[w5]at hlen
 obtain⟨Cg,p1,p2⟩:=rq Sr
 have hd2:aA X.K H1 ((once rows).map xm) ((eh Cg).map λ p=>V.ref p.2):=jJ (λ p m=>p1.row p (uF m)) (sx _ p_ p2)
 have Sl:=hd2.length
 rw[w5 (f:=xm)]at Sl
 refine⟨l,ys,_,Cg,b,λ aw H'=>∃i' M',aA X.K H' i' aw/\RelM X.K H' M'/\ar H1 H'/\R i' M',key,rfl,dN.of hy,by omega,p1,rfl,⟨[],M1,by rw[aq],bO,ar.refl _,h0⟩,?_,?_⟩
 ·rintro aw H2 v ⟨i',M2,h1,h2,t2,hR⟩ hv
  have Q_:=h1.length
  obtain⟨e,e1,e2⟩:=(aA.mono t2 _ hd2).uP hv
  refine⟨[e],M2,_,aA.one e2,h2,hc i' M2 e hR (by rw[<- Q_];exact e1),λ w H3 d3 M3 Na yG t3 q3=>?_⟩
  exact⟨i'++[d3],M3,(aA.mono t3 i' h1).append (aA.one Na),yG,t2.trans t3,q3⟩
 ·rintro aw H2 ⟨i',M2,h1,h2,t2,hR⟩ hl
  have Q_:=h1.length
  obtain⟨a1,a2⟩:=hk i' M2 hR (by omega)
  refine⟨λ i w hw=>?_,λ p out hp ho=>?_⟩
  ·obtain⟨d3,e3,Na⟩:=h1.uP hw
   exact(a1 i d3 e3).v Na h2
  ·obtain⟨π,p1,p2,rfl⟩:=ho
   rw[Sl]at p1 p2
   refine k _ _ (.ref p) _ (aH.mpr rfl) (df hp (oK (aA.mono t2 _ hd2) π.toList) h2) (t1.trans (t2.trans (ar.laid hp))) (a2 p _ (h2.free hp) ⟨π,by rw[w5];exact p1,by rw[w5];exact p2,rfl⟩)
end
theorem zu{sp:gV}{te:bV}{δ:cZ}{M:Mem}{Q:br}(h:te δ M λ d M1=>qo sp d M1 Q):pH sp te δ M Q:=h
end L3
namespace L4
open PySem PySem.Spec L2 L3 L5
section
variable {X:Cx}{e:Expr}{te:bV}{p p2 pos dB fp kp:Pos}{f:Str}{k:Nat}{ps:List Str}{sp:gV}
theorem tS(d:cw X.prog X.w X.K X.mg X.base k f ps sp)(hr:bC (k+2) X.A)(hg:Gl X "sorted")(hm:X.mg "sorted"=none)(Cj:Gl X "dict")(MU:X.mg "dict"=none)(M8:Gl X f)(he:WE X e te)(Bw:(f==("__debug__":Str))=false:=by decide)
  (hs:starEach [.Call (.Name "dict" p2) [e] [] dB] X.env=[(false,eval (.Call (.Name "dict" p2) [e] [] dB) X.env)]:=by rfl) (Bj:backTo pos (starEach [.Call (.Name "dict" p2) [e] [] dB] X.env)=(false,eval (.Call (.Name "dict" p2) [e] [] dB) X.env)::backTo pos (starEach [] X.env):=by rfl) (hs2:(backTo pos (starEach [.Call (.Name "dict" p2) [e] [] dB] X.env)).any (·.1)=false:=by rfl)
  (ht:starEach [e] X.env=[(false,eval e X.env)]:=by rfl) (MC:starEach [e] X.env=(false,eval e X.env)::starEach [] X.env:=by rfl) (MB:(backTo dB (starEach [] X.env)).any (·.1)=false:=by rfl):
  WE X (.Call (.Name "sorted" p) [.Call (.Name "dict" p2) [e] [] dB] [⟨some "key",.Name f fp,kp⟩] pos) (pH sp te):=⟨uk d hr hg hm Cj MU M8 he.h Bw hs Bj hs2 ht MC MB⟩
end
end L4
namespace L5
open PySem
open AutoSeq1 (wpAny_loadPart')
abbrev O3(T:String)(h:Heap)(l:Addr):Heap:=h.push {cls:=.type T,data:=.fields #[.ref l,.int 0 0]}
abbrev RB(T:String)(h:Heap)(l:Addr):Heap:=(O3 T h l).push {cls:=.type "enumerate",data:=.fields #[.none,.bool false,.ref h.objs.size,rawInt 0,.none,.none]}
set_option tactic.hygienic true in
theorem uR{T:String}{S:Heap->Addr->Array Value->Prop}(k:NK T S)(l:Addr)(vs:Array Value):
  Meets (Builtin.«enumerate.__new__» ⟨[.type "enumerate",.ref l],[]⟩) (λ _ R s=>S s.heap l vs/\R (.ok (.ret (.ref (O3 T s.heap l).objs.size))) {s with heap:=RB T s.heap l}):=
 .of_wp λ prog w A R s h=>by
  obtain⟨hp,g,d,tk,os⟩:=s
  obtain⟨a1,h⟩:=h
  have se:=sub_enumerate
  have aT:S (Shared.heap ⟨hp,g,d,tk,os⟩) l vs:=a1
  wp_walk using k.start aT
  refine wpAny_stack_any λ st=>z7 ?_
  split
  ·rename_i c _ _ _ _ _
   cases(c==Value.type "enumerate")
   all_goals
    wp_walk using k.start aT
    exact⟨_,rfl,h⟩
  ·wp_walk using k.start aT
   exact⟨_,rfl,h⟩
theorem Eo{prog:Program}{w:World}{A:Around}{E:Value->Shared->Prop}{s:Shared}{T:String}{S:Heap->Addr->Array Value->Prop}(kk:NK T S){l:Addr}{vs:Array Value}{Q:Value->Shared->Prop}(a1:S s.heap l vs)
  (k:∀h',IsEnum h' (s.heap.objs.size+1) s.heap.objs.size 0 .none->yA T h' s.heap.objs.size l 0->(∀f o,s.heap.get? f=some o->h'.get? f=some o)->Q (.ref (s.heap.objs.size+1)) {s with heap:=h'}):
  wpAny (model prog w) A (call (.type "enumerate") [.ref l]) Q E s:=by
 refine callType_new F.called_enumerate (by decide) (F.typeCall_enumerate_1 _) (F.newCall_enumerate_1 _) (λ ob=>F.args_object_init_2 ob _) F.entry_enumerate_new (uR kk l vs) ⟨a1,?_⟩
 have e1:(O3 T s.heap l).objs.size=s.heap.objs.size+1:=x4 ..
 have g2:(RB T s.heap l).get? (O3 T s.heap l).objs.size=some _:=l5 _ rfl
 have g1:(RB T s.heap l).get? s.heap.objs.size=some _:=j1 _ (l5 s.heap rfl)
 rw[e1]at g2
 show _/\_
 rw[e1]
 exact⟨⟨_,g2,rfl⟩,k _ g2 ⟨_,g1,rfl,rfl⟩ λ f o x=>j1 _ (j1 _ x)⟩
theorem AD{T:String}{S:Heap->Addr->Array Value->Prop}(k:NK T S){prog:Program}{w:World}{A:Around}(hA:A.handled=none)(j l:Addr)(ne:l≠j)(vs:Array Value):
  Draws prog w A j [j,l] vs.size (λ i v=>vs[i]?=some v) (λ i h=>yA T h j l i/\S h l vs) where
 live:=λ _ _ st=>let⟨⟨o,ho,_⟩,_⟩:=st;⟨o,ho⟩
 frame:=λ _ _ _ st q=>let⟨⟨o,ho,r⟩,su⟩:=st;⟨⟨o,q j (by simp) o ho,r⟩,k.keep su λ o e=>q l (by simp) o e⟩
 item:=λ i s Q E hi st kk=>k.item st.1 st.2 (c9 hi) λ h' a b=>kk _ h' s.toks (c9 hi) ⟨a,k.keep st.2 λ o e=>b.extBut _ _ ne e⟩ b
 done:=λ s Q E st kk=>k.stop hA st.1 st.2 (j0 (y9 _)) kk
end L5
namespace L2
open PySem PySem.Spec PyProof.Rows L5
def O_(K:PySem.W.Frag)(b:Bool)(l:Addr):It:=
 ⟨λ i H=>∃xs x,Sq b K H l xs/\xs[i]?=some x,
  λ i H v H'=>∃(p:Addr) (x:V),H p=none/\v=.ref p/\H'=upd H p (.tup [.int i,x])/\∀xs,Sq b K H l xs->xs[i]?=some x,
  λ i H=>∃xs,Sq b K H l xs/\xs.length<=i⟩
def S4(b:Bool)(e j l:Addr)(i:Nat)(h:Heap):Prop:=(∃old,IsEnum h e j i old)/\yA (R1 b) h j l i
theorem wX{P:Program}{w:World}{K:PySem.W.Frag}{es:List Expr}{k0}{pos:Pos}{e j:Addr}(b:Bool)(B:e≠j)(l:Addr):Turn P w K (.Tuple es k0 pos) (O_ K b l) [e,j] e (S4 b e j l) where
 mem:=by simp
 obj:=λ i h st c hc=>by
  obtain⟨⟨old,he⟩,⟨oa,ha,_,da⟩⟩:=st
  rcases y1.mp hc with rfl|hc
  ·exact⟨_,he,λ v z=>by cases z⟩
  rcases y1.mp hc with rfl|hc
  ·exact⟨_,ha,λ v z=>by rw[da]at z;cases z⟩
  ·cases hc
 keep:=λ i h h' st q=>by
  obtain⟨⟨old,he⟩,⟨oa,ha,r⟩⟩:=st
  exact⟨⟨old,q e (by simp) _ he⟩,⟨oa,q j (by simp) _ ha,r⟩⟩
 item:=by
  intro X hP hw hK hc i pins s σ H E I hf st hg
  subst hP hw hK
  obtain⟨xs,x,hl,hx⟩:=hg
  obtain⟨⟨old,he⟩,hj⟩:=st
  obtain⟨OS,r1,p1⟩:=lA I hl
  obtain⟨u1,e1,q1⟩:=r1.get hx
  have lj:l≠j:=zb I (hf j (by simp)) hl
  have le:l≠e:=zb I (hf e (by simp)) hl
  have hi:i < OS.toArray.size:=by
   have:=(g9.mp e1).1
   simpa using this
  refine wpAny_pyNext_enum_itemD (AD (AB b) (A:=X.A.in1) (I.ok.hd hc) j l lj OS.toArray) he ⟨hj,p1⟩ hi B (by simp;exact⟨B,A2 le⟩) λ y g tk g1 g2 g3 g4 g5 g6=>?_
  have ey:y=u1:=by
   rw[getElem?_toArray,e1]at g1
   cases g1
   rfl
  subst ey
  have hn:H s.heap.objs.size=none:=I.a_.fresh (y9 _)
  have I1:Inv X pins σ H {s with heap:=g,toks:=tk+1}:=qL (t':=tk+1) I (ch:=[e,j]) (λ c o hc e=>g6 c o (λ z=>hc (by simp[z])) (λ z=>hc (by simp[z])) e) hf
  refine⟨_,rfl,wpAny_letOwnedTupleGo_enum (s:={s with heap:=g,toks:=tk+1}) g2 λ g' e' sb=>?_⟩
  have I2:Inv X pins σ H {s with heap:=g',toks:=tk+1}:=qL (s:={s with heap:=g,toks:=tk+1}) (t':=tk+1) (ch:=[e]) I1 (λ c o hc q=>sb.extBut _ _ (λ z=>hc (by simp[z])) q) (λ c hc=>hf c (by simp at hc ⊢;exact .inl hc))
  have fo:=I.mm (H':=H) (y9 s.heap.objs.size) hn
  have R8:e < s.heap.objs.size:=y4 he
  have Tu:j < s.heap.objs.size:=let⟨_,q,_⟩:=hj;y4 q
  have t5:=sb.extBut _ _ (Nat.ne_of_gt R8) g4
  have I3:Inv X pins σ (upd H s.heap.objs.size (.tup [.int i,x])) {s with heap:=g',toks:=tk+1}:=Inv.vn I2 hn ⟨show 2<=sizeLine by decide,[.int i tk,y],.cons ⟨tk,rfl⟩ (.cons q1 .nil),⟨_,t5,rfl,_,rfl⟩⟩ fo.2.1 (y8 I.sz (y9 _)) fo.2.2.2.2.1 fo.2.2.2.2.2
  refine⟨.ref s.heap.objs.size,_,I3,rfl,⟨s.heap.objs.size,x,hn,rfl,rfl,λ GD h'=>by rw[G1 I h' hl];exact hx⟩,⟨⟨_,by simpa using e'⟩,?_⟩,λ c hc=>?_⟩
  ·obtain⟨o,ho,r⟩:=g3.1
   exact⟨o,sb.extBut _ _ (A2 B) ho,r⟩
  ·have mU:c < s.heap.objs.size:=by
    simp at hc
    rcases hc with rfl|rfl
    ·exact R8
    ·exact Tu
   rw[az (y3 mU)]
   exact(hf c hc).1
 done:=by
  intro X hP hw hK hc i pins s σ H E I hf st hg
  subst hP hw hK
  obtain⟨xs,hl,hx⟩:=hg
  obtain⟨⟨old,he⟩,hj⟩:=st
  obtain⟨OS,r1,p1⟩:=lA I hl
  have l1:=r1.length
  have lj:l≠j:=zb I (hf j (by simp)) hl
  have hT:s.TypeIs (.ref e) "enumerate":=⟨_,he,rfl⟩
  unfold pyNext
  refine z6 (x6 (i7 (name:=Str.ofString "__next__") hT F.slot_enumerate_next (q8 F.slot_enumerate_next hT F.entry_enumerate_next ?_ (F.args_enumerate_next_1 _))))
  refine z6 (m:=field (.ref e) 2) (z5 he rfl (x:=.ref j) rfl ?_)
  refine z6 ((AB b).stop (A:=X.A.in1) (I.ok.hd hc) hj p1 (j0 (by simp;omega)) λ g c g1 g2=>?_)
  obtain⟨o,ho,sj⟩:=g2
  refine z6 (wpAny_isInstance (T:="StopIteration") (b:=true) ⟨o,ho,sj⟩ isSubtype_stop (z7 ⟨rfl,?_⟩))
  exact qL (t':=s.toks) (ch:=[j]) I (λ b o hb q=>g1 b o (λ z=>hb (by simp[z])) q) λ b hb=>hf b (by simp at hb ⊢;exact .inr hb)
 self:=λ _ _ _ _ _ st h=>wpAny_pyIter_enum st.1.choose_spec h
section
variable {X:Cx}{es:List Expr}{k0:_}{lr:Pos}{a:Expr}{ta:TA}{p pos:Pos}
def MA(K:PySem.W.Frag)(ta:TA):TI:=λ σ H R=>ta σ H λ vs H1=>∃(b:Bool) (l:Addr),vs=[.ref l]/\(∃xs,Sq b K H1 l xs)/\R (O_ K b l) H1
theorem DY(hg:Gl X "enumerate")(hm:X.mg "enumerate"=none)(ha:PA X [a] ta)(hs:starEach [a] X.env=[(false,eval a X.env)]:=by rfl)(hs2:starEach [] X.env=[]:=by rfl):
  PI X (.Tuple es k0 lr) (.Call (.Name "enumerate" p) [a] [] pos) (MA X.K ta):=by
 intro pins s σ H R I h
 refine Call_ (gq I hg hm boot_enumerate (c4 (ck (ha pos pins s σ H _ I h) λ us s1 ⟨vs,H1,I1,r1,q1⟩=>?_) (by rw[hs,hs2]) (by rw[hs2];rfl)))
 obtain⟨b,l,e,⟨xs,hl⟩,q⟩:=q1
 subst e
 obtain⟨u1,rfl,r⟩:=vals1 r1
 cases(show u1=Value.ref l from r)
 obtain⟨OS,r1,p1⟩:=lA I1 hl
 refine Eo (AB b) p1 λ g g1 g2 g7=>wpAny_pyIter_enum (s:={s1 with heap:=g}) g1 ?_
 have I2:Inv X pins σ H1 {s1 with heap:=g}:=I1.kept (t':=s1.toks) g7
 have fr:∀c,s1.heap.objs.size<=c->ip X pins H1 c:=λ c hc=>I1.mm hc (I1.a_.fresh hc)
 have ne:s1.heap.objs.size+1≠s1.heap.objs.size:=by omega
 refine⟨_,[s1.heap.objs.size+1,s1.heap.objs.size],_,_,H1,rfl,I2,wX b ne l,⟨⟨_,g1⟩,g2⟩,λ c hc=>fr c ?_,q⟩
 simp at hc
 rcases hc with rfl|rfl <;> omega
end
end L2
namespace L3
open PySem PySem.Spec L2 L5
def fh(ds:List D):List D:=(List.range ds.length).map λ(i:Nat)=>D.tup [.int (i:Int),ds.getD i D.aZ]
theorem yg(ds:List D):(fh ds).length=ds.length:=by simp[fh]
def kindB:D->Bool
 | .tup _=>true
 |_=>false
theorem pA{K:PySem.W.Frag}{H:Hp}{M:Mem}{d:D}{ds:List D}{x:V}(e:dz M d=some ds)(h:Dat K H d x)(hm:RelM K H M):∃p xs,x=.ref p/\Sq (kindB d) K H p xs/\aA K H ds xs:=by
 cases d with
 |tup es=>
  cases(show some es=some ds from e)
  obtain⟨p,xs,rfl,h1,h2⟩:=aJ.mp h
  exact⟨p,xs,rfl,h1,h2⟩
 |fl es=>
  cases(show some es=some ds from e)
  obtain⟨p,xs,rfl,h1,h2⟩:=ie.mp h
  exact⟨p,xs,rfl,h1.sq,h2⟩
 |ref a=>
  cases(aH.mp h)
  obtain⟨xs,h1,h2⟩:=cN (show aY M a=some ds from e) hm
  exact⟨a,xs,rfl,dN.of h1,h2⟩
 |_=>cases e
def sE(x:D)(M:Mem):Option (List D):=(dz M x).map fh
theorem xV{K:PySem.W.Frag}{H1:Hp}{a:Addr}{x:D}(hx:Dat K H1 x (.ref a)):tI K H1 (O_ K (kindB x) a) (.fn (sE x)):=λ H M fs t hm e=>by
 have e:(dz M x).map fh=some fs:=e
 cases e1:dz M x with
 |none=>rw[e1]at e;cases e
 |some ds=>
  rw[e1]at e
  cases e
  obtain⟨p,xs,e3,q1,x1⟩:=pA e1 (Dat.mono t x hx) hm
  cases e3
  have l1:=x1.length
  rw[yg]
  refine⟨λ i hi=>⟨xs,xs[i]'(by omega),q1,by simp⟩,λ i hi=>⟨xs,q1,by omega⟩,λ i v H' hi y=>?_⟩
  obtain⟨p,v,hp,rfl,rfl,hx⟩:=y
  obtain⟨d,d1,d2⟩:=x1.uP (hx xs q1)
  refine⟨ar.laid hp,hm.laid hp,.tup [.int i,d],?_,gC hp (ag.mpr ⟨.int i,[v],rfl,av.mpr rfl,aA.one d2⟩)⟩
  obtain⟨z1,w1⟩:=g9.mp d1
  simp[fh,z1,w1]
def AX(ta:ft):nE:=λ δ M R=>ta δ M λ ds M1=>match ds with
 |[.tup xs]=>R (.fix (fh xs)) M1
 |[x]=>(∃zs,dz M1 x=some zs)/\R (.fn (sE x)) M1
 |_=>False
section
variable {X:Cx}{es:List Expr}{k0:_}{lr:Pos}{a:Expr}{ta:ft}{p pos:Pos}
theorem DI(hg:Gl X "enumerate")(hm:X.mg "enumerate"=none)(ha:QA X [a] ta)(hs:starEach [a] X.env=[(false,eval a X.env)]:=by rfl)(hs2:starEach [] X.env=[]:=by rfl):
  QI X (.Tuple es k0 lr) (.Call (.Name "enumerate" p) [a] [] pos) (AX ta):=vO (DY hg hm ha hs hs2) λ σ H R ⟨δ,M,R2,hs,hm,q,k⟩=>by
 refine⟨δ,M,_,hs,hm,q,λ xs H1 ds M1 hd bO t1 q1=>?_⟩
 have go:∀x,ds=[x]->(∃zs,dz M1 x=some zs)->(∀J,tI X.K H1 J (.fn (sE x))->R J H1)->∃(b:Bool) (l:Addr),xs=[.ref l]/\(∃xs,Sq b X.K H1 l xs)/\R (O_ X.K b l) H1:=by
  rintro x rfl ⟨zs,hz⟩ hR
  obtain⟨vx,r,rfl,hx,hr⟩:=ag.mp hd
  cases(aq.mp hr)
  obtain⟨p,vs,rfl,q1,_⟩:=pA hz hx bO
  exact⟨_,p,rfl,⟨vs,q1⟩,hR _ (xV hx)⟩
 match ds,q1 with
 |[x],q1=>
  by_cases ht:∃xs,x=.tup xs
  ·obtain⟨xs,rfl⟩:=ht
   exact go _ rfl ⟨_,rfl⟩ λ J hJ=>k J H1 (.fix (fh xs)) M1 (λ H M ds t hm e=>hJ H M ds t hm e) bO t1 q1
  ·have q2:(∃zs,dz M1 x=some zs)/\R2 (.fn (sE x)) M1:=by
    cases x <;> first|exact q1|exact absurd ⟨_,rfl⟩ ht
   exact go x rfl q2.1 λ J hJ=>k J H1 _ M1 hJ bO t1 q2.2
 |[],q1=>exact q1.elim
 |x::y::r,q1=>cases x <;> exact q1.elim
end
end L3
namespace L4
open PySem PySem.Spec L2 L3 L5
section
variable {X:Cx}{es:List Expr}{k0:_}{lr:Pos}{a:Expr}{ta:ft}{p pos:Pos}
theorem Cw(hg:Gl X "enumerate")(hm:X.mg "enumerate"=none)(ha:WA X [a] ta)(hs:starEach [a] X.env=[(false,eval a X.env)]:=by rfl)(hs2:starEach [] X.env=[]:=by rfl):
  WI X (.Tuple es k0 lr) (.Call (.Name "enumerate" p) [a] [] pos) (AX ta):=⟨DI hg hm ha.h hs hs2⟩
end
end L4
namespace L2
open PySem PySem.Spec PyProof.Rows
section
variable {X:Cx}
theorem Ea:dE X (binaryOp .Add) (λ x y H Q=>∃a b ys,x=.ref a/\y=.ref b/\fu X.K H a []/\fu X.K H b ys/\Q (.ref b) H):=by
 intro pins s σ H x y v u Q I rx ry h
 obtain⟨a,b,ys,rfl,rfl,ha,hb,q⟩:=h
 cases rx
 cases ry
 obtain⟨i1,r1,p1,_⟩:=I.tuple ha
 obtain⟨i2,r2,p2,_⟩:=I.tuple hb
 cases r1
 obtain⟨⟨c1,d1,a1,l1⟩,o1,k1,n1,e1⟩:=id p1
 obtain⟨⟨c2,d2,a2,l2⟩,o2,k2,n2,e2⟩:=id p2
 cases(show c1=.type "tuple" from k1)
 cases(show a1=_ from e1)
 cases(show c2=.type "tuple" from k2)
 cases(show a2=_ from e2)
 exact concat_meets ⟨_,o1,rfl⟩ ⟨_,o2,rfl⟩ noFill_tuple_add seq_tuple_add PySem.F.slot_tuple_add PySem.F.entry_tuple_add (PySem.F.args_tuple_add_2 _ _) (tuple_addW0 a b #[] i2.toArray n1 n2 d1 d2 l1 l2 rfl) ⟨o1,o2,⟨.ref b,H,I,rfl,q⟩⟩
end
end L2
namespace L3
open PySem PySem.Spec L2
section
variable {X:Cx}
def wC:eE:=λ x y M Q=>Kl x y M Q\/∃ys,x=.tup []/\y=.tup ys/\Q (.tup ys) M
theorem aX:dC X (binaryOp .Add) wC:=by
 obtain⟨r,h1,h2⟩:=(Mp:dC X (binaryOp .Add) Kl)
 refine⟨_,h1.or Ea,λ x y d e H M Q2 Q hd he hm q k=>?_⟩
 rcases q with q|⟨ys,rfl,rfl,q⟩
 ·exact .inl (h2 x y d e H M Q2 Q hd he hm q k)
 ·obtain⟨p,vs,rfl,hp,hx⟩:=aJ.mp hd
  obtain⟨p2,ws,rfl,oB,hy⟩:=aJ.mp he
  cases(aq.mp hx)
  exact .inr ⟨p,p2,ws,rfl,rfl,hp,oB,k _ H _ M (aJ.mpr ⟨p2,ws,rfl,oB,hy⟩) hm (ar.refl H) q⟩
end
section
variable {M:Mem}{Q:br}
theorem zJ{i j:Int}(q:Q (.int (i+j)) M):wC (.int i) (.int j) M Q:=.inl q
theorem rg{i j:Str}(h:i.length+j.length<=sizeLine)(q:Q (.str (i++j)) M):wC (.str i) (.str j) M Q:=.inl ⟨h,q⟩
theorem bS{xs ys:List D}(h:xs.length+ys.length<=sizeLine)(q:Q (.tup (xs++ys)) M):wC (.tup xs) (.tup ys) M Q:=by
 cases xs with
 |nil=>exact .inr ⟨ys,rfl,rfl,q⟩
 |cons x xs=>exact .inl ⟨by simp,h,q⟩
end
end L3
namespace L3
open PySem L2
section
variable {g:gA}{tt:eU}{te:bV}{δ δc:cZ}{M1:Mem}{Qe:List D->Mem->Prop}
theorem R3{n:Nat}(h:n<=10000):n<=sizeLine:=y8 h (by decide)
theorem qt{α β:Type}{xs:List α}{enc:α->D}(Kg:β->D)(I:List β->Mem->Prop)(hn:xs.length<=10000)(h0:I [] M1)
  (hs:∀(i:Nat) (x:α) (ys:List β) (M:Mem) (N:D->Mem->Prop),xs[i]?=some x->ys.length=i->I ys M->(∀b M',I (ys++[b]) M'->N (Kg b) M')->g (enc x) δc M λ δ2 M2=>te δ2 M2 N)
  (hd:∀ys M,ys.length=xs.length->I ys M->Qe (ys.map Kg) M):
  ∃(B:Nat) (W:Nat->List D->Mem->Prop),W 0 [] M1/\∀i acc M,W i acc M->i<=B/\acc.length<=sizeLine/\match items (.fix (xs.map enc)) M with
   |none=>False
   |some ds=>match ds[i]? with
    |none=>i=ds.length/\Qe acc M
    |some d=>g d δc M λ δ2 M2=>qW δ2 M2 λ b M3=>if b=true then te δ2 M3 λ y M4=>W (i+1) (acc++[y]) M4 else W (i+1) acc M3:=by
 refine fK (λ i acc M=>∃ys:List β,acc=ys.map Kg/\ys.length=i/\I ys M) ⟨[],rfl,rfl,h0⟩ (λ i acc M hi h=>?_) (λ i d acc M hd h=>?_) (λ acc M h=>?_)
 ·obtain⟨ys,rfl,h1,_⟩:=h
  rw[w5]at hi ⊢
  exact R3 (by omega)
 ·obtain⟨ys,rfl,h1,h2⟩:=h
  rw[n0]at hd
  cases e:xs[i]? with
  |none=>rw[e]at hd;cases hd
  |some x=>
   rw[e]at hd
   cases hd
   refine hs i x ys M _ e h1 h2 λ b M' hb=>⟨ys++[b],by rw[w9];rfl,by simp[h1],hb⟩
 ·obtain⟨ys,rfl,h1,h2⟩:=h
  rw[w5]at h1
  exact hd ys M h1 h2
theorem take_one{α:Type}{l:List α}{i:Nat}{a:α}(h:l[i]?=some a):l.take (i+1)=l.take i++[a]:=by
 rw[take_add_one,h]
 rfl
theorem kN{α:Type}{xs:List α}{enc:α->D}(out:α->D)(hn:xs.length<=10000)
  (hs:∀(i:Nat) (x:α) (N:D->Mem->Prop),xs[i]?=some x->N (out x) M1->g (enc x) δc M1 λ δ2 M2=>te δ2 M2 N)
  (hd:Qe (xs.map out) M1):
  ∃(B:Nat) (W:Nat->List D->Mem->Prop),W 0 [] M1/\∀i acc M,W i acc M->i<=B/\acc.length<=sizeLine/\match items (.fix (xs.map enc)) M with
   |none=>False
   |some ds=>match ds[i]? with
    |none=>i=ds.length/\Qe acc M
    |some d=>g d δc M λ δ2 M2=>qW δ2 M2 λ b M3=>if b=true then te δ2 M3 λ y M4=>W (i+1) (acc++[y]) M4 else W (i+1) acc M3:=by
 refine qt (β:=α) out (λ ys M=>M=M1/\ys=xs.take ys.length) hn ⟨rfl,rfl⟩ (λ i x ys M N hx hy h k=>?_) (λ ys M hy h=>?_)
 ·obtain⟨rfl,h⟩:=h
  refine hs i x N hx (k x M ⟨rfl,?_⟩)
  rw[l8,j5,take_one (a:=x) (by rw[hy];exact hx),<- h]
 ·obtain⟨rfl,h⟩:=h
  rw[hy,take_length]at h
  rw[h]
  exact hd
theorem Fs{α:Type}{xs:List α}{enc:α->D}(p:α->Bool)(out:α->D)(hn:xs.length<=10000)
  (hs:∀(i:Nat) (x:α) (N1:D->Mem->Prop) (N2:Mem->Prop),xs[i]?=some x->(p x=true->N1 (out x) M1)->(p x=false->N2 M1)->g (enc x) δc M1 λ δ2 M2=>tt δ2 M2 λ b M3=>if b=true then te δ2 M3 N1 else N2 M3)
  (hd:Qe ((xs.filter p).map out) M1):
  ∃(B:Nat) (W:Nat->List D->Mem->Prop),W 0 [] M1/\∀i acc M,W i acc M->i<=B/\acc.length<=sizeLine/\match items (.fix (xs.map enc)) M with
   |none=>False
   |some ds=>match ds[i]? with
    |none=>i=ds.length/\Qe acc M
    |some d=>g d δc M λ δ2 M2=>tt δ2 M2 λ b M3=>if b=true then te δ2 M3 λ y M4=>W (i+1) (acc++[y]) M4 else W (i+1) acc M3:=by
 refine fK (λ i acc M=>M=M1/\acc=((xs.take i).filter p).map out) ⟨rfl,by simp⟩ (λ i acc M hi h=>?_) (λ i d acc M he h=>?_) (λ acc M h=>?_)
 ·obtain⟨_,rfl⟩:=h
  rw[w5]
  refine y8 (length_filter_le _ _) ?_
  rw[r6]
  exact R3 (by omega)
 ·obtain⟨rfl,rfl⟩:=h
  rw[n0]at he
  cases e:xs[i]? with
  |none=>rw[e]at he;cases he
  |some x=>
   rw[e]at he
   cases he
   refine hs i x _ _ e (λ hp=>⟨rfl,?_⟩) (λ hp=>⟨rfl,?_⟩)
   ·rw[take_one e,filter_append,w9]
    simp[hp]
   ·rw[take_one e,filter_append,w9]
    simp[hp]
 ·obtain⟨rfl,rfl⟩:=h
  rw[w5,take_length]
  exact hd
end
abbrev Ln(i:Nat):D:=.int ((0:Int)+(i:Nat))
theorem He(i:Nat):Ln i=.int (i:Int):=by show D.int (0+(i:Int))=_;rw[Int.zero_add]
theorem sA{α:Type}(xs:List α)(enc:α->D):fh (xs.map enc)=xs.zipIdx.map λ p=>D.tup [.int (p.2:Int),enc p.1]:=by
 refine ext_getElem? λ i=>?_
 unfold fh
 rw[n0,n0,getElem?_zipIdx,w5]
 by_cases h:i < xs.length
 ·rw[k9 h,i4 h]
  simp[h]
 ·rw[j8 (by simpa using h),j8 (by simpa using h)]
  rfl
def FA(R:Src->Mem->Prop)(d:D)(M1:Mem):Prop:=match d with
 | .str z=>R (.fix (dw z)) M1
 | .tup ds=>R (.fix ds) M1
 | .fl ds=>R (.fix ds) M1
 | .ref a=>(match M1 a with
  |some (.lst _)=>R (.at a) M1
  |_=>False)
 |_=>False
theorem Ds{ta:bV}{δ:cZ}{M:Mem}{R:Src->Mem->Prop}(h:ta δ M (FA R)):JC ta δ M R:=h
theorem Du{ds:List D}{M:Mem}{R:Src->Mem->Prop}(h:R (.fix ds) M):FA R (.tup ds) M:=h
theorem Dv{z:Str}{M:Mem}{R:Src->Mem->Prop}(h:R (.fix (dw z)) M):FA R (.str z) M:=h
theorem Dw{a:Addr}{ds:List D}{M:Mem}{R:Src->Mem->Prop}(hM:M a=some (.lst ds))(h:R (.at a) M):FA R (.ref a) M:=by
 show(match M a with|some (.lst _)=>R (.at a) M|_=>False)
 rw[hM]
 exact h
end L3
namespace KK
open PySem L3 L4 L5
open L2 hiding bN uc
def Gi(c:Addr)(p b sd ct:Int):List D:=[.ref c,.int p,.int b,.int sd,.int ct]
structure Flow(M:Mem)(f c:Addr):Prop where
 ex:∃(ns:List Int) (p b sd ct:Int),M f=some (.lst (Gi c p b sd ct))/\M c=some (.lst (ns.map D.int))/\c≠f/\0<=p/\0<=b/\0<=sd/\sd < 2147483647
def h_:gV:=λ ds M Q=>∃(f c:Addr) (n:Int),ds=[.ref f,.int n]/\Flow M f c/\0 < n/\n < 1073741824/\∀(d:Int) (o:MO),0<=d->d < n->Flow (aK M f o) f c->Q (.int d) (aK M f o)
structure Fl(f c:Addr)(M M':Mem):Prop where
 cq:Flow M' f c
 mv:∀b o,b≠f->M b=some o->M' b=some o
theorem Fl.trans {f c:Addr}{M M1 M2:Mem}(a:Fl f c M M1)(b:Fl f c M1 M2):Fl f c M M2:=⟨b.cq,λ c o h e=>b.mv c o h (a.mv c o h e)⟩
theorem Fl.pick {f c:Addr}{M:Mem}{o:MO}(h:Flow (aK M f o) f c):Fl f c M (aK M f o):=⟨h,λ b o' hb e=>by rw[aM hb];exact e⟩
theorem Flow.there {M:Mem}{f c:Addr}(h:Flow M f c):∃o,M f=some o:=by obtain⟨ns,p,b,sd,ct,h,_⟩:=h;exact⟨_,h⟩
theorem Flow.GR {M:Mem}{f c:Addr}(h:Flow M f c):∃o,M c=some o:=by obtain⟨ns,p,b,sd,ct,_,h,_⟩:=h;exact⟨_,h⟩
theorem Flow.put {M:Mem}{f c q:Addr}{o:MO}(h:Flow M f c)(n:M q=none):Flow (aK M q o) f c:=by
 obtain⟨ns,p,b,sd,ct,h1,h2,h3⟩:=h
 exact⟨ns,p,b,sd,ct,by rw[aM (λ z=>by rw[z,n]at h1;cases h1)];exact h1,by rw[aM (λ z=>by rw[z,n]at h2;cases h2)];exact h2,h3⟩
theorem Fl.put {M:Mem}{f c q:Addr}{o:MO}(h:Flow M f c)(n:M q=none):Fl f c M (aK M q o):=⟨h.put n,λ b o' hb e=>by rw[aM (λ z=>by rw[z,n]at e;cases e)];exact e⟩
theorem Flow.ne {M:Mem}{f c q:Addr}(h:Flow M f c)(n:M q=none):q≠f/\q≠c:=by
 constructor
 ·intro z
  subst z
  obtain⟨o,e⟩:=h.there
  rw[n]at e
  cases e
 ·intro z
  subst z
  obtain⟨o,e⟩:=h.GR
  rw[n]at e
  cases e
theorem Fl.own {M M':Mem}{f c q:Addr}{o:MO}(h:Fl f c M M')(h0:Flow M f c)(n:M q=none):Fl f c M (aK M' q o):=by
 obtain⟨n1,n2⟩:=h0.ne n
 obtain⟨ns,p,b,sd,ct,h1,h2,h3⟩:=h.cq
 refine⟨⟨ns,p,b,sd,ct,by rw[aM (A2 n1)];exact h1,by rw[aM (A2 n2)];exact h2,h3⟩,λ b o' hb e=>?_⟩
 rw[aM (λ z=>by rw[z,n]at e;cases e)]
 exact h.mv b o' hb e
theorem small{n:Nat}(h:n<=10000):n<=sizeLine:=y8 h (by decide)
theorem len_app(x y:Str):(x++y).length=x.length+y.length:=by
 show(x.cps++y.cps).size=x.cps.size+y.cps.size
 simp
theorem mM{zs:List Str}{d:Int}(h0:0<=d)(h1:d < zs.length):∃z,z∈zs/\eV (zs.map D.str) d=some (.str z):=by
 have hl:d.toNat < zs.length:=by omega
 have e:((d.toNat:Nat):Int)=d:=by omega
 have q:eV (zs.map D.str) ((d.toNat:Nat):Int)=some (.str zs[d.toNat]):=cI (by simp[hl])
 rw[e]at q
 exact⟨_,getElem_mem hl,q⟩
def zd:gV:=λ ds M Q=>∃ns:List Int,ds=[.fl (ns.map D.int)]/\∀f c M',Flow M' f c->Q (.ref f) M'
theorem dP{lo:Int}{n i:Nat}{d:D}(h:(dY lo n)[i]?=some d):i < n/\d=.int (lo+(i:Nat)):=by
 have hi:i < n:=by have:=(g9.mp h).1;rwa [bL]at this
 rw[lM hi]at h
 exact⟨hi,(u7 h).symm⟩
theorem take_snoc{α:Type}{l:List α}{i:Nat}{a:α}(h:l[i]?=some a):l.take (i+1)=l.take i++[a]:=by
 rw[take_add_one,h]
 rfl
def eS(as:List Int):L2.Ky:=(as.sum,as.map λ a=>0 - a)
def vv:gV:=λ ds M Q=>∃as:List Int,ds=[row as]/\as.length<=1000/\Q (.tup [.int as.sum,row (as.map λ a=>0 - a)]) M
theorem xo{p:Addr}{ds:List D}{M:Mem}{Q:br}(h:M p=some (.lst ds))(q:Q (.tup ds) M):qm [.ref p] M Q:=by
 show(match aY M p with|some ds=>Q (.tup ds) M|none=>False)
 unfold aY
 rw[h]
 exact q
theorem back{M M1:Mem}{v:D}{Q:br}(h:∀b o,M b=some o->M1 b=some o)(q:Q v M):fin2 Q v M1:=⟨M,λ a o e=>h a o e,q⟩
theorem rG{M M':Mem}(h:∀b o,M b=some o->M' b=some o){q:Addr}(n:M' q=none)(x:MO):∀b o,M b=some o->aK M' q x b=some o:=λ b o e=>by
 rw[aM (λ z=>by rw[<- z,h b o e]at n;cases n)]
 exact h b o e
theorem B4{ns:List Int}{d:Int}(h0:0<=d)(h1:d < ns.length):∃x,x∈ns/\eV (ns.map D.int) d=some (.int x):=by
 have hl:d.toNat < ns.length:=by omega
 have e:((d.toNat:Nat):Int)=d:=by omega
 have q:eV (ns.map D.int) ((d.toNat:Nat):Int)=some (.int ns[d.toNat]):=cI (by simp[hl])
 rw[e]at q
 exact⟨_,getElem_mem hl,q⟩
abbrev fR:=Str×List (List Int)
def ML:fR:=(Str.ofString "",[])
def wg(h:fR):D:=.tup [.str h.1,.tup (h.2.map row)]
def iQ(g:List fR):D:=.tup (g.map wg)
structure yz(n i:Nat)(r:List Int):Prop where
 len:r.length=n
 pos:∀x∈r,0<=x
 sum:r.sum<=4
 low:∀j,i<=j->r.getD j 0=0
structure FI(n:Nat)(g:List fR):Prop where
 len:g.length=n
 qH:n<=12
 opts:∀i,i < n->(g.getD i ML).2.length<=63/\∀r∈(g.getD i ML).2,yz n i r
def jZ(ns:List Int)(n:Nat):List Int:=(List.range n).map λ(h:Nat)=>((ns.count (h:Int):Nat):Int)
theorem sZ(ns:List Int)(n:Nat):(jZ ns n).length=n:=by simp[jZ]
theorem BW{ns:List Int}{n:Nat}:∀x∈jZ ns n,0<=x:=λ x hx=>by
 obtain⟨h,_,rfl⟩:=y6.mp hx
 omega
theorem sY(ns:List Int):∀n:Nat,(jZ ns n).sum=(ns.countP λ x=>decide (0<=x/\x < (n:Int)):Nat)
 |0=>by
  have:ns.countP (λ x=>decide (0<=x/\x < ((0:Nat):Int)))=0:=countP_eq_zero.mpr λ x _=>by simp
  rw[this]
  rfl
 |n+1=>by
  have ih:=sY ns n
  unfold jZ at ih ⊢
  rw[range_succ,w9,sum_append,ih]
  simp only[y0,map_nil,sum_cons,sum_nil]
  have:ns.countP (λ x=>decide (0<=x/\x < ((n+1:Nat):Int)))=ns.countP (λ x=>decide (0<=x/\x < (n:Int)))+ns.count (n:Int):=by
   clear ih
   induction ns with
   |nil=>rfl
   |cons y ys ih=>
    rw[countP_cons,countP_cons,count_cons,ih]
    generalize List.countP _ ys=A
    generalize List.count _ ys=B
    by_cases h1:0<=y/\y < (n:Int)
    ·have h2:0<=y/\y < ((n+1:Nat):Int):=by omega
     have h3:¬(y=(n:Int)):=by omega
     rw[A3 (x3 h2),A3 (x3 h1),A4 (by simpa using h3)]
     omega
    ·by_cases h3:y=(n:Int)
     ·rw[A3 (x3 (by omega)),A4 (by simpa using h1),A3 (by simpa using h3)]
      omega
     ·rw[A4 (by simp only[n4];omega),A4 (by simpa using h1),A4 (by simpa using h3)]
      omega
  rw[this]
  omega
theorem BY{ns:List Int}{n:Nat}:(jZ ns n).sum<=ns.length:=by
 rw[sY]
 have:=countP_le_length (p:=λ x=>decide (0<=x/\x < (n:Int))) (l:=ns)
 omega
theorem BX{ns:List Int}{n i:Nat}(h:∀x∈ns,x < (i:Int))(j:Nat)(hj:i<=j):(jZ ns n).getD j 0=0:=by
 unfold jZ
 rw[c7,n0]
 by_cases hn:j < n
 ·rw[k9 hn]
  have:ns.count (j:Int)=0:=count_eq_zero.mpr λ z=>by have:=h _ z;omega
  simp[this]
 ·rw[j8 (by simpa using hn)]
  rfl
def lB:gV:=λ ds M Q=>∃(a:Addr) (ns:List Int) (n:Nat),ds=[.ref a,.int n]/\M a=some (.lst (ns.map D.int))/\n<=1000/\Q (row (jZ ns n)) M
theorem mn:∀zs:List Str,jI (zs.map D.str)=some (zs.map V.str)
 |[]=>rfl
 |z::zs=>by
  rw[y0]
  show(match mw (D.str z),jI (zs.map D.str)with|some v,some vs=>some (v::vs)|_,_=>none)=_
  rw[mn zs]
  rfl
theorem rX(z:Str):∀zs:List Str,Gb (.str z) (zs.map V.str)=zs.contains z
 |[]=>rfl
 |y::ys=>by
  have ih:=rX z ys
  unfold Gb at ih ⊢
  rw[y0,any_cons,ih,contains_cons]
  congr 1
  show(y==z)=(z==y)
  rw[r9,beq_iff_eq,beq_iff_eq]
  exact eq_comm
theorem ff(z:Str)(zs:List Str):inD (.str z) (zs.map D.str)=some (zs.contains z):=by
 unfold inD
 rw[mn]
 show some (Gb (.str z) (zs.map V.str))=_
 rw[rX]
theorem uE(c:Nat):MulOk ⟨#[c]⟩ 1:=⟨by decide,λ _ h=>(by have z:true=false:=h;cases z),λ _ h=>(by have z:true=false:=h;cases z)⟩
def tw:List Nat:=(Str.ofString "zyxwvutsrqponmlkjihgfedcba").cps.toList
def j_(j:Nat):Str:=Txt.mul ⟨#[tw.getD j 0]⟩ 1
theorem vb:((List.range 26).map j_).Nodup:=by decide+kernel
theorem rD:∀{l zs:List Str},l.Nodup->(∀x∈l,x∈zs)->l.length<=zs.length
 |[],zs,_,_=>z4 _
 |a::l,zs,hn,hs=>by
  rw[nodup_cons]at hn
  have ha:a∈zs:=hs a (l6 ..)
  have h1:=rD (l:=l) (zs:=zs.erase a) hn.2 λ x hx=>(mem_erase_of_ne (λ z=>hn.1 (by rw[<- z];exact hx))).mpr (hs x (j9 _ hx))
  rw[length_erase_of_mem ha]at h1
  have:=length_pos_of_mem ha
  rw[p8]
  omega
theorem B0{zs:List Str}{sp:Nat}(UQ:sp<=26)(h:∀j,j < sp->j_ j∈zs):sp<=zs.length:=by
 have e:((List.range sp).map j_).Nodup:=by
  refine List.Sublist.nodup (List.Sublist.map j_ ?_) vb
  have:List.range sp=(List.range 26).take sp:=by rw[take_range,Nat.min_eq_left UQ]
  rw[this]
  exact take_sublist _ _
 have:=rD e (zs:=zs) λ x hx=>by
  obtain⟨j,hj,rfl⟩:=y6.mp hx
  exact h j (by simpa using hj)
 simpa using this
theorem aO{T:String}{d:D}{M:Mem}{Q:br}{n:String}{b:Bool}(e:jc M d=some n)(hb:jX n T=b)(q:Q (.bl b) M):Gs T [d,.ty T] M Q:=⟨rfl,by rw[e];subst hb;exact q⟩
theorem iF{d:D}{M:Mem}{Q:br}(h:jc M d≠some "NoneType")(q:Q (.bl false) M):ym false d .aZ M Q:=by
 cases d with
 |aZ=>exact absurd rfl h
 |_=>exact q
theorem kU{ds:List D}{i:Nat}(h:i < ds.length):eV ds (0+(i:Int))=some ds[i]:=by
 rw[Int.zero_add]
 refine cI ?_
 simp[h]
theorem qB:∀n:Nat,((List.replicate n true).all id)=true
 |0=>rfl
 |n+1=>by rw[l3,all_cons,qB n];rfl
def Ext(M M':Mem):Prop:=∀b o,M b=some o->M' b=some o
theorem Ext.own {M M':Mem}(h:Ext M M'){q:Addr}{x:MO}(n:M q=none):Ext M (aK M' q x):=λ b o e=>by
 rw[aM (λ z=>by rw[z,n]at e;cases e)]
 exact h b o e
end KK
namespace HT
open PySem PySem.Spec PyProof.Rows
section
variable {prog:Program}{w:World}{A:Around}{E:Value->Shared->Prop}{s:Shared}
theorem gU{t sl:Addr}{items:Array Value}{vl vu:Value}{lo hi:Option Int}{Q:Value->Shared->Prop}(ht:IsTup s.heap t items)(hs:s.heap.IsSliceOf sl vl vu .none)(pl:IsPart vl lo)(pu:IsPart vu hi)
  (hw:bQ items.size 0 lo=0/\bQ items.size items.size hi=items.size) (h:Q (.ref t) s):wpAny (model prog w) A (getItem (.ref t) (.ref sl)) Q E s:=by
 obtain⟨os,dJ,JX,oE⟩:=id hs
 have Nh:s.TypeIs (.ref sl) "slice":=⟨os,dJ,JX⟩
 unfold getItem
 try with_reducible refine x5 ?_
 first|refine z6 (z7 ?_)|skip
 refine z6 (wpAny_sequenceKey ht.typeIs (by decide) ?_)
 refine z6 (i7 (name:=Str.ofString "__getitem__") ht.typeIs a0
  (q8 a0 ht.typeIs entry_tuple_getitem ?_ (args_tuple_getitem _ _)))
 show wpAny _ _ (Builtin.Tuple.tupleItemsOf (.ref t) >>= _) _ _ s
 refine z6 (tupleItemsOf_ ht ?_)
 refine z6 (wpAny_typeOf Nh ?_)
 rw[A3 (by decide)]
 refine z6 (fb hs pl pu ?_)
 have Qw:(((bQ items.size 0 lo:Nat):Int)==0&&(1:Int)==1&&(bQ items.size items.size hi - bQ items.size 0 lo)==items.size)=true:=by
  rw[hw.1,hw.2]
  simp
 show wpAny _ _ (if(((bQ items.size 0 lo:Nat):Int)==0&&(1:Int)==1&&(bQ items.size items.size hi - bQ items.size 0 lo)==items.size)=true then _ else _) _ _ s
 rw[A3 Qw]
 unfold Builtin.Tuple.tupleIsExact
 refine z6 (z6 (wpAny_typeOf ht.typeIs (z7 ?_)))
 rw[A3 (by decide)]
 exact z6 (wpAny_rule (z7 ⟨_,rfl,z7 h⟩))
end
end HT
namespace L2
open PySem PySem.Spec PyProof.Rows
section
variable {X:Cx}
theorem CM:wM X (λ x lo hi H Q=>∃a xs,x=.ref a/\fu X.K H a xs/\(HT.bQ xs.length 0 lo=0/\HT.bQ xs.length xs.length hi=xs.length)/\Q (.ref a) H):=by
 intro pins s σ H x v vl vu lo hi sl Q I rx hs pl pu h
 obtain⟨a,xs,rfl,hx,hw,q⟩:=h
 cases rx
 obtain⟨au,r,ht,hz⟩:=I.tuple hx
 have hlen:au.toArray.size=xs.length:=by rw[p4];exact r.length.symm
 exact⟨"tuple",_,a0.lookup,ht.typeIs,HT.gU ht hs pl pu (by rw[hlen];exact hw) ⟨.ref a,H,I,rfl,q⟩⟩
end
end L2
namespace L3
open PySem PySem.Spec L2
section
variable {X:Cx}
def BR:D->Option Int->Option Int->Mem->br->Prop:=λ x lo hi M Q=>match x with
 | .str z=>z.length<=sizeLine/\Q (.str (dm z lo hi)) M
 | .tup ds=>Q (.tup (cutD ds lo hi)) M
 | .ref a=>match aY M a with
  |some ds=>∀p,M p=none->Q (.ref p) (aK M p (.lst (cutD ds lo hi)))
  |none=>False
 |_=>False
theorem cC:N9 X BR:=by
 obtain⟨r,h1,h2⟩:=(uc:N9 X SJ)
 refine⟨_,h1.or CM,λ x d lo hi H M Q2 Q hd hm q k=>?_⟩
 cases d with
 |tup ds=>
  by_cases hw:HT.bQ ds.length 0 lo=0/\HT.bQ ds.length ds.length hi=ds.length
  ·have q:Q2 (.tup (cutD ds lo hi)) M:=q
   have e:cutD ds lo hi=ds:=by unfold cutD;rw[hw.1,hw.2];simp
   rw[e]at q
   obtain⟨p,xs,rfl,h,hx⟩:=aJ.mp hd
   exact .inr ⟨p,xs,rfl,h,by rw[hx.length];exact hw,k _ H _ M (aJ.mpr ⟨p,xs,rfl,h,hx⟩) hm (ar.refl H) q⟩
  ·exact .inl (h2 x (.tup ds) lo hi H M Q2 Q hd hm ⟨hw,q⟩ k)
 |str z=>exact .inl (h2 x (.str z) lo hi H M Q2 Q hd hm q k)
 |ref a=>exact .inl (h2 x (.ref a) lo hi H M Q2 Q hd hm q k)
 |_=>exact q.elim
end
section
variable {M:Mem}{Q:br}
theorem Fo{ds:List D}{i:Int}(h0:0<=i):cutD ds none (some i)=ds.take i.toNat:=by
 unfold cutD
 have e:HT.bQ ds.length ds.length (some i)=min i.toNat ds.length:=by
  show(if i < 0 then(i+(ds.length:Int)).toNat else min i.toNat ds.length)=_
  rw[A4 (by omega)]
 rw[e]
 show(ds.drop 0).take (min i.toNat ds.length - 0)=_
 rw[drop_zero,Nat.sub_zero,take_eq_take_iff]
 omega
theorem yo{ds:List D}{i:Int}(h0:0<=i):cutD ds (some i) none=ds.drop i.toNat:=by
 unfold cutD
 have e:HT.bQ ds.length 0 (some i)=min i.toNat ds.length:=by
  show(if i < 0 then(i+(ds.length:Int)).toNat else min i.toNat ds.length)=_
  rw[A4 (by omega)]
 rw[e]
 show(ds.drop (min i.toNat ds.length)).take (ds.length - min i.toNat ds.length)=_
 rw[i9 (by rw[p9];omega)]
 by_cases h:i.toNat<=ds.length
 ·rw[Nat.min_eq_left h]
 ·rw[Nat.min_eq_right (by omega),drop_length,drop_of_length_le (by omega)]
theorem vE{ds:List D}{lo hi:Option Int}(q:Q (.tup (cutD ds lo hi)) M):BR (.tup ds) lo hi M Q:=q
theorem dX{ds:List D}{i:Int}(h0:0<=i)(q:Q (.tup (ds.take i.toNat)) M):BR (.tup ds) none (some i) M Q:=by
 show Q (.tup (cutD ds none (some i))) M
 rw[Fo h0]
 exact q
theorem cm{ds:List D}{i:Int}(h0:0<=i)(q:Q (.tup (ds.drop i.toNat)) M):BR (.tup ds) (some i) none M Q:=by
 show Q (.tup (cutD ds (some i) none)) M
 rw[yo h0]
 exact q
theorem kj{z:Str}{lo hi:Option Int}(h:z.length<=sizeLine)(q:Q (.str (dm z lo hi)) M):BR (.str z) lo hi M Q:=⟨h,q⟩
end
end L3
namespace L3
open PySem PySem.Spec L2 L5 PyProof.Rows
def Pl:Nat->D->Prop
 |0,d=>d=.aZ\/(∃i,d=.int i)\/∃x,d=.str x/\PyData.strOk x=true
 |k+1,d=>d=.aZ\/(∃i,d=.int i)\/(∃x,d=.str x/\PyData.strOk x=true)\/∃ds,d=.tup ds/\∀e∈ds,Pl k e
theorem Aa(k:Nat)(i:Int):Pl k (.int i):=by
 cases k with
 |zero=>exact .inr (.inl ⟨i,rfl⟩)
 |succ k=>exact .inr (.inl ⟨i,rfl⟩)
theorem Iu(k:Nat){x:Str}(h:PyData.strOk x=true):Pl k (.str x):=by
 cases k with
 |zero=>exact .inr (.inr ⟨x,rfl,h⟩)
 |succ k=>exact .inr (.inr (.inl ⟨x,rfl,h⟩))
theorem lO{k:Nat}{ds:List D}(h:∀e∈ds,Pl k e):Pl (k+1) (.tup ds):=.inr (.inr (.inr ⟨ds,rfl,h⟩))
theorem Iv{α:Type}{k:Nat}{xs:List α}{enc:α->D}(h:∀x∈xs,Pl k (enc x)):∀e∈xs.map enc,Pl k e:=λ e he=>by
 obtain⟨x,hx,rfl⟩:=y6.mp he
 exact h x hx
structure SR(k:Nat)(d:D):Prop where
 nr:nr d=true
 lay:(toP d).canLay0=true
 dep:(toP d).depth<=k
structure RP(k:Nat)(ds:List D):Prop where
 nr:pV ds=true
 lay:PyData.canLayAll0 (toPs ds)=true
 dep:PyData.depthAll (toPs ds)<=k
theorem ku{k:Nat}:∀{ds:List D},(∀e∈ds,SR k e)->RP k ds
 |[],_=>⟨by unfold pV;rfl,by unfold toPs;simp[PyData.canLayAll0],by unfold toPs;simp[PyData.depthAll]⟩
 |d::ds,h=>by
  have h1:=h d (l6 ..)
  have h2:=ku (ds:=ds) λ e he=>h e (j9 _ he)
  refine⟨?_,?_,?_⟩
  ·unfold pV;rw[h1.nr,h2.nr];rfl
  ·unfold toPs;simp only[PyData.canLayAll0];rw[h1.lay,h2.lay];rfl
  ·unfold toPs;simp only[PyData.depthAll];exact Nat.max_le.mpr ⟨h1.dep,h2.dep⟩
theorem Pl.f:∀{k:Nat} {d:D},Pl k d->SR k d
 |0,d,h=>by
  rcases h with rfl|⟨i,rfl⟩|⟨x,rfl,hx⟩
  ·exact⟨by unfold L3.nr;rfl,by unfold toP;simp[PyData.canLay0],by unfold toP;simp[PyData.depth]⟩
  ·exact⟨by unfold L3.nr;rfl,by unfold toP;simp[PyData.canLay0],by unfold toP;simp[PyData.depth]⟩
  ·exact⟨by unfold L3.nr;rfl,by unfold toP;simp[PyData.canLay0,hx],by unfold toP;simp[PyData.depth]⟩
 |k+1,d,h=>by
  rcases h with rfl|⟨i,rfl⟩|⟨x,rfl,hx⟩|⟨ds,rfl,h⟩
  ·exact⟨by unfold L3.nr;rfl,by unfold toP;simp[PyData.canLay0],by unfold toP;simp[PyData.depth]⟩
  ·exact⟨by unfold L3.nr;rfl,by unfold toP;simp[PyData.canLay0],by unfold toP;simp[PyData.depth]⟩
  ·exact⟨by unfold L3.nr;rfl,by unfold toP;simp[PyData.canLay0,hx],by unfold toP;simp[PyData.depth]⟩
  ·have q:=ku λ e he=>Pl.f (h e he)
   refine⟨?_,?_,?_⟩
   ·unfold L3.nr;exact q.nr
   ·unfold toP;simp only[PyData.canLay0];exact q.lay
   ·unfold toP;simp only[PyData.depth];have:=q.dep;omega
theorem mx{k:Nat}(ih:∀x y:D,Pl k x->Pl k y->(PyData.eqv (toP x) (toP y)=true↔x=y)):∀{ds es:List D},(∀e∈ds,Pl k e)->(∀e∈es,Pl k e)->(PyData.eqvAll (toPs ds) (toPs es)=true↔ds=es)
 |[],[],_,_=>by unfold toPs;simp[PyData.eqvAll]
 |[],e::es,_,_=>by unfold toPs;simp[PyData.eqvAll]
 |d::ds,[],_,_=>by unfold toPs;simp[PyData.eqvAll]
 |d::ds,e::es,h1,h2=>by
  have a:=ih d e (h1 d (l6 ..)) (h2 e (l6 ..))
  have b:=mx ih (ds:=ds) (es:=es) (λ x hx=>h1 x (j9 _ hx)) (λ x hx=>h2 x (j9 _ hx))
  unfold toPs
  simp only[PyData.eqvAll,q9,a,b,List.cons.injEq]
theorem qh:∀{k:Nat} (x y:D),Pl k x->Pl k y->(PyData.eqv (toP x) (toP y)=true↔x=y)
 |0,x,y,hx,hy=>by
  rcases hx with rfl|⟨i,rfl⟩|⟨z,rfl,_⟩ <;> rcases hy with rfl|⟨j,rfl⟩|⟨w,rfl,_⟩ <;> simp[toP,PyData.eqv]
 |k+1,x,y,hx,hy=>by
  rcases hx with rfl|⟨i,rfl⟩|⟨z,rfl,_⟩|⟨ds,rfl,hd⟩ <;> rcases hy with rfl|⟨j,rfl⟩|⟨w,rfl,_⟩|⟨es,rfl,he⟩ <;> first
   |(simp[toP,PyData.eqv];done)
   |(have:=mx (λ x y=>qh (k:=k) x y) hd he
     unfold toP
     simp only[PyData.eqv,D.tup.injEq]
     exact this)
theorem BL{k:Nat}{x y:D}(hx:Pl k x)(hy:Pl k y){b:Bool}(hb:b=true↔x=y):PyData.eqv (toP x) (toP y)=b:=by
 rw[r9]
 exact(qh x y hx hy).trans hb.symm
theorem nU{k:Nat}{d:D}(h:Pl k d)(hk:k<=60):SeqAt.shaped (toP d)=true:=by
 have f:=h.f
 unfold SeqAt.shaped
 rw[f.lay,x3 (by have:=f.dep;omega)]
 rfl
theorem lE{k:Nat}{ds:List D}(h:∀e∈ds,Pl k e)(hk:k<=60):SeqAt.shaped (.list (toPs ds))=true:=by
 have f:=ku λ e he=>(h e he).f
 have h1:(PyData.list (toPs ds)).canLay0=true:=by simp only[PyData.canLay0];exact f.lay
 have h2:(PyData.list (toPs ds)).depth<=64:=by simp only[PyData.depth];have:=f.dep;omega
 unfold SeqAt.shaped
 rw[h1,x3 h2]
 rfl
theorem zS{k:Nat}{d:D}{M:Mem}(h:Pl k d):rn M d=some (toP d):=by
 have f:=h.f.nr
 cases d with
 |ref a=>unfold nr at f;cases f
 |_=>unfold rn;dsimp only;rw[A3 f]
section
variable {M:Mem}{Q:br}
theorem C7{k:Nat}{x y:D}{b:Bool}(hx:Pl k x)(hy:Pl k y)(hk:k<=60)(hb:b=true↔x=y)(q:Q (.bl (!b)) M):nu true x y M Q:=by
 refine .inr ⟨_,_,zS hx,zS hy,nU hx hk,nU hy hk,?_⟩
 rw[BL hx hy hb]
 exact q
theorem vK{k:Nat}{p:Addr}{ds:List D}(hM:M p=some (.lst ds))(h:∀e∈ds,Pl k e):rn M (.ref p)=some (.list (toPs ds)):=by
 have f:=ku λ e he=>(h e he).f
 unfold rn
 simp only[hM]
 rw[A3 f.nr]
theorem yf{k:Nat}{ds es:List D}(h1:∀e∈ds,Pl k e)(h2:∀e∈es,Pl k e){b:Bool}(hb:b=true↔ds=es):PyData.eqv (.list (toPs ds)) (.list (toPs es))=b:=by
 rw[r9]
 have:=mx (λ x y=>qh (k:=k) x y) h1 h2
 simp only[PyData.eqv]
 exact this.trans hb.symm
theorem C8{k:Nat}{p p2:Addr}{ds es:List D}{b:Bool}(hM:M p=some (.lst ds))(UJ:M p2=some (.lst es))(h1:∀e∈ds,Pl k e)(h2:∀e∈es,Pl k e)(hk:k<=60)(hb:b=true↔ds=es)(q:Q (.bl (!b)) M):nu true (.ref p) (.ref p2) M Q:=by
 refine .inr ⟨_,_,vK hM h1,vK UJ h2,lE h1 hk,lE h2 hk,?_⟩
 rw[yf h1 h2 hb]
 exact q
end
section
variable {X:Cx}
theorem nY{A:Around}{s:Shared}{v:Value}{y:PyData}{bs:List Addr}(ry:Reads s.heap v y bs)(cy:y.canLay0=true)(hu:A.units+y.depth < cLine):∀{ds:List D} {us:List Value} {as:List Addr},ReadsAll s.heap us (toPs ds) as->PyData.canLayAll0 (toPs ds)=true->
  ∃e:Value->Bool,(∀u∈us,SeqAt.EqAt A s u v (e u))/\us.map e=ds.map λ d=>PyData.eqv (toP d) y:=by
 intro ds us as ra cl
 refine⟨λ u=>PyData.eqv (SeqAt.readOf s.heap u) y,λ u KN=>?_,?_⟩
 ·obtain⟨d,SM,rd,cd,_⟩:=SeqAt.readsAll_mem _ _ _ cl ra u KN
  have e:=SeqAt.readOf_eq cd rd
  dsimp only
  rw[e]
  exact p5 d y A s u v _ _ rd ry cd cy (by omega)
 ·have e:=SeqAt.readsAll_map _ _ _ cl ra
  have f:∀(us:List Value) (ds:List D),us.map (SeqAt.readOf s.heap)=toPs ds->us.map (λ u=>PyData.eqv (SeqAt.readOf s.heap u) y)=ds.map λ d=>PyData.eqv (toP d) y:=by
   intro us
   induction us with
   |nil=>
    intro ds q
    cases ds with
    |nil=>rfl
    |cons d r=>unfold toPs at q;cases q
   |cons u us ih=>
    intro ds q
    cases ds with
    |nil=>unfold toPs at q;cases q
    |cons d r=>
     unfold toPs at q
     rw[y0]at q
     injection q with q1 q2
     rw[y0,y0,ih r q2,q1]
  exact f us ds e
structure RU(K:PySem.W.Frag)(H:Hp)(b:Bool)(p:Addr)(xs:List V)(ds:List D)(x:V)(d:D):Prop where
 sq:Sq b K H p xs
 Nx:aA K H ds xs
 dat:Dat K H d x
 ns:pV ds=true
 n:nr d=true
 EB:PyData.canLayAll0 (toPs ds)=true
 lay:(toP d).canLay0=true
 dep:(toP d).depth < 62
theorem any_map{α:Type}(us:List α)(e:α->Bool)(bs:List Bool)(h:us.map e=bs):us.any e=bs.any id:=by
 rw[<- h,List.any_map]
 rfl
theorem I_(neg:Bool)(hu:X.A.units+64 < cLine):dE X (compareOp (if neg then .NotIn else .In)) (λ x y H Q=>∃(b:Bool) (p:Addr) (xs:List V) (ds:List D) (d:D),y=.ref p/\RU X.K H b p xs ds x d/\Q (.bl (if neg then !ds.any (λ e=>PyData.eqv (toP e) (toP d))else ds.any λ e=>PyData.eqv (toP e) (toP d))) H):=by
 intro pins s σ H x y v u Q I rx ry h
 obtain⟨b,p,xs,ds,d,rfl,ok,q⟩:=h
 cases ry
 obtain⟨bs,rb⟩:=OK I d ok.n ok.dat rx
 have hd:=ok.dep
 cases b with
 |false=>
  obtain⟨au,r,pl,hz⟩:=I.list ok.sq
  obtain⟨as,ra⟩:=ug I ds ok.ns ok.Nx r
  obtain⟨e,e1,e2⟩:=nY (A:=X.A.in1) rb ok.lay (by show X.A.units+1+_ < _;omega) ra ok.EB
  have e3:au.toArray.any e=ds.any λ e=>PyData.eqv (toP e) (toP d):=by
   rw[show au.toArray.any e=au.any e by simp,any_map _ _ _ e2,List.any_map]
   rfl
  cases neg with
  |false=>exact SeqAt.in_listAt e pl.isList (λ w hw=>e1 w (by simpa using hw)) ⟨.bl _,H,I,rfl,by rw[e3];exact q⟩
  |true=>exact SeqAt.notIn_listAt e pl.isList (λ w hw=>e1 w (by simpa using hw)) ⟨.bl _,H,I,rfl,by rw[e3];exact q⟩
 |true=>
  obtain⟨au,r,pl,hz⟩:=I.tuple ok.sq
  obtain⟨as,ra⟩:=ug I ds ok.ns ok.Nx r
  obtain⟨e,e1,e2⟩:=nY (A:=X.A.in1) rb ok.lay (by show X.A.units+1+_ < _;omega) ra ok.EB
  have e3:au.toArray.any e=ds.any λ e=>PyData.eqv (toP e) (toP d):=by
   rw[show au.toArray.any e=au.any e by simp,any_map _ _ _ e2,List.any_map]
   rfl
  cases neg with
  |false=>exact SeqAt.in_tupleAt e pl (λ w hw=>e1 w (by simpa using hw)) ⟨.bl _,H,I,rfl,by rw[e3];exact q⟩
  |true=>exact SeqAt.notIn_tupleAt e pl (λ w hw=>e1 w (by simpa using hw)) ⟨.bl _,H,I,rfl,by rw[e3];exact q⟩
end
end L3
namespace L2
open PySem PySem.Spec PyProof.Rows L5
section
variable {X:Cx}
theorem tf(hc:X.calm=true):cY X (.builtin "any") (λ xs H Q=>∃(p:Addr) (bs:List Bool),xs=[.ref p]/\dN X.K H p (bs.map V.bl)/\Q (.bl (bs.any id)) H):=by
 intro pins s σ H xs us Q I r h
 obtain⟨p,bs,rfl,hq,q⟩:=h
 obtain⟨u,rfl,r1⟩:=vals1 r
 cases r1
 obtain⟨au,rv,pl,hz⟩:=I.list hq
 refine call_any_walk (o8 pl.isList ?_)
 have eG:p≠s.heap.objs.size:=by
  obtain⟨o,n,e,_⟩:=pl
  exact y3 (y4 e)
 have hlen:au.length=bs.length:=by rw[<- rv.length,w5]
 refine⟨s.heap.objs.size,_,_,_,_,_,λ i=>(bs[i]?).getD false,rfl,Walks.list (A:=X.A.in1) (show X.A.in1.handled=none from I.ok.hd hc) s.heap.objs.size p eG au.toArray,⟨⟨_,l5 _ rfl,rfl,rfl⟩,pl.isList.at λ o e=>j1 _ e⟩,?_,λ h' tk hk=>?_⟩
 ·intro i v s' Q' E' hP hQ
  have Ni:au[i]?=some v:=by simpa using hP
  have hi:i < bs.length:=by rw[<- hlen];exact(g9.mp Ni).1
  have hb:(bs.map V.bl)[i]?=some (V.bl bs[i]):=by simp[hi]
  obtain⟨u,hu,ru⟩:=rv.get hb
  rw[Ni]at hu
  cases hu
  have e:v=Value.bool bs[i]:=ru
  subst e
  have:(bs[i]?).getD false=bs[i]:=by simp[hi]
  dsimp only at hQ
  rw[this]at hQ
  exact o7 hQ
 ·refine⟨.bl (bs.any id),H,I.kept (t':=tk) λ b o e=>hk b o (by simpa using y3 (y4 e)) (j1 _ e),?_,q⟩
  show Value.bool _=Value.bool _
  congr 1
  rw[p4,hlen]
  rw[r9]
  simp only[List.any_eq_true,mem_range,id]
  constructor
  ·rintro⟨i,hi,h⟩
   exact⟨bs[i],getElem_mem hi,by simpa[hi]using h⟩
  ·rintro⟨b,hb,h⟩
   obtain⟨i,hi,rfl⟩:=mem_iff_getElem.mp hb
   exact⟨i,hi,by simpa[hi]using h⟩
end
end L2
namespace L3
open PySem PySem.Spec L2 L5 PyProof.Rows
section
variable {X:Cx}
def NT:List D->Mem->br->Prop:=λ xs M Q=>∃(a:Addr) (bs:List Bool),xs=[.ref a]/\aY M a=some (bs.map D.bl)/\Q (.bl (bs.any id)) M
theorem NZ(hc:X.calm=true):cX X (.builtin "any") NT:=⟨_,tf hc,λ xs ds H M Q2 Q hd hm q k=>by
 obtain⟨a,bs,rfl,hM,q⟩:=q
 obtain⟨x,r,rfl,hx,hr⟩:=ag.mp hd
 cases(aq.mp hr)
 cases(aH.mp hx)
 obtain⟨ys,h,hy⟩:=cN hM hm
 exact⟨a,bs,rfl,dN.of (by rw[h,mC hy]),k _ H _ M (aB.mpr rfl) hm (ar.refl H) q⟩⟩
def Gw:List D->Mem->br->Prop:=λ ds M Q=>∃bs:List Bool,ds=bs.map D.bl/\Q (.bl (bs.any id)) M
theorem CA:jO NT Gw:=λ ds M p Q hp hz q=>by
 obtain⟨bs,rfl,q⟩:=q
 exact⟨p,bs,rfl,jl,M,(gB.refl M).put hp,q⟩
def Gu:List D->Mem->br->Prop:=λ xs M Q=>(∃b,xs=[.bl b]/\Q (.int (if b then 1 else 0)) M)\/∃i,xs=[.int i]/\Q (.int i) M
theorem Kq:cX X (.type "int") Gu:=⟨_,yr,λ xs ds H M Q2 Q hd hm q k=>by
 rcases q with⟨b,rfl,q⟩|⟨b,rfl,q⟩
 ·obtain⟨v,r,rfl,hv,hr⟩:=ag.mp hd
  cases(aq.mp hr)
  cases(aB.mp hv)
  exact .inr ⟨b,rfl,k _ H _ M (av.mpr rfl) hm (ar.refl H) q⟩
 ·obtain⟨v,r,rfl,hv,hr⟩:=ag.mp hd
  cases(aq.mp hr)
  cases(av.mp hv)
  exact .inl ⟨b,rfl,k _ H _ M (av.mpr rfl) hm (ar.refl H) q⟩⟩
def NB:eE:=λ x y M Q=>∃l k ds,x=.ref l/\y=.int k/\M l=some (.lst ds)/\-(2^63)<=k/\k < 2^63/\ds.length*k.toNat<=sizeLine/\∀p,M p=none->Q (.ref p) (aK M p (.lst (List.replicate k.toNat ds).flatten))
def BS:eE:=λ x y M Q=>wA x y M Q\/NB x y M Q
theorem jh:dC X (binaryOp .Mult) BS:=Jh.or ⟨_,IP,λ x y d e H M Q2 Q hd he hm q k=>by
 obtain⟨l,n,ds,rfl,rfl,hM,h1,h2,hz,q⟩:=q
 cases(aH.mp hd)
 cases(av.mp he)
 obtain⟨xs,hx,Ss⟩:=hm l _ hM
 exact⟨l,n,xs,rfl,rfl,hx,h1,h2,by rw[Ss.length];exact hz,λ p hp=>k _ _ (.ref p) _ (aH.mpr rfl) (df hp (mB Ss n.toNat) hm) (ar.laid hp) (q p (hm.free hp))⟩⟩
structure V4(M:Mem)(x y:D)(ds:List D):Prop where
 sq:dz M y=some ds
 ns:pV ds=true
 n:nr x=true
 EB:PyData.canLayAll0 (toPs ds)=true
 lay:(toP x).canLay0=true
 dep:(toP x).depth < 62
def NL(neg:Bool):eE:=λ x y M Q=>∃ds,V4 M x y ds/\Q (.bl (if neg then !ds.any (λ e=>PyData.eqv (toP e) (toP x))else ds.any λ e=>PyData.eqv (toP e) (toP x))) M
theorem Mn(neg:Bool)(hu:X.A.units+64 < cLine):dC X (compareOp (if neg then .NotIn else .In)) (NL neg):=⟨_,I_ neg hu,λ x y d e H M Q2 Q hd he hm q k=>by
 obtain⟨ds,ok,q⟩:=q
 obtain⟨p,xs,rfl,q1,x1⟩:=pA ok.sq he hm
 exact⟨_,p,xs,ds,d,rfl,⟨q1,x1,hd,ok.ns,ok.n,ok.EB,ok.lay,ok.dep⟩,k _ H _ M (aB.mpr rfl) hm (ar.refl H) q⟩⟩
def BU:eE:=λ x y M Q=>NO x y M Q\/NL false x y M Q
theorem iJ(hu:X.A.units+64 < cLine):dC X (compareOp .In) BU:=Qc.or (Mn false hu)
end
section
variable {M:Mem}{Q:br}
theorem zD{b:Bool}(q:Q (.int (if b then 1 else 0)) M):Gu [.bl b] M Q:=.inl ⟨b,rfl,q⟩
theorem iG{i j:Int}(h:qE i j)(q:Q (.int (i*j)) M):BS (.int i) (.int j) M Q:=.inl (zx h q)
theorem zv{i:Str}{j:Int}(h:MulOk i j)(q:Q (.str (Txt.mul i j)) M):BS (.str i) (.int j) M Q:=.inl (zw h q)
theorem Dj{i j:Str}(q:Q (.bl (!(Builtin.Str.occurrences j i 0 j.length 1).isEmpty)) M):BU (.str i) (.str j) M Q:=.inl (HF q)
theorem pL{x:D}{ds:List D}{b:Bool}(e:inD x ds=some b)(q:Q (.bl b) M):BU x (.tup ds) M Q:=.inl (HE e q)
theorem pM{x:D}{a:Addr}{ds:List D}{b:Bool}(h:M a=some (.lst ds))(e:inD x ds=some b)(q:Q (.bl b) M):BU x (.ref a) M Q:=.inl (HG h e q)
end
end L3
namespace L3
open PySem PySem.Spec L2 L5 PyProof.Rows
theorem CZ{tl:ft}{δ:cZ}{M:Mem}{R:Src->Mem->Prop}(h:tl δ M λ ds M1=>match ds with|[.int i,.int j]=>KA i/\KA j/\R (.fix (dY i (j - i).toNat)) M1|_=>False):AV tl δ M R:=h
def Gn(R:Src->Mem->Prop)(ds:List D)(M1:Mem):Prop:=match ds with
 |[.tup xs]=>R (.fix (fh xs)) M1
 |[x]=>(∃zs,dz M1 x=some zs)/\R (.fn (sE x)) M1
 |_=>False
theorem zE{ta:ft}{δ:cZ}{M:Mem}{R:Src->Mem->Prop}(h:ta δ M (Gn R)):AX ta δ M R:=h
theorem zF{xs:List D}{M:Mem}{R:Src->Mem->Prop}(h:R (.fix (fh xs)) M):Gn R [.tup xs] M:=h
end L3
namespace L2
open PySem PySem.Spec PyProof.Rows
section
variable {X:Cx}
def PN(K:PySem.W.Frag)(x y:V)(H:Hp)(Q:Bool->Prop):Prop:=(∃a o,y=.ref a/\nH H a x o/\Q o.isSome)\/∃a b aw k,y=.ref a/\x=.ref b/\nG K H a aw/\k.dep<=5/\gQ K H k (.ref b)/\Q (iz aw k).isSome
theorem D9(neg:Bool)(hu:X.A.units+64 < cLine):dE X (compareOp (if neg then .NotIn else .In)) (λ x y H Q=>PN X.K x y H λ b=>Q (.bl (if neg then !b else b)) H):=by
 intro pins s σ H x y v u Q I rx ry h
 rcases h with⟨a,o,rfl,g,q⟩|⟨a,b,aw,k,rfl,rfl,d,hk,we,q⟩
 ·cases(show u=Value.ref a from ry)
  cases neg with
  |false=>exact RE (by omega) I g rx λ s3 I3=>⟨.bl o.isSome,H,I3,rfl,q⟩
  |true=>exact Fh (by omega) I g rx λ s3 I3=>⟨.bl (!o.isSome),H,I3,rfl,q⟩
 ·cases(show u=Value.ref a from ry)
  cases(show v=Value.ref b from rx)
  cases neg with
  |false=>exact Pg hu I d hk we λ s3 I3=>⟨.bl (iz aw k).isSome,H,I3,rfl,q⟩
  |true=>exact CG hu I d hk we λ s3 I3=>⟨.bl (!(iz aw k).isSome),H,I3,rfl,q⟩
def LI(K:PySem.W.Frag)(x y:V)(H:Hp)(Q:VK):Prop:=(∃a v,x=.ref a/\nH H a y (some v)/\Q v H)\/∃a b aw k v,x=.ref a/\y=.ref b/\nG K H a aw/\k.dep<=5/\gQ K H k (.ref b)/\iz aw k=some v/\Q v H
theorem JG(hu:X.A.units+64 < cLine):vh X (λ x y H Q=>LI X.K x y H Q):=by
 intro value slice pins s σ H x y v u Q I rx ry h hs
 rcases h with⟨a,w,rfl,g,q⟩|⟨a,b,aw,k,w,rfl,rfl,d,hk,we,g,q⟩
 ·cases(show v=Value.ref a from rx)
  refine tail_any (ops:=[.ref a,u]) (sI I g) PySem.F.slot_dict_getitem.lookup ?_ hs
  exact yl (by omega) I g ry λ w' s3 I3 xk=>⟨w,H,I3,xk,q⟩
 ·cases(show v=Value.ref a from rx)
  cases(show u=Value.ref b from ry)
  obtain⟨_,_,xs,_,dd⟩:=d.of I
  refine tail_any (ops:=[.ref a,.ref b]) dd.typeIs PySem.F.slot_dict_getitem.lookup ?_ hs
  exact wZ hu I d hk we g λ w' s3 I3 xk=>⟨w,H,I3,xk,q⟩
def LH(K:PySem.W.Frag):yx:=λ o i v H Q=>(∃a H',o=.ref a/\Ca H a i v H'/\Q H')\/∃a b aw k,o=.ref a/\i=.ref b/\nG K H a aw/\k.dep<=5/\gQ K H k (.ref b)/\aw.length < sizeLine/\Q (upd H a (yh a (m_ aw k b v)))
theorem CO(hu:X.A.units+64 < cLine):qD X (LH X.K):=by
 intro pins s σ H o i v ov iv u Q I ro ri rv h
 rcases h with⟨a,H',rfl,g,q⟩|⟨a,b,aw,k,rfl,rfl,d,hk,we,hl,q⟩
 ·cases(show ov=Value.ref a from ro)
  exact yi (by omega) I g ri rv λ s3 I3=>⟨H',I3,q⟩
 ·cases(show ov=Value.ref a from ro)
  cases(show iv=Value.ref b from ri)
  exact wY hu I d hk we hl rv λ s3 I3=>⟨_,I3,q⟩
theorem vd:cY X (.builtin "len") (λ xs H Q=>∃a,xs=[.ref a]/\((∃aw,H a=some (.dK aw)/\Q (.int aw.length) H)\/∃aw,H a=some (yh a aw)/\Q (.int aw.length) H)):=by
 intro pins s σ H xs us Q I r h
 obtain⟨a,rfl,h⟩:=h
 obtain⟨u,rfl,ru⟩:=vals1 r
 cases(show u=Value.ref a from ru)
 rcases h with⟨aw,e,q⟩|⟨aw,e,q⟩
 ·exact Nz I (.inl e) λ t s' I'=>⟨.int aw.length,H,I',⟨t,rfl⟩,q⟩
 ·exact K4 I e λ t s' I'=>⟨.int aw.length,H,I',⟨t,rfl⟩,q⟩
end
end L2
namespace L3
open PySem PySem.Spec L2 L5 PyProof.Rows
noncomputable instance Vm:DecidableEq D:=λ a b=>Classical.propDecidable (a=b)
noncomputable def gp (aw:List (D×D))(k:D):Option D:=(aw.find? λ p=>decide (p.1=k)).map (·.2)
noncomputable def putD (aw:List (D×D))(k v:D):List (D×D):=if(gp aw k).isSome=true then aw.map (λ p=>if p.1=k then(p.1,v)else p)else aw++[(k,v)]
def tH(t:Bool)(x:D):Prop:=match t with
 |false=>∃k:Key,x=ng k
 |true=>∃ks:List IK,x=oA (.t ks)/\(IK.t ks).dep<=5
def yB(K:PySem.W.Frag)(H:Hp):Option D->Option V->Prop
 |none,none=>True
 |some d,some v=>Dat K H d v
 |_,_=>False
section
variable {K:PySem.W.Frag}{H:Hp}
theorem FK.look {aw:List (D×D)}{xs:List (Key×V)}(h:FK K H aw xs)(k:Key):yB K H (gp aw (ng k)) (hZ xs k):=by
 induction h with
 |nil=>exact True.intro
 |@cons p q ps qs EX t ih=>
  obtain⟨h1,h2⟩:=EX
  unfold gp hZ at ih ⊢
  by_cases e:q.1=k
  ·have e':p.1=ng k:=by rw[h1,e]
   simp only[u3,x3 e,x3 e',Option.map_some]
   exact h2
  ·have e':¬p.1=ng k:=λ z=>e (rV (h1.symm.trans z))
   simp only[u3,u4 e,u4 e']
   exact ih
theorem B_.look {aw:List (D×D)}{xs:List fq}(h:B_ K H aw xs)(k:IK):yB K H (gp aw (oA k)) (iz xs k):=by
 induction h with
 |nil=>exact True.intro
 |@cons p q ps qs EX t ih=>
  obtain⟨h1,_,_,h2⟩:=EX
  unfold gp iz at ih ⊢
  by_cases e:q.1=k
  ·have e':p.1=oA k:=by rw[h1,e]
   simp only[u3,x3 e,x3 e',Option.map_some]
   exact h2
  ·have e':¬p.1=oA k:=λ z=>e (qf (h1.symm.trans z))
   simp only[u3,u4 e,u4 e']
   exact ih
theorem yB.isSome {o:Option D}{u:Option V}(h:yB K H o u):o.isSome=u.isSome:=by
 cases o with
 |none=>cases u with
  |none=>rfl
  |some _=>exact(show False from h).elim
 |some _=>cases u with
  |none=>exact(show False from h).elim
  |some _=>rfl
theorem yB.some_of {d:D}{u:Option V}(h:yB K H (some d) u):∃v,u=some v/\Dat K H d v:=by
 cases u with
 |none=>exact(show False from h).elim
 |some v=>exact⟨v,rfl,h⟩
theorem B_.keys {a:Addr}{aw:List (D×D)}{xs:List fq}(h:B_ K H aw xs)(e:H a=some (yh a xs)):nG K H a xs:=by
 refine⟨e,?_⟩
 clear e
 induction h with
 |nil=>intro p hp;cases hp
 |@cons p q ps qs EX t ih=>
  intro x hx
  rcases y1.mp hx with rfl|hx
  ·obtain⟨h1,h2,h3,_⟩:=EX
   rw[h1]at h3
   exact⟨h2,mD _ h3⟩
  ·exact ih x hx
theorem zU(xs:List (Key×V))(k:Key)(v:V):putK xs k v=if(hZ xs k).isSome=true then xs.map (λ kv=>if kv.1=k then(kv.1,v)else kv)else xs++[(k,v)]:=by
 unfold putK
 rw[ll]
theorem FK.put {aw:List (D×D)}{xs:List (Key×V)}(h:FK K H aw xs)(k:Key){d:D}{v:V}(hd:Dat K H d v):FK K H (putD aw (ng k) d) (putK xs k v):=by
 rw[zU]
 unfold putD
 rw[(h.look k).isSome]
 by_cases e:(hZ xs k).isSome=true
 ·rw[A3 e,A3 e]
  clear e
  induction h with
  |nil=>exact .nil
  |@cons p q ps qs EX t ih=>
   rw[y0,y0]
   refine .cons ?_ ih
   obtain⟨h1,h2⟩:=EX
   by_cases e:q.1=k
   ·rw[A3 e,A3 (by rw[h1,e])];exact⟨h1,hd⟩
   ·rw[A4 e,A4 (λ z=>e (rV (h1.symm.trans z)))];exact⟨h1,h2⟩
 ·rw[A4 e,A4 e]
  exact Paired.snoc h ⟨rfl,hd⟩
theorem B_.put {aw:List (D×D)}{xs:List fq}(h:B_ K H aw xs)(k:IK){b:Addr}{d:D}{v:V}(hk:k.dep<=5)(hb:Dat K H (oA k) (.ref b))(hd:Dat K H d v):B_ K H (putD aw (oA k) d) (m_ xs k b v):=by
 unfold putD m_
 rw[(h.look k).isSome]
 by_cases e:(iz xs k).isSome=true
 ·rw[A3 e,A3 e]
  clear e
  induction h with
  |nil=>exact .nil
  |@cons p q ps qs EX t ih=>
   rw[y0,y0]
   refine .cons ?_ ih
   obtain⟨h1,h2,h3,h4⟩:=EX
   by_cases e:q.1=k
   ·rw[A3 e,A3 (by rw[h1,e])];exact⟨h1,h2,h3,hd⟩
   ·rw[A4 e,A4 (λ z=>e (qf (h1.symm.trans z)))];exact⟨h1,h2,h3,h4⟩
 ·rw[A4 e,A4 e]
  exact Paired.snoc h ⟨rfl,hk,hb,hd⟩
end
section
variable {X:Cx}
def NQ(neg:Bool):eE:=λ x y M Q=>∃a t aw,y=.ref a/\M a=some (.ir t aw)/\tH t x/\Q (.bl (if neg then !(gp aw x).isSome else(gp aw x).isSome)) M
theorem pw{K:PySem.W.Frag}{H:Hp}{ks:List IK}{v:V}(h:Dat K H (oA (.t ks)) v):∃b,v=.ref b:=by
 unfold oA at h
 obtain⟨p,xs,rfl,_⟩:=aJ.mp h
 exact⟨p,rfl⟩
theorem Jk(neg:Bool)(hu:X.A.units+64 < cLine):dC X (compareOp (if neg then .NotIn else .In)) (NQ neg):=⟨_,D9 neg hu,λ x y d e H M Q2 Q hd he hm q k=>by
 obtain⟨a,t,aw,rfl,hM,ok,q⟩:=q
 cases(aH.mp he)
 have hr:=hm a _ hM
 cases t with
 |false=>
  obtain⟨xs,hx,rel⟩:=hr
  obtain⟨kk,rfl⟩:=ok
  rw[qk hd]
  refine .inl ⟨a,_,rfl,nH.k hx,k _ H _ M (aB.mpr rfl) hm (ar.refl H) ?_⟩
  rw[<- (rel.look kk).isSome]
  exact q
 |true=>
  obtain⟨xs,hx,rel⟩:=hr
  obtain⟨ks,rfl,mj⟩:=ok
  obtain⟨b,rfl⟩:=pw hd
  refine .inr ⟨a,b,xs,_,rfl,rfl,rel.keys hx,mj,mD _ hd,k _ H _ M (aB.mpr rfl) hm (ar.refl H) ?_⟩
  rw[<- (rel.look _).isSome]
  exact q⟩
def NN:eE:=λ x y M Q=>BU x y M Q\/NQ false x y M Q
theorem Mo(hu:X.A.units+64 < cLine):dC X (compareOp .In) NN:=(iJ hu).or (Jk false hu)
def NR:eE:=λ x y M Q=>∃a t aw d,x=.ref a/\M a=some (.ir t aw)/\tH t y/\gp aw y=some d/\Q d M
def NJ:eE:=λ x y M Q=>Kj x y M Q\/NR x y M Q
theorem yQ(hu:X.A.units+64 < cLine):Oc X NJ:=by
 obtain⟨r,h1,h2⟩:=(L3.bN:Oc X Kj)
 refine⟨_,h1.or (JG hu),λ x y d e H M Q2 Q hd he hm q k=>?_⟩
 rcases q with q|⟨a,t,aw,w,rfl,hM,ok,hl,q⟩
 ·exact .inl (h2 x y d e H M Q2 Q hd he hm q k)
 ·cases(aH.mp hd)
  have hr:=hm a _ hM
  cases t with
  |false=>
   obtain⟨xs,hx,rel⟩:=hr
   obtain⟨kk,rfl⟩:=ok
   have hv:=rel.look kk
   rw[hl]at hv
   obtain⟨v,e1,e2⟩:=hv.some_of
   rw[qk he]
   exact .inr (.inl ⟨a,v,rfl,by rw[<- e1];exact nH.k hx,k _ H _ M e2 hm (ar.refl H) q⟩)
  |true=>
   obtain⟨xs,hx,rel⟩:=hr
   obtain⟨ks,rfl,mj⟩:=ok
   have hv:=rel.look (.t ks)
   rw[hl]at hv
   obtain⟨v,e1,e2⟩:=hv.some_of
   obtain⟨b,rfl⟩:=pw he
   exact .inr (.inr ⟨a,b,xs,_,v,rfl,rfl,rel.keys hx,mj,mD _ he,e1,k _ H _ M e2 hm (ar.refl H) q⟩)
def NP:iY:=λ o i v M N=>∃a t aw,o=.ref a/\M a=some (.ir t aw)/\tH t i/\aw.length < sizeLine/\N (aK M a (.ir t (putD aw i v)))
def Gp:iY:=λ o i v M N=>Fi o i v M N\/NP o i v M N
theorem qD.or {t u:yx}(h:qD X t)(g:qD X u):qD X (λ o i v H Q=>t o i v H Q\/u o i v H Q):=by
 intro pins s σ H o i v ov iv uu Q I ro ri rv q
 rcases q with q|q
 ·exact h pins s σ H o i v ov iv uu Q I ro ri rv q
 ·exact g pins s σ H o i v ov iv uu Q I ro ri rv q
theorem G4(hu:X.A.units+64 < cLine):B8 X Gp:=by
 obtain⟨r,h1,h2⟩:=(lH:B8 X Fi)
 refine⟨_,qD.or h1 (CO hu),λ o i v d j e H M Q2 Q hd hj he hm q k=>?_⟩
 rcases q with q|⟨a,t,aw,rfl,hM,ok,hl,q⟩
 ·exact .inl (h2 o i v d j e H M Q2 Q hd hj he hm q k)
 ·cases(aH.mp hd)
  have hr:=hm a _ hM
  cases t with
  |false=>
   obtain⟨xs,hx,rel⟩:=hr
   obtain⟨kk,rfl⟩:=ok
   rw[qk hj]
   have t:=ar.mut (o:=.dK (putK xs kk v)) hx (λ _ z=>by cases z) (λ _ _ z=>by cases z)
   refine .inr (.inl ⟨a,_,rfl,Ca.k hx (by rw[<- x8 rel];exact hl),k _ _ (hm.put (u:=.ir false (putD aw (ng kk) e)) t ⟨_,aS,(rel.put kk he).mono t⟩) t q⟩)
  |true=>
   obtain⟨xs,hx,rel⟩:=hr
   obtain⟨ks,rfl,mj⟩:=ok
   obtain⟨b,rfl⟩:=pw hj
   have t:=ar.mut (o:=yh a (m_ xs (.t ks) b v)) hx (λ _ z=>by cases z) (λ _ _ z=>by cases z)
   refine .inr (.inr ⟨a,b,xs,_,rfl,rfl,rel.keys hx,mj,mD _ hj,by rw[<- x8 rel];exact hl,k _ _ (hm.put (u:=.ir true (putD aw (oA (.t ks)) e)) t ⟨_,aS,(rel.put (.t ks) mj hj he).mono t⟩) t q⟩)
def Gq:List D->Mem->br->Prop:=λ xs M Q=>uW xs M Q\/∃a t aw,xs=[.ref a]/\M a=some (.ir t aw)/\Q (.int (aw.length:Nat)) M
theorem Kp:cX X (.builtin "len") Gq:=by
 obtain⟨r,h1,h2⟩:=(L3.c_:cX X (.builtin "len") uW)
 refine⟨_,h1.or vd,λ xs ds H M Q2 Q hd hm q k=>?_⟩
 rcases q with q|⟨a,t,aw,rfl,hM,q⟩
 ·exact .inl (h2 xs ds H M Q2 Q hd hm q k)
 ·obtain⟨x,r,rfl,hx,hr⟩:=ag.mp hd
  cases(aq.mp hr)
  cases(aH.mp hx)
  have hr:=hm a _ hM
  cases t with
  |false=>
   obtain⟨xs,hx,rel⟩:=hr
   exact .inr ⟨a,rfl,.inl ⟨xs,hx,by rw[<- x8 rel];exact k _ H _ M (av.mpr rfl) hm (ar.refl H) q⟩⟩
  |true=>
   obtain⟨xs,hx,rel⟩:=hr
   exact .inr ⟨a,rfl,.inr ⟨xs,hx,by rw[<- x8 rel];exact k _ H _ M (av.mpr rfl) hm (ar.refl H) q⟩⟩
def FT(t:Bool):bV:=λ _ M Q=>∀p,M p=none->Q (.ref p) (aK M p (.ir t []))
theorem Ii(t:Bool){pos:Pos}:QE X (.Dict [] [] pos) (FT t):=by
 cases t with
 |false=>
  refine bF Ak λ σ H Q ⟨δ,M,Q2,hs,hm,q,k⟩ p hp=>?_
  exact k _ _ (.ref p) _ (aH.mpr rfl) (hm.put (u:=.ir false []) (ar.laid hp) ⟨[],aS,.nil⟩) (ar.laid hp) (q p (hm.free hp))
 |true=>
  refine bF Al λ σ H Q ⟨δ,M,Q2,hs,hm,q,k⟩ p hp=>?_
  exact k _ _ (.ref p) _ (aH.mpr rfl) (hm.put (u:=.ir true []) (ar.laid hp) ⟨[],aS,.nil⟩) (ar.laid hp) (q p (hm.free hp))
end
end L3
namespace L4
open PySem PySem.Spec L2 L3 L5
theorem GI{X:Cx}(t:Bool){pos:Pos}:WE X (.Dict [] [] pos) (FT t):=⟨Ii t⟩
end L4
namespace L3
open PySem PySem.Spec L2 L5 PyProof.Rows
section
variable {Q:br}{M:Mem}{a:Addr}{aw:List (D×D)}{x y v d:D}{t:Bool}{N:Mem->Prop}{xs:List D}
theorem HH(h:M a=some (.ir t aw))(hk:tH t x)(q:Q (.bl (gp aw x).isSome) M):NN x (.ref a) M Q:=.inr ⟨a,t,aw,rfl,h,hk,q⟩
theorem pK(h:Kj x y M Q):NJ x y M Q:=.inl h
theorem CY(h:M a=some (.ir t aw))(hk:tH t x)(hl:aw.length < sizeLine)(q:N (aK M a (.ir t (putD aw x v)))):Gp (.ref a) x v M N:=.inr ⟨a,t,aw,rfl,h,hk,hl,q⟩
theorem zA(h:uW xs M Q):Gq xs M Q:=.inl h
end
end L3
namespace KK
open PySem L3 L4 L5
open L2 hiding bN uc
abbrev Row:=List Int
def Ol(a b:Row):Prop:=klt (eS b) (eS a)=false
theorem Ap{rs:List Row}{outD:List D}(h:Out (λ i j=>klt (eS (rs.getD i [])) (eS (rs.getD j []))) (rs.map row) D.aZ outD):∃out:List Row,outD=out.map row/\out.Perm rs/\out.Pairwise Ol:=by
 obtain⟨p,p1,p2,rfl⟩:=h
 rw[w5]at p1 p2
 have EZ:∀i∈p.toList,i < rs.length:=λ i hi=>by
  have:=(Array.Perm.mem_iff p1 (a:=i)).mp (by simpa using hi)
  simpa using this
 refine⟨p.toList.map λ i=>rs.getD i [],?_,?_,?_⟩
 ·rw[y7]
  refine map_congr_left λ i hi=>?_
  have:=EZ i hi
  simp[c7,this]
 ·have q:p.toList.Perm (List.range rs.length):=by
   have:=Array.perm_iff_toList_perm.mp p1
   simpa using this
  have q2:=q.map λ i=>rs.getD i []
  have e:(List.range rs.length).map (λ i=>rs.getD i [])=rs:=by
   apply ext_getElem?
   intro i
   by_cases hi:i < rs.length
   ·simp[hi,c7]
   ·simp[hi]
  rw[e]at q2
  exact q2
 ·rw[pairwise_map,pairwise_iff_getElem]
  intro i j hi hj oC
  have hz:=p1.size
  have OX:j < rs.length:=by rw[<- hz];simpa using hj
  have:=p2 i j (Nat.le_of_lt oC) OX
  have g:∀k (hk:k < p.toList.length),pg p k=p.toList[k]:=λ k hk=>by
   rw[iI]
   have E1:k < p.size:=by simpa using hk
   simp[E1]
  rw[g i hi,g j hj]at this
  exact this
end KK
namespace KK
open PySem L3 L4 L5
open L2 hiding bN uc
theorem Lp{α:Type}{ds:List α}{X:Prop}(h:ds.length<=16)(q:X):ds.length<=sizeLine/\X:=⟨y8 h (by decide),q⟩
theorem rf{M:Mem}{Q:br}(q:Q (.bl true) M):ym false .aZ .aZ M Q:=q
theorem Fb{P:Program}{w:World}{K:PySem.W.Frag}{mg:Str->Option Value}{base:Heap}{k:Nat}{f:Addr}{fd:FuncData}{ps:List Str}{sp:gV}(h:∀ds M Q,¬sp ds M Q):bh P w K mg base eO k f fd ps (cA K sp):=
 ⟨λ _ _ _ _ ⟨ds,M,Q,_,_,q,_⟩=>absurd q (h ds M Q),λ _ _ _ _ _ _ _ _ _ _ _ _ _ ⟨ds,M,Q,_,_,q,_⟩=>absurd q (h ds M Q)⟩
def RS:D->Prop
 | .aZ=>True| .bl _=>True| .int _=>True| .str _=>True|_=>False
def yy(M:Mem):Nat->D->D->Prop
 |0,_,_=>False
 |k+1,x,y=>(x=y/\RS x)\/(∃ds es,x=.tup ds/\y=.tup es/\ds.length=es.length/\ds.length<=10000/\∀(i:Nat) (d e:D),ds[i]?=some d->es[i]?=some e->yy M k d e)\/
  ∃p q ds es,x=.ref p/\y=.ref q/\M p=some (.lst ds)/\M q=some (.lst es)/\ds.length=es.length/\ds.length<=10000/\∀(i:Nat) (d e:D),ds[i]?=some d->es[i]?=some e->yy M k d e
theorem qU{M:Mem}{k:Nat}{ds:List D}(hl:ds.length<=10000)(h:∀d∈ds,yy M k d d):yy M (k+1) (.tup ds) (.tup ds):=
 .inr (.inl ⟨ds,ds,rfl,rfl,rfl,hl,λ i d e hd he=>by
  rw[hd]at he
  cases he
  exact h d (k4 hd)⟩)
def ze(k:Nat):gV:=λ ds M Q=>∃x y,ds=[x,y]/\yy M k x y/\Q (.bl true) M
theorem CK:∀ds M Q,¬ze 0 ds M Q:=λ ds M Q ⟨_,_,_,h,_⟩=>h
end KK
namespace L2
open PySem PySem.Spec PyProof.Rows
theorem n_(f:Array Value->Array Value)(o:Obj):(Obj.mapFields f o).dict=o.dict:=by
 unfold Obj.mapFields
 split <;> rfl
def RL(h:Heap)(e:Addr)(c:Value)(dx:Option Addr)(T:Addr):Prop:=
 ∃oe vs oT ts,h.get? e=some oe/\oe.cls=c/\oe.dict=dx/\oe.data=.fields vs/\vs[1]?=some (.ref T)/\T≠e/\h.get? T=some oT/\oT.data=.fields ts/\ts[3]?=some .none
structure RR(B:Heap)(l:List Env)(e:Addr)(c:Value)(dx:Option Addr)(h h':Heap):Prop where
 dU:B.StaysIn h'
 fr:h'.FunFrames B l
 tr:RL h' e c dx h.objs.size
 sl:∀b o,h.get? b=some o->(∀vs,o.data≠.fields vs)->∃z,h'.get? b=some {o with slots:=z}
section
variable {M:Model}{A:Around}{E:Value->Shared->Prop}{s:Shared}{B:Heap}{env:Env}{outer:List Env}{L e:Addr}{oe:Obj}{vs:Array Value}
theorem Ay{hd:Value}{hn:Bool}{Q:Unit->Shared->Prop}(E3:A.frames=some (env::outer))(hl:s.heap.FunFrames B (env::outer))(hf:env.frame=some L)
  (he:s.heap.get? e=some oe) (kB:B.StaysIn s.heap) (nB:B.get? e=none) (dv:oe.data=.fields vs) (sz:1 < vs.size)
  (q:∀h',RR B (env::outer) e oe.cls oe.dict s.heap h'->Q () {s with heap:=h'}):
  wpAny M A (do let a <- frameOf env;let p <- entryPlaceOf L hn;let b <- EntryCells.newEntry hd a .none (rawInt L) .none p;setField (.ref e) 1 b) (λ _ s'=>wpAny M A (setFlight (.ref e) none) Q E s') E s:=by
 have eF:e∉(env::outer).filterMap (·.frame):=λ z=>by
  obtain⟨_,o,ho,w⟩:=hl.mem z
  rw[he]at ho
  cases ho
  exact w vs dv
 refine z6 (wpAny_frameOf_fun E3 hl hf λ g hg=>z6 (wpAny_entryPlaceOf λ pl hpl=>?_))
 unfold EntryCells.newEntry newFields
 refine z6 (n6 ?_ (hpl.sizeOk5 _ _ _ _ _))
 have e1:g.get? e=some oe:=(hg.2.1 e eF).trans he
 have k1:B.StaysIn g:=λ b o z=>(hg.2.1 b λ y=>by rw[(hl.mem y).1]at z;cases z).trans (kB b o z)
 generalize hT:({cls:=.type "traceback",dict:=none,data:=.fields ([hd,.ref L,.none,rawInt L,.none]++(if pl.isEmpty then List.replicate 6 Value.none else pl)).toArray}:Obj)=nt
 have dT:nt.data=.fields ([hd,.ref L,.none,rawInt L,.none]++(if pl.isEmpty then List.replicate 6 Value.none else pl)).toArray:=by rw[<- hT]
 have e2:=j1 (h:=g) nt e1
 refine wpAny_setField e2 dv sz ?_
 have ne:g.objs.size≠e:=Nat.ne_of_gt (y4 e1)
 have d3:=Obj.data_mapFields dv (·.setIfInBounds 1 (Value.ref g.objs.size))
 have e3:=j3 (Obj.mapFields (·.setIfInBounds 1 (Value.ref g.objs.size))) e2 (Obj.isFreed_of_fields d3)
 have fN:nt.isFreed=false:=Obj.isFreed_of_fields dT
 have t3:=(j2 (g.push nt) (Obj.mapFields (·.setIfInBounds 1 (Value.ref g.objs.size))) ne.symm).trans (l5 g fN)
 unfold setFlight
 refine z6 (z5 e3 d3 (x:=.ref g.objs.size) (by simp[sz]) ?_)
 rw[A3 (show(Value.ref g.objs.size != Value.none)=true from by simp)]
 refine wpAny_setField t3 dT (by simp only[p4,l8,p8,length_nil] <;> omega) (q _ ?_)
 have kp:∀b o,b≠e->g.get? b=some o->(((g.push nt).update e (Obj.mapFields (·.setIfInBounds 1 (Value.ref g.objs.size)))).update g.objs.size (Obj.mapFields (·.setIfInBounds 3 ((none:Option Addr).elim Value.none λ f=>rawInt f)))).get? b=some o:=λ b o y z=>by
  rw[j2 _ _ (Nat.ne_of_gt (y4 z)),j2 _ _ y.symm]
  exact j1 _ z
 have nr:∀b o,s.heap.get? b=some o->(∀vs,o.data≠.fields vs)->b≠e:=λ b o z w y=>by
  rw[y,he]at z
  cases z
  exact w vs dv
 refine⟨λ b o z=>kp b o (λ y=>by rw[y,nB]at z;cases z) (k1 b o z),hl.of_keeps λ b o z w=>?_,?_,λ b o z w=>?_⟩
 ·obtain⟨sl,y⟩:=hg.2.2 b o z
  exact⟨_,kp b _ (nr b o z w) y,rfl⟩
 ·rw[<- hg.1]
  refine⟨_,_,_,_,?_,Obj.cls_mapFields _ _,n_ _ _,d3,by simp[sz],ne,j3 _ t3 (Obj.isFreed_of_fields (Obj.data_mapFields dT _)),Obj.data_mapFields dT _,by first|(simp;done)|(rcases hpl with rfl|⟨_,_,_,_,_,_,_,rfl⟩ <;> simp)⟩
  rw[j2 _ _ ne]
  exact e3
 ·obtain⟨sl,y⟩:=hg.2.2 b o z
  exact⟨sl,kp b _ (nr b o z w) y⟩
end
def nI(P:Program)(w:World):Cb:=λ outer H s E e s'=>∃(a:Addr) (c:Value) (dx:Option Addr) (T:Addr) (H':Hp),e=.ref a/\s'.os=s.os/\AllBare s'.gens/\Un (g_ outer) [] H H' s.heap s'.heap/\fw P w H' s'.heap/\
 s.heap.objs.size<=a/\s.heap.objs.size<=T/\H' a=none/\H' T=none/\RL s'.heap a c dx T/\E c dx H'
end L2
namespace L2
open PySem PySem.Spec PyProof.Rows
section
variable {prog:Program}{w:World}{A:Around}{E:Value->Shared->Prop}{h:Heap}{g:Array GenState}{d:Drawn}{t:Nat}{os:OsState}
variable {nm q:Str}{C N:Addr}{bs bm Fv:List Value}{hdct:Bool}{sn:List Str}{sub:List Value}{ab:Bool}{col:Option Bool}{dd:Option Addr}{k0 k1 k2 k3 k5:Option Value}{B Bn newId OO mf R_:String}{SN:List Value}
theorem tX(Fn:ExcBaseFacts Bn newId R_ SN)(O1:Fv.contains (.type Bn)=true)(F:ExcBaseFacts B OO mf Fv)(T:OwnTail h Fv bm){mN:Str->Option Value}{rest:List Value}{fI:Addr}{oI:Obj}{Q:Fin->Shared->Prop}
  (cl:h.get? C=some (excClassObj nm q C N bs bm hdct sn sub ab col dd k0 k1 k2 k3 k5 newId)) (ns:h.Ns N mN) (Qq:mN "__init__"=some (.ref fI)) (fo:h.get? fI=some oI) (fc:oI.cls=.type "function")
  (k:∀h' e,h.objs.size<=e->Heap.MadeExcOf h h' e (.ref C) rest->wpAny (model prog w) A (call (.ref fI) (.ref e::rest)) (λ r s'=>r=.none/\Q (.done (.ret (.ref e))) s') E ⟨h',g,d,t,os⟩) (qH:rest.length<=sizeLine):
  wpAny (model prog w) A (Builtin.«type.__call__» ⟨.ref C::rest,[]⟩) Q E ⟨h,g,d,t,os⟩:=by
 repeat(first|with_reducible refine wpAny_loadPart_at cl ?_|with_reducible refine wpAny_madeBy_exc cl ?_|wp_step)
 refine codeAny_call_builtin_code (Code.quiet_builtin _ Fn.quiet) (wpAny_check_new_subU Fn O1 T cl (codeAny_exc_new_subU Fn O1 F T cl ?_ qH))
 show wpAny _ _ _ _ _ _
 generalize Rp:(h.push {cls:=.type "tuple",data:=.seq rest.toArray}).push {cls:=.ref C,data:=.fields #[.ref h.objs.size,.none,.none,.none,.bool false,.none]}=h1
 have kp:∀b o,h.get? b=some o->h1.get? b=some o:=λ b o z=>by rw[<- Rp];exact j1 _ (j1 _ z)
 have ge:h1.get? (h.objs.size+1)=some {cls:=.ref C,data:=.fields #[.ref h.objs.size,.none,.none,.none,.bool false,.none]}:=by rw[<- Rp];heap_get
 have gt:h1.get? h.objs.size=some {cls:=.type "tuple",data:=.seq rest.toArray}:=by rw[<- Rp];exact j1 _ (Heap.get?_push_at rfl rfl)
 have SK:=kp _ _ cl
 have Tq:h1.Ns N mN:=ns.keeps kp
 have UX:=kp _ _ fo
 have T1:=T.keeps kp
 have cc:(Value.ref C::bm).contains (.ref C)=true:=by simp
 unfold isInstance
 repeat(first|with_reducible refine wpAny_loadPart_at ge ?_|(with_reducible refine wpAny_isSubtype_exc SK ?_;rw[cc])|wp_step)
 show wpAny _ _ (typeLookup (.ref C) _) _ _ _
 refine wpAny_typeLookup_tail SK Tq T1 F.mroIs F.init.lookup ?_
 rw[Qq]
 refine x5 (z6 ?_)
 unfold bindSpecial
 refine z6 (wpAny_typeOf (T:="function") ⟨_,UX,fc⟩ ?_)
 rw[A3 (by decide)]
 refine z7 (z6 (z9 (k h1 (h.objs.size+1) (Nat.le_succ _) ⟨kp,Heap.get?_none_of_le (Nat.le_succ _),h.objs.size,ge,Heap.get?_none_of_le (y9 _),gt⟩) (λ r s' hr=>?_) λ _ _ x=>x))
 obtain⟨rfl,z⟩:=hr
 wp_walk
 exact z
theorem yt(Fn:ExcBaseFacts Bn newId R_ SN)(O1:Fv.contains (.type Bn)=true)(F:ExcBaseFacts B OO mf Fv)(T:OwnTail h Fv bm){mN:Str->Option Value}{rest:List Value}{fI:Addr}{oI:Obj}{Q:Value->Shared->Prop}
  (cl:h.get? C=some (excClassObj nm q C N bs bm hdct sn sub ab col dd k0 k1 k2 k3 k5 newId)) (ns:h.Ns N mN) (Qq:mN "__init__"=some (.ref fI)) (fo:h.get? fI=some oI) (fc:oI.cls=.type "function")
  (k:∀h' e,h.objs.size<=e->Heap.MadeExcOf h h' e (.ref C) rest->wpAny (model prog w) (A.under (.builtin "type.__call__" ⟨.ref C::rest,[]⟩)) (call (.ref fI) (.ref e::rest)) (λ r s'=>r=.none/\Q (.ref e) s') E ⟨h',g,d,t,os⟩) (qH:rest.length<=sizeLine):
  wpAny (model prog w) A (call (.ref C) rest) Q E ⟨h,g,d,t,os⟩:=by
 have f1:=tc_lookup
 have f2:=tc_bind (.ref C)
 have ty:(⟨h,g,d,t,os⟩:Shared).TypeIs (.ref C) "type":=⟨_,cl,rfl⟩
 refine wpAny_call (codeAny_of_tree ?_)
 show wpAny _ _ (callAny (.ref C) _) _ _ _
 repeat(any_goals (first|assumption|with_reducible refine wpAny_loadPart_at cl ?_|wp_step))
 refine⟨rfl,codeAny_call_builtin_at (Code.quiet_builtin _ (by decide+kernel)) entry_typeCall (wpAny_check_type_call_sub cl (tX Fn O1 F T cl ns Qq fo fc (λ h' e le m=>?_) qH))⟩
 exact k h' e le m
end
section
variable {M:Model}{A:Around}{E:Value->Shared->Prop}{env:Env}{nm q:Str}{C N:Addr}{bs bm:List Value}{hdct:Bool}{sn:List Str}{sub:List Value}{ab:Bool}{col:Option Bool}{dd:Option Addr}{k0 k1 k2 k3 k5:Option Value}{newId:String}
theorem uh{s:Shared}{x:Sem Value}{Q:Flow->Shared->Prop}(hb:bm.contains (.type "BaseException")=true)(hh:A.handled=none)
  (k:wpAny M A x (λ v s1=>∃e oe vs,v=.ref e/\s1.heap.get? C=some (excClassObj nm q C N bs bm hdct sn sub ab col dd k0 k1 k2 k3 k5 newId)/\s1.heap.get? e=some oe/\oe.cls=.ref C/\oe.data=.fields vs/\vs[1]?=some .none/\E (.ref e) s1) E s):
  wpAny M A (raiseStmt env (some x) none) Q E s:=by
 have hc:(Value.ref C::bm).contains (.type "BaseException")=true:=by rw[contains_cons,hb,Bool.or_true]
 unfold raiseStmt
 refine z6 (z9 k (λ v s1 z=>?_) λ _ _ x=>x)
 obtain⟨e,⟨oc,od,da,sl⟩,vs,rfl,cl,he,rfl,rfl,h1,z⟩:=z
 obtain⟨hp,g,d,tk,os⟩:=s1
 repeat(first|with_reducible refine wpAny_loadPart_at he ?_|with_reducible refine wpAny_loadPart_at cl ?_|(with_reducible refine wpAny_isSubtype_exc cl ?_;rw[hc])|wp_step)
 rw[h1]
 refine z7 ?_
 rw[A4 (by decide)]
 exact z7 (wpAny_raiseNew_none hh z)
end
end L2
namespace L2
open PySem PySem.Spec PyProof.Rows
section
variable {prog:Program}{w:World}{A:Around}{E:Value->Shared->Prop}{h:Heap}{g:Array GenState}{d:Drawn}{t:Nat}{os:OsState}
variable {nm q:Str}{C N:Addr}{bs bm Fv:List Value}{hdct:Bool}{sn:List Str}{sub:List Value}{ab:Bool}{col:Option Bool}{dd:Option Addr}{k0 k1 k2 k3 k5:Option Value}{B newId OO mf:String}
theorem N0(F:ExcBaseFacts B OO mf Fv)(T:OwnTail h Fv bm){e t0:Addr}{us:List Value}{Q:Value->Shared->Prop}
  (cl:h.get? C=some (excClassObj nm q C N bs bm hdct sn sub ab col dd k0 k1 k2 k3 k5 newId)) (he:h.get? e=some {cls:=.ref C,data:=.fields #[.ref t0,.none,.none,.none,.bool false,.none]}) (qH:us.length<=sizeLine)
  (k:∀h',(∀b o,b≠e->h.get? b=some o->h'.get? b=some o)->h'.get? e=some {cls:=.ref C,data:=.fields #[.ref h.objs.size,.none,.none,.none,.bool false,.none]}->Q .none ⟨h',g,d,t,os⟩):
  wpAny (model prog w) A (call (.builtin mf) (.ref e::us)) Q E ⟨h,g,d,t,os⟩:=by
 refine wpAny_call (codeAny_call_builtin F.init.plain F.initEntry (wpAny_check_init_subU F T cl he rfl ?_))
 wp_walk
 refine k _ (λ b o ne z=>?_) ?_
 ·rw[j2 _ _ ne.symm]
  exact j1 _ z
 ·rw[j3 _ (j1 _ he) rfl]
  rfl
end
end L2
namespace L2
open PySem PySem.Spec PyProof.Rows Builtin Builtin.ObjectAttr
section
variable {prog:Program}{w:World}{A:Around}{E:Value->Shared->Prop}{K:PySem.W.Frag}{h:Heap}{g:Array GenState}{d:Drawn}{t:Nat}{os:OsState}{C x:Addr}{cd:ClassData}{mA:Str->Option Value}{name:Str}{v:Value}
theorem yM{Q:Unit->Shared->Prop}{ns:List Str}(X:K.In h)(hc:PySem.W.clsIn K C=some cd)(hp:∀self:Value,refuseLoop self "__setattr__" cd.mro=pure ())(ho:cd.mro.contains (.type "object")=true)(hdct:cd.hasDict=true)
  (hs:PySem.W.findIn K (.ref C) "__setattr__"=some (some (.builtin "object.__setattr__"))) (hn:PySem.W.findIn K (.ref C) name=some none) (I:h.Inst x C mA)
  (k:∀h' vo,h'.Inst x C (λ y=>if y=name then some v else mA y)->
   (∀b o,b≠x->(∀o0 dx,h.get? x=some o0->o0.dict=some dx->b≠dx)->h.get? b=some o->h'.get? b=some o)->
   (∀o0,h.get? x=some o0->∃o1,h'.get? x=some o1/\o1.cls=o0.cls/\o1.data=o0.data/\o1.slots=o0.slots/\(∀dx,o0.dict=some dx->o1.dict=some dx)/\(o0.dict=none->o1.dict=some h.objs.size))->Q () ⟨h',g,d,vo,os⟩) (hw:Within mA ns) (hz:ns.length<=1000):
  wpAny (model prog w) A (setAttr (.ref x) name v) Q E ⟨h,g,d,t,os⟩:=by
 have I0:=I
 obtain⟨o,hx,By,nc,dd⟩:=I
 have Ms:PySem.W.notCls o=true:=by
  obtain⟨oc,od,da,sl⟩:=o
  cases da <;> first|rfl|exact absurd rfl (nc _)
 have IA:∃od,PySem.W.InstAt h x o C od:=by
  rcases dd with⟨dn,_⟩|⟨dx,e,_,od,es,ep,q,_⟩
  ·exact⟨none,hx,By,Ms,by rw[dn];trivial⟩
  ·exact⟨some od,hx,By,Ms,by rw[e];exact q⟩
 obtain⟨od,IA⟩:=IA
 have ne:cd.mro.isEmpty=false:=by cases z:cd.mro with|nil=>rw[z]at ho;cases ho|cons _ _=>rfl
 have SF:=PySem.F.store_object
 refine PySem.W.set_plain (s:=⟨h,g,d,t,os⟩) X IA hs ?_
 have sub:PySem.W.Looks (model prog w) h (isInstance (.ref x) (.type "object")) true:=IA.type.andThen (PySem.W.looks_mroIn X (by unfold PySem.W.mroIn;rw[hc,Option.bind_some,A4 (by rw[ne];decide),ho]))
 refine codeAny_call_builtin SF.slot.plain SF.entry (@PySem.W.check_slot (model prog w) _ _ ⟨h,g,d,t+1,os⟩ "object.__setattr__" "object" "__setattr__" (.ref x) [.str name t,v] [] _ SF.kind SF.split sub (SF.args (.ref x) (.str name t) v) ?_)
 have hm:PySem.W.Looks (model prog w) h (mroOf (.ref C)) cd.mro:=(PySem.W.looks_clsIn X hc).andThen .now
 rw[PySem.W.osa_eq,refuse_eq]
 refine z6 (z6 (IA.type.here (z6 (hm.here ?_))))
 rw[hp]
 refine z7 (z6 (IA.type.here (z6 ((PySem.W.looks_findIn X hn).here (z6 (z7 ?_))))))
 obtain⟨oc,V9,OM,xB⟩:=o
 dsimp only at By nc dd
 subst By
 refine z6 (z7 (z6 (z6 (wpAny_loadPart hx (z6 ((PySem.W.looks_clsIn X hc).here ?_))))))
 rw[hdct]
 rcases dd with⟨rfl,Ub⟩|⟨dx,rfl,eG,KQ⟩
 ·rw[A4 (by decide)]
  dsimp only
  rw[A4 (by simp[typeHasDict])]
  have nx:x≠h.objs.size:=y3 (y4 hx)
  have Sd:(h.push {cls:=.type "dict",data:=.dict #[]}).get? x=some {cls:=.ref C,data:=OM,slots:=xB}:=j1 _ hx
  generalize gS:((h.push {cls:=.type "dict",data:=.dict #[]}).update x λ o=>{cls:=o.cls,dict:=some h.objs.size,data:=o.data,slots:=o.slots})=h2
  have gd:h2.get? h.objs.size=some {cls:=.type "dict",data:=.dict #[]}:=by rw[<- gS];exact(Heap.get?_update_ne _ _ _ _ nx.symm).trans (Heap.get?_push_at rfl rfl)
  have nd:h2.Ns h.objs.size (λ _=>none):=⟨_,#[],_,gd,rfl,λ e he=>absurd he (by simp),λ _=>rfl⟩
  have gx:h2.get? x=some {cls:=.ref C,dict:=some h.objs.size,data:=OM,slots:=xB}:=by
   rw[<- gS]
   refine j3 _ Sd ?_
   have fr:=(Heap.get?_some_iff.mp hx).2
   cases OM <;> first|rfl|exact fr
  have ot:∀b ob,b≠x->h.get? b=some ob->h2.get? b=some ob:=λ b ob nb z=>by
   rw[<- gS]
   exact(Heap.get?_update_ne _ _ _ _ nb).trans (j1 _ z)
  have fin:wpAny (model prog w) A.in1 (storeInDict h.objs.size (.str name t) name v) (λ fin s'=>match fin with| .done f=>(match(Except.ok f:Result)with| .ok (.ret _)=>Q () s'| .ok _=>False| .error e=>E e s')| .again c'=>c'.quiet=true/\codeAny (model prog w) A c' (λ r s'=>match r with| .ok (.ret _)=>Q () s'| .ok _=>False| .error e=>E e s') s') (λ e s'=>E e s') ⟨h2,g,d,t+1,os⟩:=by
   unfold storeInDict newKeyGuard
   refine z6 (z7 (z6 (wpAny_nsSet1 (Heap.Ns1.of_empty nd) λ h' EY KO=>?_)))
   obtain⟨oD,Ve,Vf,q1,q2,q3⟩:=EY.count (Within.cons name v Within.nil)
   refine z6 (wpAny_lookBehind q1 (by rw[q2];exact pastItsLine_dict (y8 q3 (by rw[p8,length_nil,z0];omega))) ?_)
   wp_walk
   have JM:h'.get? x=some {cls:=.ref C,dict:=some h.objs.size,data:=OM,slots:=xB}:=(KO.2 x nx).trans gx
   refine k h' _ ⟨_,JM,rfl,nc,.inr ⟨h.objs.size,rfl,nx.symm,?_⟩⟩ (λ b ob nb _ z=>?_) (λ o0 z=>?_)
   ·obtain⟨o',es,ep,e1,e2,e3,eu,e4⟩:=EY
    exact⟨o',es,ep,e1,e2,e3,eu,λ y=>by rw[e4 y];by_cases hy:y=name <;> simp[hy,Ub]⟩
   ·exact(KO.2 b (y3 (y4 z))).trans (ot b ob nb z)
   ·cases(u7 (hx.symm.trans z))
    exact⟨_,JM,rfl,rfl,rfl,(λ dx e=>by cases e),λ _=>rfl⟩
  split
  ·exact absurd rfl (nc _)
  ·refine z6 (wpAny_alloc' (z6 (wpAny_update' Sd ?_)))
   rw[gS]
   exact z7 (a:=some h.objs.size) fin
 ·refine z7 (a:=some dx) (z6 (z7 (z6 (wpAny_nsSet1 KQ λ h' EY KO=>?_))))
  obtain⟨oD,Ve,Vf,q1,q2,q3⟩:=EY.count (Within.cons name v hw)
  refine z6 (wpAny_lookBehind q1 (by rw[q2];exact pastItsLine_dict (y8 q3 (by rw[p8,z0];omega))) ?_)
  wp_walk
  refine k h' _ ⟨_,(KO.2 x eG.symm).trans hx,rfl,nc,.inr ⟨dx,rfl,eG,EY⟩⟩ (λ b ob _ nb z=>?_) (λ o0 z=>⟨o0,(KO.2 x eG.symm).trans z,rfl,rfl,rfl,(λ _ e=>e),λ e=>by cases(u7 (hx.symm.trans z));cases e⟩)
  exact(KO.2 b (nb _ dx hx rfl)).trans z
end
end L2
namespace L2
open PySem PySem.Spec PyProof.Rows
abbrev RH:List Value:=[.type "ValueError",.type "Exception",.type "BaseException",.type "object"]
def XO(e C:Addr)(od:Option Addr)(t:Addr):HO:=.ext λ h=>h.get? e=some {cls:=.ref C,dict:=od,data:=.fields #[.ref t,.none,.none,.none,.bool false,.none]}
structure vj(K:PySem.W.Frag)(C fI:Addr):Prop where
 ex:∃nm q N bs bm sn sub ab col dd k0 k1 k2 k3 k5,K.lookup C=some (excClassObj nm q C N bs bm true sn sub ab col dd k0 k1 k2 k3 k5 "ValueError.__new__")/\PySem.W.tailIn K RH bm=true/\PySem.W.nsOkIn K N=true/\PySem.W.nsIn K N "__init__"=some (some (.ref fI))
 fn:PySem.W.isFn K (.ref fI)=true
 kp:PySem.W.keepIn K (.ref C)=true
 sa:PySem.W.findIn K (.ref C) "__setattr__"=some (some (.builtin "object.__setattr__"))
structure GB(K:PySem.W.Frag)(C:Addr):Prop where
 ga:PySem.W.specialIn K (.ref C) "__getattribute__"=some (some (.builtin "type.__getattribute__"))
 rd:PySem.W.readsIn K C (.type "type")=true
 fi:PySem.W.findCls K (.ref C) (.type "type") "__init__"=some (.val (.builtin "ValueError.__init__"))
set_option tactic.hygienic true in
theorem uB{K:PySem.W.Frag}{h:Heap}{N:Addr}{mg:Str->Option Value}{n:Str}{v:Value}(X:K.In h)(G:h.Ns N mg)(e:PySem.W.nsIn K N n=some (some v)):mg n=some v:=by
 obtain⟨o,es,ep,ho,hd,_,hf⟩:=G
 unfold PySem.W.nsIn at e
 split at e
 ·rename_i c d Gk n' sl q
  have z:=X _ _ q
  rw[ho]at z
  cases z
  cases hd
  split at e
  ·rename_i en he
   rw[<- hf]
   unfold nsFind findBy
   rw[<- Array.find?_toList,he]
   cases e
   rfl
  ·split at e <;> cases e
 ·cases e
theorem q_{h:Heap}{bm:List Value}(T:OwnTail h RH bm)(self:Value):refuseLoop self "__setattr__" bm=pure ():=by
 induction T with
 |base=>exact PySem.F.store_ValueError.passes self
 |own _ _ _ _ ih=>rw[refuseLoop_ref];exact ih
theorem nL{x:V}{xs:List V}{us:List Value}(r:Vals (x::xs) us):∃u ws,us=u::ws/\RelV x u/\Vals xs ws:=by
 cases r with
 |cons a b=>exact⟨_,_,rfl,a,b⟩
section
variable {X:Cx}{pins:List (Addr×Obj)}{σ:St}{H:Hp}{s:Shared}{x m:Str}{p apos pos:Pos}{a:Expr}{as:List Expr}{t:TA}{HC:Addr}
def S9(K:PySem.W.Frag)(t:TA):TE:=λ σ H Q=>t σ H λ vs H1=>∃e C fI t0 us,vs=.ref e::us/\H1 e=some (XO e C none t0)/\vj K C fI/\us.length<=1000/\∀t1,Q .aZ (upd H1 e (XO e C none t1))
theorem An{pl:Sem Bool}(hg:Gl X x)(hm:X.mg x=some (.ref HC))(hb:GB X.K HC)(ha:PA X (a::as) t)(hdb:(x==("__debug__":Str))=false:=by decide)
  (hst:starEach (a::as) X.env=(false,eval a X.env)::starEach as X.env:=by rfl) (hpl:(backTo pos (starEach as X.env)).any (·.1)=false:=by rfl)
  (ht:eval (.Call (.Attribute (.Name x p) "__init__" apos) (a::as) [] pos) X.env=(do
   let ov <- eval (.Name x p) X.env
   standAt apos.atName
   let(f,Rv) <- holding [ov] (getMethod ov "__init__" pl)
   callWith pos f Rv (backTo pos (starEach (a::as) X.env)) (backToKw pos (keywordEach [] X.env))):=by rfl):
  PE X (.Call (.Attribute (.Name x p) "__init__" apos) (a::as) [] pos) (S9 X.K t):=by
 intro pins s σ H Q I h
 refine PySem.W.methodCall_KW (pl:=pl) (eJ I hg hm ?_ hdb) ht
 refine PySem.W.method_cls I.fV hb.ga (PySem.W.cls_value (expr:=false) I.fV hb.rd hb.fi rfl ?_)
 have hA:=ha pos pins _ σ H _ (I.tok (s.toks+1)) h
 rw[hst]at hA ⊢
 refine Calls.callWith_builtin (by show(false||(backTo pos (starEach as X.env)).any (·.1))=false;rw[hpl] <;> rfl) (Calls.evalArgs_plain (ck hA λ us s2 ⟨vs,H2,I2,r2,q2⟩=>?_))
 obtain⟨e,C,fI,t0,ws,rfl,he,ec,qH,q⟩:=q2
 obtain⟨nm,q0,N,bs,bm,sn,sub,ab,col,dd,k0,k1,k2,k3,k5,cl,tl,no,ni⟩:=ec.ex
 obtain⟨u,RX,rfl,ru,rs⟩:=nL r2
 obtain rfl:u=Value.ref e:=ru
 obtain⟨ho,_,st⟩:=I2.a_ e _ he
 have hl:RX.length=ws.length:=rs.length.symm
 obtain⟨h2,g2,d2,KH,P_⟩:=s2
 refine N0 PySem.F.excBase_ValueError (PySem.W.tail_of_in I2.fV tl) (I2.fV _ _ cl) ho (by rw[hl];exact y8 qH (by decide)) λ h' kp hn=>?_
 refine⟨.aZ,_,I2.write (h':=h') (t':=KH) (x:=e) (e:=e) (o:=XO e C none h2.objs.size) (by rw[he];trivial) (.inl rfl) (λ b u nb z=>kp b u nb z) ⟨_,hn⟩ ⟨hn,⟨_,hn⟩,λ h1 h2 z w=>w _ z⟩,rfl,q _⟩
def XD(dx:Addr)(fs:List (Str×V)):HO:=.ext λ h=>∃mA,h.Ns1 dx mA/\∀f,fX (fs.lookup f) (mA f)
theorem XD.ok {P:Program}{w:World}{H:Hp}{h:Heap}{dx:Addr}{fs:List (Str×V)}{mA:Str->Option Value}(n:h.Ns1 dx mA)(r:∀f,fX (fs.lookup f) (mA f)):bA P w H h dx (XD dx fs):=by
 refine⟨⟨mA,n,r⟩,?_,?_⟩
 ·obtain⟨o,es,ep,e,_⟩:=n
  exact⟨o,e⟩
 ·rintro h1 h2 ⟨m1,⟨o,es,ep,e,z⟩,r1⟩ k
  exact⟨m1,⟨o,es,ep,k _ e,z⟩,r1⟩
theorem Un.FC {fs ex:List Addr}{H H1:Hp}{h h1:Heap}{b0:Addr}{o:HO}(u:Un fs ex H H1 h h1)(hf:h.objs.size<=b0)(hn:H b0=none):Un fs ex H (upd H1 b0 o) h h1 where
 keep:=u.keep
 slot:=u.slot
 free:=λ b ob q n x=>by rw[az (λ z=>absurd (y4 q) (by rw[z];exact Nat.not_lt.mpr hf))];exact u.free b ob q n x
 there:=u.there
 eZ:=λ b xs q=>by rw[az (λ z=>by rw[z,hn]at q;cases q)];exact u.eZ b xs q
 eT:=λ b ob v q=>by rw[az (λ z=>by rw[z,hn]at q;cases q)];exact u.eT b ob v q
 fE:=λ b ps q=>by rw[az (λ z=>by rw[z,hn]at q;cases q)];exact u.fE b ps q
theorem fw.FC {P:Program}{w:World}{H:Hp}{h:Heap}{b0:Addr}{o:HO}(ok:fw P w H h)(hn:H b0=none)(new:bA P w (upd H b0 o) h b0 o):fw P w (upd H b0 o) h:=λ b u q=>by
 by_cases e:b=b0
 ·subst e;rw[aS]at q;cases q;exact new
 ·rw[az e]at q
  refine(ok b u q).dU (λ _ _ _ z=>z) (λ c z=>?_) λ c xs z=>?_
  ·rw[az (λ y=>by rw[y,hn]at z;cases z)];exact z
  ·rw[az (λ y=>by rw[y,hn]at z;cases z)];exact z
def Tc(K:PySem.W.Frag)(ta tv:TE)(f:Str):TS:=λ D σ H=>tv σ H λ y H1=>ta σ H1 λ v H2=>∃e C fI t0,v=.ref e/\vj K C fI/\PySem.W.findIn K (.ref C) f=some none/\
 ((H2 e=some (XO e C none t0)/\∀dx,H2 dx=none->dx≠e->D.nx σ (upd (upd H2 e (XO e C (some dx) t0)) dx (XD dx [(f,y)])))\/
  ∃dx fs,H2 e=some (XO e C (some dx) t0)/\H2 dx=some (XD dx fs)/\dx≠e/\fs.length<=900/\D.nx σ (upd H2 dx (XD dx ((f,y)::fs))))
theorem nV{f:Str}{y:V}{u:Value}{fs:List (Str×V)}{mA:Str->Option Value}(r:RelV y u)(h:∀n,fX (fs.lookup n) (mA n))(n:Str):fX (((f,y)::fs).lookup n) (if n=f then some u else mA n):=by
 by_cases e:n=f
 ·subst e
  rw[A3 rfl]
  simp only[List.lookup,beq_self_eq_true]
  exact r
 ·rw[A4 e]
  simp only[List.lookup,beq_eq_false_iff_ne.mpr e]
  exact h n
theorem FX{f:Str}{o value:Expr}{ta tv:TE}{pos':Pos}(ho:PE X o ta)(hv:PE X value tv)(hs:swapsWith value (some (.Attribute o f pos')) pos.line X.env=pure false:=by rfl):PS X (.Assign [.Attribute o f pos'] value pos) (Tc X.K ta tv f):=by
 intro pins s σ H D I h
 refine plainObj_wpAny_Assign_Attribute (ck (hv pins s σ H _ I h) λ u s1 ⟨y,H1,I1,ry,q⟩=>ck (ho pins s1 σ H1 _ I1 q) λ ov s2 ⟨v,H2,I2,rx,e,C,fI,t0,ev,ec,hn,q2⟩=>?_) hs
 subst ev
 obtain rfl:ov=Value.ref e:=rx
 obtain⟨nm,q0,N,bs,bm,sn,sub,ab,col,dd,k0,k1,k2,k3,k5,cl,tl,no,ni⟩:=ec.ex
 obtain⟨hp,g2,d2,KH,P_⟩:=s2
 have T:=PySem.W.tail_of_in I2.fV tl
 have hc:∃cd:ClassData,PySem.W.clsIn X.K C=some cd/\cd.mro=.ref C::bm/\cd.hasDict=true:=by
  refine⟨_,by unfold PySem.W.clsIn;rw[cl],rfl,rfl⟩
 obtain⟨cd,hc,MS,hdct⟩:=hc
 have MM:∀self:Value,refuseLoop self "__setattr__" cd.mro=pure ():=λ self=>by rw[MS,refuseLoop_ref];exact q_ T self
 have MQ:cd.mro.contains (.type "object")=true:=by rw[MS,contains_cons,T.hasType (b:=true) (by decide),Bool.or_true]
 rcases q2 with⟨he,q⟩|⟨dx,fs,he,hd,ne,qH,q⟩
 ·obtain⟨hx,_,_⟩:=I2.a_ e _ he
  refine yM (mA:=λ _=>none) (ns:=[]) I2.fV hc MM MQ hdct ec.sa hn ⟨_,hx,rfl,(λ c z=>by cases z),.inl ⟨rfl,λ _=>rfl⟩⟩ (λ h' vo hi kp sm=>?_) (λ n z=>absurd rfl z) (z4 _)
  obtain⟨⟨oc,od,da,sl⟩,Bo,c1,Ny,Lk,_,dn⟩:=sm _ hx
  have e9:od=some hp.objs.size:=dn rfl
  clear dn
  have nx:hp.objs.size≠e:=Nat.ne_of_gt (y4 hx)
  have fr:H2 hp.objs.size=none:=I2.a_.fresh (y9 _)
  dsimp only at c1 Ny Lk
  subst c1 Ny Lk e9
  have Ci:h'.Ns1 hp.objs.size (λ y'=>if y'=f then some u else none):=by
   obtain⟨o2,z1,_,_,z2⟩:=hi
   rw[Bo]at z1
   cases z1
   rcases z2 with⟨z,_⟩|⟨d',z,_,z3⟩
   ·cases z
   ·cases z;exact z3
  have OQ:∀b w,b≠e->hp.get? b=some w->h'.get? b=some w:=λ b w nb z=>kp b w nb (λ o0 dx z1 z2=>by rw[hx]at z1;cases z1;cases z2) z
  have W:=I2.a_.write (h':=h') (x:=e) (e:=e) (o':=XO e C (some hp.objs.size) t0) (by rw[he];trivial) (.inl rfl) OQ ⟨_,Bo⟩ ⟨Bo,⟨_,Bo⟩,λ h1 h2 z w=>w _ z⟩
  have U:Un X.fs [] H2 (upd H2 e (XO e C (some hp.objs.size) t0)) hp h':=Un.write (by rw[he];trivial) (.inl rfl) OQ ⟨_,Bo⟩
  have n2:upd H2 e (XO e C (some hp.objs.size) t0) hp.objs.size=none:=by rw[az nx];exact fr
  exact⟨σ,_,I2.un (s:=⟨hp,g2,d2,KH,P_⟩) (t':=vo) (U.FC (y9 _) fr) (W.FC n2 (XD.ok Ci (nV (fs:=[]) ry λ _=>trivial))),q _ fr nx⟩
 ·obtain⟨hx,_,_⟩:=I2.a_ e _ he
  obtain⟨⟨mA,KQ,hr⟩,_,_⟩:=I2.a_ dx _ hd
  have hw:Within mA (fs.map (·.1)):=λ n z=>by
   have y:=hr n
   cases e1:fs.lookup n with
   |none=>rw[e1]at y;cases e2:mA n with
    |none=>exact absurd e2 z
    |some w=>rw[e2]at y;exact y.elim
   |some w=>exact y6.mpr ⟨_,l0 e1,rfl⟩
  refine yM (mA:=mA) (ns:=fs.map (·.1)) I2.fV hc MM MQ hdct ec.sa hn ⟨_,hx,rfl,(λ c z=>by cases z),.inr ⟨dx,rfl,ne,KQ⟩⟩ (λ h' vo hi kp sm=>?_) hw (by rw[w5];omega)
  obtain⟨⟨oc,od,da,sl⟩,Bo,c1,Ny,Lk,dk,_⟩:=sm _ hx
  have e9:od=some dx:=dk dx rfl
  clear dk
  dsimp only at c1 Ny Lk
  subst c1 Ny Lk e9
  have Ci:h'.Ns1 dx (λ y'=>if y'=f then some u else mA y'):=by
   obtain⟨o2,z1,_,_,z2⟩:=hi
   rw[Bo]at z1
   cases z1
   rcases z2 with⟨z,_⟩|⟨d',z,_,z3⟩
   ·cases z
   ·cases z;exact z3
  have OQ:∀b w,b≠dx->hp.get? b=some w->h'.get? b=some w:=λ b w nb z=>by
   by_cases eb:b=e
   ·subst eb;rw[hx]at z;cases z;exact Bo
   ·exact kp b w eb (λ o0 d0 z1 z2=>by rw[hx]at z1;cases z1;cases z2;exact nb) z
  have Vd:∃w,h'.get? dx=some w:=by obtain⟨o',es,ep,z,_⟩:=Ci;exact⟨o',z⟩
  exact⟨σ,_,I2.write (s:=⟨hp,g2,d2,KH,P_⟩) (t':=vo) (x:=dx) (e:=dx) (by rw[hd];trivial) (.inl rfl) OQ Vd (XD.ok Ci (nV ry hr)),q⟩
end
end L2
namespace L2
open PySem PySem.Spec PyProof.Rows
def KW(H:Hp)(e:Addr):Hp:=λ b=>if b=e then none else H b
theorem iT{H:Hp}{e:Addr}:KW H e e=none:=A3 rfl
theorem eB{H:Hp}{e b:Addr}(h:b≠e):KW H e b=H b:=A4 h
section
variable {X:Cx}{pins:List (Addr×Obj)}{σ:St}{H:Hp}{s:Shared}{C fI:Addr}{k:Nat}{fd:FuncData}{ps:List Str}{sp:Sp}
theorem CQ{us:List Value}{vs:List V}{R:Addr->Hp->Prop}(I:Inv X pins σ H s)(ec:vj X.K C fI)(F:bh X.prog X.w X.K X.mg X.base eO k fI fd ps sp)(hr:bC (k+1) X.A)(hb:Binds X.K fd ps [])(r:Vals vs us)(qH:vs.length<=1000)
  (h:∀e t,H e=none->sp (.ref e::vs) (upd H e (XO e C none t)) (λ v H2=>v=.aZ/\R e H2) E0):
  wpAny (model X.prog X.w) X.A (call (.ref C) us) (λ v s'=>∃e H2,v=.ref e/\X.s₀.heap.objs.size<=e/\Inv X pins σ H2 s'/\R e H2) X.xe s:=by
 obtain⟨nm,q0,N,bs,bm,sn,sub,ab,col,dd,k0,k1,k2,k3,k5,cl,tl,no,ni⟩:=ec.ex
 obtain⟨hp,g,d,tk,os⟩:=s
 have KX:=I.fV
 have NS:hp.Ns N (hp.nsMap N):=.of_isNs (PySem.W.isNs_of_in KX no)
 have hf:∃oI,hp.get? fI=some oI/\oI.cls=.type "function":=by
  have z:PySem.W.typeIn X.K (.ref fI)=some (.type "function"):=beq_iff_eq.mp ec.fn
  obtain⟨o,ho,e⟩:=Option.map_eq_some_iff.mp z
  exact⟨o,KX _ _ ho,e⟩
 obtain⟨oI,fo,fc⟩:=hf
 refine yt PySem.F.excBase_ValueError (by decide) PySem.F.excBase_ValueError (PySem.W.tail_of_in KX tl) (KX _ _ cl) NS (uB KX NS ni) fo fc (λ h' e le m=>?_) (by rw[<- r.length];exact y8 qH (by decide))
 obtain⟨kp,_,t0,he,_,ht⟩:=m
 have fr:H e=none:=I.a_.fresh le
 have hq:=h e t0 fr
 have I2:Inv X pins σ (upd H e (XO e C none t0)) ⟨h',g,d,tk,os⟩:=I.laid (s:=⟨hp,g,d,tk,os⟩) (t':=tk) kp le ⟨he,⟨_,he⟩,λ h1 h2 z w=>w _ z⟩
 have r2:Vals (V.ref e::vs) (Value.ref e::us):=.cons rfl r
 have hl:(Value.ref e::us++[]).length=ps.length:=by
  rw[s9,<- r2.length]
  exact F.len _ _ _ _ hq
 have bd:=hb ⟨h',g,d,tk,os⟩ (Value.ref e::us) I2.fV hl
 rw[s9]at bd
 refine wpAny_call (codeAny_mono (F.run _ X.stack _ _ ⟨Value.ref e::us,[]⟩ (Value.ref e::us) _ _ E0 (hr.make C us []) (I2.Fe.make C us []) bd r2 hq) λ r s' MJ=>?_)
 cases r with
 |error x=>exact MJ.elim
 |ok fl=>
  cases fl with
  |ret u=>
   obtain⟨v,H',I3,rv,ev,q3⟩:=I2.after MJ
   subst ev
   exact⟨rv,e,H',rfl,y8 I.sz le,I3,q3⟩
  |next=>exact False.elim MJ
  |brk=>exact False.elim MJ
  |cont=>exact False.elim MJ
def ik(X:Cx)(E:XK):Prop:=∀(pins:List (Addr×Obj)) (σ:St) (H:Hp) (s:Shared) (e C t:Addr) (od:Option Addr),Inv X pins σ H s->X.s₀.heap.objs.size<=e->H e=some (XO e C od t)->E (.ref C) od (KW H e)->X.xe (.ref e) s
def GV(sp:Sp)(C:Addr)(E:XK)(t:TA):TS:=λ _ σ H=>t σ H λ vs H1=>vs.length<=1000/\∀e t0,H1 e=none->sp (.ref e::vs) (upd H1 e (XO e C none t0)) (λ v H2=>v=.aZ/\∃od t1,H2 e=some (XO e C od t1)/\E (.ref C) od (KW H2 e)) E0
theorem z_{E:XK}{x:Str}{np bT pos:Pos}{a:Expr}{as:List Expr}{t:TA}(hs:ik X E)(hc:X.calm=true)(hg:Gl X x)(hm:X.mg x=some (.ref C))(ec:vj X.K C fI)(F:bh X.prog X.w X.K X.mg X.base eO k fI fd ps sp)(hr:bC (k+1) X.A)(hb:Binds X.K fd ps [])
  (ha:PA X (a::as) t) (hdb:(x==("__debug__":Str))=false:=by decide) (he:starEach (a::as) X.env=(false,eval a X.env)::starEach as X.env:=by rfl) (hpl:(backTo bT (starEach as X.env)).any (·.1)=false:=by rfl):
  PS X (.Raise (some (.Call (.Name x np) (a::as) [] bT)) none pos) (GV sp C E t):=by
 intro pins s σ H D I h
 obtain⟨nm,q0,N,bs,bm,sn,sub,ab,col,dd,k0,k1,k2,k3,k5,cl,tl,no,ni⟩:=ec.ex
 have T:=PySem.W.tail_of_in I.fV tl
 rw[arm_exec_Raise]
 refine z6 (wpAny_standAt (uh (C:=C) (nm:=nm) (q:=q0) (N:=N) (bs:=bs) (bm:=bm) (hdct:=true) (sn:=sn) (sub:=sub) (ab:=ab) (col:=col) (dd:=dd) (k0:=k0) (k1:=k1) (k2:=k2) (k3:=k3) (k5:=k5) (newId:="ValueError.__new__") (T.hasType (b:=true) (by decide)) (I.ok.hd hc) ?_))
 refine z6 (z9 (m9 (eJ I hg hm (PySem.W.callWith_K (h₀:=X.base) I.ok.mod.KL ec.kp (ck (ha bT pins s σ H _ I h) λ us s1 ⟨vs,H1,I1,r,qH,q⟩=>⟨I1.fV,CQ I1 ec F hr hb r qH q⟩) he hpl) hdb)) (λ v s3 z=>z6 (wpAny_standAt (z7 ?_))) λ _ _ z=>z)
 obtain⟨e,H2,rfl,le,J,od,t1,hx,q⟩:=z
 obtain⟨ho,_,_⟩:=J.a_ e _ hx
 exact⟨e,_,_,rfl,J.fV _ _ cl,ho,rfl,rfl,rfl,hs pins σ H2 s3 e C t1 od J le hx q⟩
end
end L2
namespace L2
open PySem PySem.Spec PyProof.Rows
section
variable {M:Model}{A:Around}{E:Value->Shared->Prop}{s:Shared}{B:Heap}{env:Env}{outer:List Env}{L e:Addr}
theorem Mr{c:Value}{dx:Option Addr}{T:Addr}{Q:Unit->Shared->Prop}(E3:A.frames=some (env::outer))(hl:s.heap.FunFrames B (env::outer))(hf:env.frame=some L)(t:RL s.heap e c dx T)(nT:B.get? T=none)
  (kB:B.StaysIn s.heap) (nB:B.get? e=none) (q:∀h',RR B (env::outer) e c dx s.heap h'->Q () {s with heap:=h'}):wpAny M A (noteFrame (.ref e) env) (λ _ s2=>wpAny M A (setFlight (.ref e) none) Q E s2) E s:=by
 obtain⟨oe,vs,oT,ts,he,rfl,rfl,dv,h1,ne,hT,dT,h3⟩:=t
 unfold noteFrame
 simp only[hf]
 refine z6 (z5 he dv h1 ?_)
 rw[A3 (show(Value.ref T != Value.none)=true from by simp)]
 refine z6 (z5 hT dT h3 ?_)
 rw[A4 (show ¬((Value.none==rawInt L)=true)from by simp[rawInt])]
 refine z6 (wpAny_setField hT dT (Array.getElem?_eq_some_iff.mp h3).1 ?_)
 have ot:∀b,b≠T->(s.heap.update T (Obj.mapFields (·.setIfInBounds 3 Value.none))).get? b=s.heap.get? b:=λ b y=>j2 _ _ y.symm
 have nr:∀b o,s.heap.get? b=some o->(∀vs,o.data≠.fields vs)->b≠T:=λ b o z w y=>by
  rw[y,hT]at z
  cases z
  exact w ts dT
 exact Ay E3 (hl.of_keeps λ b o z w=>⟨o,(ot b (nr b o z w)).trans z,rfl⟩) hf ((ot e ne.symm).trans he) (λ b o z=>(ot b λ y=>by rw[y,nT]at z;cases z).trans (kB b o z)) nB dv (Array.getElem?_eq_some_iff.mp h1).1
  λ h' x=>q h' ⟨x.dU,x.fr,by have z:=x.tr;rw[show(s.heap.update T (Obj.mapFields (·.setIfInBounds 3 Value.none))).objs.size=s.heap.objs.size from Heap.size_update _ _ _]at z;exact z,λ b o z w=>x.sl b o ((ot b (nr b o z w)).trans z) w⟩
end
theorem Un.N4 {fs ex:List Addr}{H H1:Hp}{h h1:Heap}{b0:Addr}{o:HO}(u:Un fs ex H H1 h h1)(hf:h.objs.size<=b0)(hn:H1 b0=none):Un fs ex H (upd H1 b0 o) h h1 where
 keep:=u.keep
 slot:=u.slot
 free:=λ b ob q n x=>by rw[az (λ z=>absurd (y4 q) (by rw[z];exact Nat.not_lt.mpr hf))];exact u.free b ob q n x
 there:=u.there
 eZ:=λ b xs q=>by have y:=u.eZ b xs q;rw[az (λ z=>by rw[z,hn]at y;cases y)];exact y
 eT:=λ b ob v q=>by have y:=u.eT b ob v q;rw[az (λ z=>by rw[z,hn]at y;cases y)];exact y
 fE:=λ b ps q=>by obtain⟨m,y⟩:=u.fE b ps q;exact⟨m,by rw[az (λ z=>by rw[z,hn]at y;cases y)];exact y⟩
theorem Un.jA {fs ex:List Addr}{H H1:Hp}{h h1 h2:Heap}{b0:Addr}(u:Un fs ex H H1 h h1)(hf:h.objs.size<=b0)(k:∀b o,b≠b0->h1.get? b=some o->h2.get? b=some o):Un fs ex H H1 h h2 where
 keep:=λ b o q n m x=>k b o (λ z=>absurd (y4 q) (by rw[z];exact Nat.not_lt.mpr hf)) (u.keep b o q n m x)
 slot:=λ b o q n m x=>by obtain⟨z,y⟩:=u.slot b o q n m x;exact⟨z,k b _ (λ z=>absurd (y4 q) (by rw[z];exact Nat.not_lt.mpr hf)) y⟩
 free:=u.free
 there:=λ b o q x=>by obtain⟨o',y⟩:=u.there b o q x;exact⟨o',k b _ (λ z=>absurd (y4 q) (by rw[z];exact Nat.not_lt.mpr hf)) y⟩
 eZ:=u.eZ
 eT:=u.eT
 fE:=u.fE
theorem fw.jA {P:Program}{w:World}{H:Hp}{h h2:Heap}{b0:Addr}(ok:fw P w H h)(hn:H b0=none)(k:∀b o,b≠b0->h.get? b=some o->h2.get? b=some o):fw P w H h2:=λ b u q=>by
 refine(ok b u q).dU (λ d v y z=>k d v (λ e=>?_) z) (λ _ z=>z) λ _ _ z=>z
 rcases y with rfl|y
 ·rw[e,hn]at q;cases q
 ·rw[e,hn]at y;cases y
section
variable {X:Cx}{pins:List (Addr×Obj)}{σ:St}{H H':Hp}{s s':Shared}{a T:Addr}{h':Heap}{c:Value}{dx:Option Addr}{as:List Addr}
theorem Ey(I:Inv X pins σ H s)(un:Un (g_ X.stack) [] H H' s.heap s'.heap)(a_:fw X.prog X.w H' s'.heap)(dJ:s'.os=s.os)(bare:AllBare s'.gens)(ha:∀b∈as,s.heap.objs.size<=b/\H' b=none)
  (l:RR (PySem.W.hideAll s'.heap (g_ X.stack++as)) X.stack a c dx s'.heap h'):Un (g_ X.stack) [] H H' s.heap h'/\fw X.prog X.w H' h':=by
 have J:Inv X pins σ H' s':=I.oO dJ un a_ bare λ b z=>absurd z (by simp)
 have kp:∀b o,s'.heap.get? b=some o->b∉g_ X.stack->b∉as->h'.get? b=some o:=λ b o q n m=>l.dU b o (PySem.W.hideAll_get _ q λ z=>(w6.mp z).elim n m)
 have sl:∀b o,s'.heap.get? b=some o->b∈g_ X.stack->∃z,h'.get? b=some {o with slots:=z}:=λ b o q n=>by
  obtain⟨_,u,hu,w⟩:=J.stack.mem n
  rw[q]at hu
  cases hu
  exact l.sl b o q w
 have old:∀b o,s.heap.get? b=some o->b∉as:=λ b o q z=>absurd (y4 q) (Nat.not_lt.mpr (ha b z).1)
 refine⟨⟨λ b o q n m x=>?_,λ b o q n m x=>?_,un.free,λ b o q x=>?_,un.eZ,un.eT,un.fE⟩,λ b o q=>?_⟩
 ·exact kp b o (un.keep b o q n m x) m (old b o q)
 ·obtain⟨z,q'⟩:=un.slot b o q n m x
  obtain⟨z2,q2⟩:=sl b _ q' m
  exact⟨z2,q2⟩
 ·obtain⟨o',q'⟩:=un.there b o q x
  by_cases m:b∈g_ X.stack
  ·obtain⟨z2,q2⟩:=sl b _ q' m
   exact⟨_,q2⟩
  ·exact⟨_,kp b o' q' m (old b o q)⟩
 ·refine(a_ b o q).dU (λ d u e z=>?_) (λ _ z=>z) λ _ _ z=>z
  have hd:H' d≠none:=by
   rcases e with rfl|e
   ·rw[q];intro y;cases y
   ·rw[e];intro y;cases y
  exact kp d u z (λ m=>hd (J.iB d m)) λ m=>hd (ha d m).2
theorem kL{M:Model}{A:Around}{E:Value->Shared->Prop}{i:Nat}{x:Str}{pos:Pos}{Q:Unit->Shared->Prop}(I:Inv X pins σ H s)(hN:X.N.Nodup)(hi:X.N[i]?=some x)(hk:X.env.scope.names.lookup x=some .local)
  (h:∀s',Inv X pins (σ.set i none) H s'->Q () s'):wpAny M A (do bindName X.env x .none;unbindBehindTheSuite X.env x pos) Q E s:=by
 obtain⟨m,hn,hl⟩:=id I.loc
 have JY:(X.env.scope.kind==.class||(X.env.scope.kind==.module&&X.env.locals != X.env.globals))=false:=by rw[I.ok.kind];rfl
 refine wpAny_nameGoes_keeps hk hn JY λ h' v EY hs=>?_
 obtain⟨oL,_,_,Sk,_⟩:=id hn
 have BZ:=I.BZ
 refine h _ ⟨I.ok,I.os,I.bare,⟨λ b o e n hb hx=>?_,λ b o e n hb hx=>?_,I.base.free,λ b o e hx=>?_,I.base.eZ,I.base.eT,I.base.fE⟩,⟨_,EY,λ j y v' e1 e2 e3=>?_⟩,λ y c e=>?_,I.free,I.d_,λ p hp=>?_,λ b ob e=>?_,by simpa using I.len⟩
 ·exact(hs.2 b (y3 (m7 (y4 e) I.ok.above))).trans (I.base.keep b o e n hb hx)
 ·obtain⟨sl,e1⟩:=I.base.slot b o e n hb hx
  exact⟨sl,(hs.2 b (y3 (m7 (y4 e) I.ok.above))).trans e1⟩
 ·obtain⟨o',e1⟩:=I.base.there b o e hx
  exact⟨o',(hs.2 b (y3 (m7 (y4 e) I.ok.above))).trans e1⟩
 ·by_cases hj:j=i
  ·subst hj
   by_cases hz:j < σ.length
   ·rw[getElem?_set_self hz]at e2;cases e2
   ·rw[j8 (by rw[length_set];omega)]at e2;cases e2
  ·rw[getElem?_set_ne (A2 hj)]at e2
   obtain⟨u',r',q⟩:=hl j y v' e1 e2 e3
   refine⟨u',r',?_⟩
   rcases q with⟨k,e⟩|⟨k,c,e,z⟩
   ·refine .inl ⟨k,?_⟩
    have:y≠x:=λ e=>hj (lX hN e1 (e▸hi))
    simp[this,e]
   ·exact .inr ⟨k,c,e,z.sameBut hs (BZ y c e)⟩
 ·obtain⟨w',z⟩:=I.cell y c e
  exact⟨w',z.sameBut hs (BZ y c e)⟩
 ·obtain⟨e,n,ne,nf,d⟩:=I.pin p hp
  exact⟨(hs.2 p.1 ne).trans e,n,ne,nf,d⟩
 ·refine(I.a_ b ob e).dU (λ c w' hc q=>(hs.2 c ?_).trans q) (λ _ q=>q) λ _ _ q=>q
  rintro rfl
  rcases hc with rfl|hc
  ·rw[I.free]at e;cases e
  ·rw[I.free]at hc;cases hc
end
end L2
namespace L2
open PySem PySem.Spec PyProof.Rows
def XT(a C:Addr)(od:Option Addr):HO:=.ext λ h=>∃oe vs,h.get? a=some oe/\oe.cls=.ref C/\oe.dict=od/\oe.data=.fields vs
theorem XT.ok {P:Program}{w:World}{H:Hp}{h:Heap}{a C:Addr}{od:Option Addr}{oe:Obj}{vs:Array Value}(h1:h.get? a=some oe)(h2:oe.cls=.ref C)(h3:oe.dict=od)(h4:oe.data=.fields vs):bA P w H h a (XT a C od):=
 ⟨⟨oe,vs,h1,h2,h3,h4⟩,⟨_,h1⟩,λ _ _ ⟨oe,vs,z,r⟩ k=>⟨oe,vs,k _ z,r⟩⟩
structure kb(K:PySem.W.Frag)(C:Addr):Prop where
 ex:∃nm q N bs bm hd sn sub ab col dd k0 k1 k2 k3 k5 newId,K.lookup C=some (excClassObj nm q C N bs bm hd sn sub ab col dd k0 k1 k2 k3 k5 newId)/\bm.contains (.type "BaseException")=true
def w_(K:PySem.W.Frag)(C D:Addr):Bool:=match K.lookup C with
 |some ⟨_,_,.cls cd,_⟩=>cd.mro.contains (.ref D)
 |_=>false
section
variable {M:Model}{A:Around}{E:Value->Shared->Prop}{K:PySem.W.Frag}{s:Shared}{a C D:Addr}{oe:Obj}
theorem rK{b:Bool}{Q:Bool->Shared->Prop}(X:K.In s.heap)(h1:s.heap.get? a=some oe)(h2:oe.cls=.ref C)(hC:kb K C)(hD:kb K D)(hs:w_ K C D=b)(k:Q b s):wpAny M A (excMatches (.ref a) (.ref D)) Q E s:=by
 obtain⟨nm,q0,N,bs,bm,hd,sn,sub,ab,col,dd,k0,k1,k2,k3,k5,nw,cl,hb⟩:=hC.ex
 obtain⟨V',V8,N',SM,VJ,fM,V7,Ta,Wu,VE,Ki,Wf,We,Wc,Wb,Wa,V_,VG,wj⟩:=hD.ex
 obtain⟨hp,g,d,tk,os⟩:=s
 have c1:=X _ _ cl
 have c2:=X _ _ VG
 have hc:(Value.ref D::VJ).contains (.type "BaseException")=true:=by rw[contains_cons,wj,Bool.or_true]
 have hm:(Value.ref C::bm).contains (.ref D)=b:=by
  unfold w_ at hs
  rw[cl]at hs
  exact hs
 obtain⟨oc,od,da,sl⟩:=oe
 dsimp only at h2
 subst h2
 have c3:=c2
 unfold excClassObj at c3
 have f1:isSubtype (.type "type") (.type "tuple")=pure false:=by rw[isSubtype_type];kernel_rfl
 unfold excMatches
 repeat(first|with_reducible refine wpAny_loadPart_at h1 ?_|with_reducible refine wpAny_loadPart_at c3 ?_|(with_reducible refine wpAny_isSubtype_exc c2 ?_;rw[hc])|(with_reducible refine wpAny_isSubtype_exc c1 ?_;rw[hm])|wp_step)
 cases b <;> (wp_walk;exact k)
end
def Cx.ER (X:Cx)(a:Addr):Cx:={X with A:=X.A.mark (some (.ref a)),calm:=false,xe:=λ _ _=>False}
section
variable {X:Cx}{pins:List (Addr×Obj)}{σ:St}{H H':Hp}{s s':Shared}{a:Addr}
theorem Inv.ER (I:Inv X pins σ H s)(a:Addr):Inv (X.ER a) pins σ H s:=
 let ok:=I.ok
 ⟨⟨ok.mod,ok.kind,ok.glob,ok.blt,ok.above,ok.inj,ok.has,ok.KY,(λ z=>by cases z),ok.frames,ok.Le,ok.Rx,ok.bs,ok.yJ,ok.uC,ok.BJ,ok.iS,ok.E_⟩,I.os,I.bare,I.base,I.loc,I.cell,I.free,I.d_,I.pin,I.a_,I.len⟩
theorem Inv.lS (J:Inv (X.ER a) pins σ' H' s')(ok:X.Ok):Inv X pins σ' H' s':=
 ⟨ok,J.os,J.bare,J.base,J.loc,J.cell,J.free,J.d_,J.pin,J.a_,J.len⟩
def Ends.but (D:Ends)(i:Nat):Ends:={nx:=λ σ H=>D.nx (σ.set i none) H,rt:=D.rt,bk:=λ σ H=>D.bk (σ.set i none) H,ct:=λ σ H=>D.ct (σ.set i none) H}
def EH(K:PySem.W.Frag)(CE:Addr)(i:Nat)(th:Addr->TS)(D:Ends)(σ:St):XK:=λ c od H'=>∃C,c=.ref C/\kb K C/\w_ K C CE=true/\∀a,H' a=none->th a (D.but i) (σ.set i (some (.ref a))) (upd H' a (XT a C od))
theorem Kn{E:Value->Shared->Prop}{x n:Str}{i:Nat}{np uN:Pos}{b0:Stmt}{suite:List Stmt}{th:Addr->TS}{D:Ends}{CE:Addr}{e:Value}(I:Inv X pins σ H s)(hst:X.stack=X.env::X.outer/\X.env.frame=some X.env.locals)(hN:X.N.Nodup)(hi:X.N[i]?=some n)(hk:X.env.scope.names.lookup n=some .local)
  (hg:Gl X x) (hm:X.mg x=some (.ref CE)) (hC:kb X.K CE) (hs:∀a,nF (X.ER a) (b0::suite) (th a)) (cx:nI X.prog X.w X.stack H s (EH X.K CE i th D σ) e s') (hdb:(x==("__debug__":Str))=false:=by decide):
  wpAny (model X.prog X.w) X.A (noteFrame e X.env) (λ _ s2=>wpAny (model X.prog X.w) X.A (setFlight e none) (λ _ s3=>wpAny (model X.prog X.w) X.A (handleBy e X.env [.ExceptHandler (some (.Name x np)) (some n) (b0::suite) uN]) (SP X pins D) E s3) E s2) E s':=by
 obtain⟨a,c,dx,T,H',rfl,dJ,bare,un,a_,h1,h2,n1,n2,t,C,rfl,eC,sC,q⟩:=cx
 have J:=I.oO dJ un a_ bare λ b z=>absurd z (by simp)
 have hT:∀b∈[a,T],s.heap.objs.size<=b/\H' b=none:=λ b hb=>by
  rcases y1.mp hb with rfl|hb
  ·exact⟨h1,n1⟩
  ·cases m8.mp hb;exact⟨h2,n2⟩
 have fr:=J.ok.frames
 have fn:=J.stack
 rw[hst.1]at fr fn
 have mi:s.heap.objs.size<=s'.heap.objs.size:=by
  obtain⟨oe,vs,oT,ts,he,_⟩:=t
  exact y8 h1 (Nat.le_of_lt (y4 he))
 refine Mr (B:=PySem.W.hideAll s'.heap (g_ (X.env::X.outer)++[a,T])) (env:=X.env) (outer:=X.outer) (L:=X.env.locals) fr (PySem.W.funFrames_hide fn λ e he b hb=>w6.mpr (.inl (mem_filterMap.mpr ⟨e,he,hb⟩))) hst.2 t
  (PySem.W.hideAll_none _ (by simp)) (λ b o z=>PySem.W.of_hideAll _ z) (PySem.W.hideAll_none _ (by simp)) λ h' l=>?_
 rw[<- hst.1]at l
 obtain⟨RZ,MP⟩:=Ey I un a_ dJ bare hT l
 obtain⟨oe,vs,oT,ts,he,c1,d1,dv,v1,ne,gT,dT,v3⟩:=l.tr
 have fT:H' s'.heap.objs.size=none:=a_.fresh (y9 _)
 refine wpAny_handleBy_cons (codeAny_handlers_test ?_) (by intro z;cases z)
 have J1:Inv X pins σ H' {s' with heap:=h'}:=I.oO dJ RZ MP bare λ b z=>absurd z (by simp)
 refine eJ (X:=X.ER a) (J1.ER a) hg hm ?_ hdb
 refine rK J1.fV he c1 eC hC sC ?_
 refine codeAny_handlers_suite_as ?_
 unfold setFlight
 refine z6 (z5 he dv v1 ?_)
 rw[A3 (show(Value.ref s'.heap.objs.size != Value.none)=true from by simp)]
 refine wpAny_setField gT dT (Array.getElem?_eq_some_iff.mp v3).1 ?_
 generalize Uq:h'.update s'.heap.objs.size (Obj.mapFields (·.setIfInBounds 3 ((none:Option Addr).elim Value.none λ f=>rawInt f)))=g2
 have kp:∀b o,b≠s'.heap.objs.size->h'.get? b=some o->g2.get? b=some o:=λ b o nb z=>by rw[<- Uq,j2 _ _ nb.symm];exact z
 have S2:=RZ.jA (y8 (y9 _) mi) kp
 have QX:=MP.jA fT kp
 have S1:=S2.N4 (o:=XT a C dx) h1 n1
 have QV:=QX.FC (o:=XT a C dx) n1 (XT.ok (kp a oe ne.symm he) c1 d1 dv)
 have J3:Inv X pins σ (upd H' a (XT a C dx)) {s' with heap:=g2}:=I.oO (s':={s' with heap:=g2}) dJ S1 QV bare λ b z=>absurd z (by simp)
 refine ly (v:=.ref a) J3 hN hi (.inl hk) rfl (λ s4 J4=>?_) (.inr hk)
 refine z9 (hs a pins s4 _ _ (D.but i) (J4.ER a) (q a n1)) (λ f s5 z=>?_) λ _ _ z=>z.elim
 cases f with
 |next=>
  obtain⟨σ5,H5,J5,q5⟩:=z
  exact kL (J5.lS J.ok) hN hi hk λ s6 J6=>⟨_,_,J6,q5⟩
 |brk=>
  obtain⟨σ5,H5,J5,q5⟩:=z
  exact kL (J5.lS J.ok) hN hi hk λ s6 J6=>⟨_,_,J6,q5⟩
 |cont=>
  obtain⟨σ5,H5,J5,q5⟩:=z
  exact kL (J5.lS J.ok) hN hi hk λ s6 J6=>⟨_,_,J6,q5⟩
 |ret u=>
  obtain⟨v,σ5,H5,J5,r5,q5⟩:=z
  exact kL (J5.lS J.ok) hN hi hk λ s6 J6=>⟨_,_,_,J6,r5,q5⟩
end
end L2
namespace L2
open PySem PySem.Spec PyProof.Rows
section
variable {X:Cx}{pins:List (Addr×Obj)}{σ:St}{H:Hp}{s:Shared}{k:Nat}{fa:Addr}{fd:FuncData}{ps:List Str}{sp:Sp}{x:Str}{p pos:Pos}{e:Expr}{es:List Expr}{t:TA}{E:XK}
theorem Ry{Ex:Value->Shared->Prop}{Q:VK}(hE:∀v s,X.xe v s->False)(F:bh X.prog X.w X.K X.mg X.base (nI X.prog X.w) k fa fd ps sp)(hr:bC k X.A)(hg:Gl X x)(hm:X.mg x=some (.ref fa))(hk:PySem.W.keepIn X.K (.ref fa)=true)(hb:Binds X.K fd ps [])
  (ha:PA X (e::es) t) (I:Inv X pins σ H s) (h:t σ H λ vs H1=>sp vs H1 Q E) (hx:∀H1 s1 v s',Inv X pins σ H1 s1->nI X.prog X.w X.stack H1 s1 E v s'->Ex v s')
  (hdb:(x==("__debug__":Str))=false:=by decide) (he:starEach (e::es) X.env=(false,eval e X.env)::starEach es X.env:=by rfl) (hpl:(backTo pos (starEach es X.env)).any (·.1)=false:=by rfl):
  wpAny (model X.prog X.w) X.A (eval (.Call (.Name x p) (e::es) [] pos) X.env) (EP X pins σ Q) Ex s:=by
 refine m9 (eJ I hg hm ?_ hdb)
 refine PySem.W.callWith_K (h₀:=X.base) I.ok.mod.KL hk (z9 (ha pos pins s σ H _ I h) (λ us s1 ⟨vs,H1,I1,r,q⟩=>⟨I1.fV,?_⟩) λ v s z=>(hE v s z).elim) he hpl
 have hl:(us++[]).length=ps.length:=by rw[s9,<- r.length];exact F.len _ _ _ _ q
 have bd:=hb s1 us I1.fV hl
 rw[s9]at bd
 refine wpAny_call (codeAny_mono (F.run X.A X.stack s1 H1 ⟨us,[]⟩ us vs Q E hr I1.Fe bd r q) λ r s' hq=>?_)
 cases r with
 |error v=>exact hx H1 s1 v s' I1 hq
 |ok fl=>
  cases fl with
  |ret u=>exact I1.after hq
  |next=>exact False.elim hq
  |brk=>exact False.elim hq
  |cont=>exact False.elim hq
end
end L2
namespace L2
open PySem PySem.Spec PyProof.Rows Builtin Builtin.ObjectAttr
theorem wt(x:Value):bindSpecial (.builtin "BaseException.__getattribute__") x=pure (.builtin "BaseException.__getattribute__",[x]):=PySem.F.excAttr_ValueError.ga.bind x
section
variable {prog:Program}{w:World}{A:Around}{E:Value->Shared->Prop}{K:PySem.W.Frag}{h:Heap}{g:Array GenState}{d:Drawn}{t:Nat}{os:OsState}{C a:Addr}{oe:Obj}{od:Option Obj}{name:Str}{v:Value}
theorem Pa{expr:Bool}{Q:Value->Shared->Prop}(X:K.In h)(I:PySem.W.InstAt h a oe C od)(Us:PySem.W.findIn K (.ref C) "__getattribute__"=some (some (.builtin "BaseException.__getattribute__")))(JU:PySem.W.findIn K (.ref C) "__getattr__"=some none)
  (hf:PySem.W.findObj K C od name=some (.value v)) (hb:PySem.W.mroIn K C (.type "BaseException")=some true) (hh:handedOut v=pure v) (q:Q v ⟨h,g,d,t+1,os⟩):wpAny (model prog w) A (getAttr (.ref a) name expr) Q E ⟨h,g,d,t,os⟩:=by
 have L0:=I.type (M:=model prog w)
 have L1:=PySem.W.looks_findIn (M:=model prog w) X Us
 have L2:=PySem.W.looks_hook (M:=model prog w) (mc:=.ref C) X (r:=none) (by rw[A3 (show onTheHeap (Value.ref C)=true from rfl)];exact JU)
 have L3:=PySem.W.looks_find (M:=model prog w) X I hf
 have sub:PySem.W.Looks (model prog w) h (isInstance (.ref a) (.type "BaseException")) true:=L0.andThen (PySem.W.looks_mroIn X hb)
 unfold getAttr getAttrBy
 refine z6 (wpAny_mkText (x5 (z6 (L0.at (z6 (L1.at ?_))))))
 have QC:(Value.builtin "BaseException.__getattribute__"==Value.builtin "object.__getattribute__")=false:=by decide+kernel
 have QD:(expr&&onTheHeap (Value.builtin "BaseException.__getattribute__"))=false:=by cases expr <;> rfl
 dsimp only
 rw[A4 (by rw[QC,Bool.and_false];decide)]
 unfold getAttrByItsOwn
 refine z6 (L2.at ?_)
 unfold callGetattribute
 rw[A4 (by rw[QD];decide)]
 unfold boundAndCalled
 refine z6 (x6 (x5 (z6 ?_)))
 rw[wt]
 refine z7 (wpAny_call ?_)
 refine codeAny_call_builtin PySem.F.excAttr_ValueError.ga.plain PySem.F.entry_bexc_ga (@PySem.W.check_slot (model prog w) _ _ ⟨h,g,d,t+1,os⟩ "BaseException.__getattribute__" "BaseException" "__getattribute__" (.ref a) [.str name t] [] _ (by decide+kernel) (by decide+kernel) sub (PySem.F.args_bexc_ga (.ref a) (.str name t)) ?_)
 refine z6 (z7 (z6 (z7 (z6 (L0.at (z6 (L3.at ?_)))))))
 refine z7 ?_
 show wpAny _ _ (handedOut v) _ _ _
 rw[hh]
 exact z7 q
end
section
variable {X:Cx}{e:Expr}{ta:TE}{pos:Pos}{f:Str}
structure FJ(K:PySem.W.Frag)(C:Addr)(f:Str):Prop where
 ga:PySem.W.findIn K (.ref C) "__getattribute__"=some (some (.builtin "BaseException.__getattribute__"))
 gt:PySem.W.findIn K (.ref C) "__getattr__"=some none
 no:PySem.W.findIn K (.ref C) f=some none
 ba:PySem.W.mroIn K C (.type "BaseException")=some true
 hd:(PySem.W.clsIn K C).any (·.hasDict)=true
def Pj(K:PySem.W.Frag)(ta:TE)(f:Str):TE:=λ σ H Q=>ta σ H λ v H1=>∃a C dx fs y,v=.ref a/\H1 a=some (XT a C (some dx))/\H1 dx=some (XD dx fs)/\FJ K C f/\fs.lookup f=some y/\Q y H1
theorem F6(he:PE X e ta)(hb:attributeBase e f X.env (eval e X.env)=eval e X.env:=by rfl):PE X (.Attribute e f pos) (Pj X.K ta f):=by
 intro pins s σ H Q I h
 refine Fy hb (ck (he pins s σ H _ I h) λ u s1 ⟨v,H1,I1,rx,a,C,dx,fs,y,ev,h1,h2,eg,hl,q⟩=>?_)
 subst ev
 obtain rfl:u=Value.ref a:=rx
 obtain⟨⟨oe,vs,he,hc,hd,sh⟩,_,_⟩:=I1.a_ a _ h1
 obtain⟨⟨mA,hn,hr⟩,_,_⟩:=I1.a_ dx _ h2
 obtain⟨od,ho,Ud⟩:=jm hn
 obtain⟨hp,g,d,tk,os⟩:=s1
 have ry:=hr f
 rw[hl]at ry
 cases em:mA f with
 |none=>rw[em]at ry;exact ry.elim
 |some u=>
  rw[em]at ry
  have IA:PySem.W.InstAt hp a oe C (some od):=⟨he,hc,by unfold PySem.W.notCls;rw[sh],by rw[hd];exact ho⟩
  obtain⟨cd,hcd,Ux⟩:=PySem.W.any_some eg.hd
  refine Pa I1.fV IA eg.ga eg.gt (v:=u) ?_ eg.ba ?_ ⟨y,H1,I1.tok _,ry,q⟩
  ·unfold PySem.W.findObj
   rw[hcd,Option.bind_some,eg.no]
   show((PySem.W.ownOf cd (some od) f).bind _)=_
   unfold PySem.W.ownOf
   rw[A3 Ux]
   dsimp only
   rw[Ud,em]
   rfl
  ·exact PySem.W.handedOut_of (x' ry)
end
end L2
namespace L2
open PySem PySem.Spec PyProof.Rows Builtin Builtin.ObjectAttr
structure vi(K:PySem.W.Frag)(C:Addr):Prop where
 ga:PySem.W.findIn K (.ref C) "__getattribute__"=some (some (.builtin "BaseException.__getattribute__"))
 gt:PySem.W.findIn K (.ref C) "__getattr__"=some none
 ba:PySem.W.mroIn K C (.type "BaseException")=some true
 ob:PySem.W.mroIn K C (.type "object")=some true
 hd:(PySem.W.clsIn K C).any (·.hasDict)=true
 cl:PySem.W.findIn K (.ref C) "__class__"=some (some (.builtin "object.__class__"))
 ge:PySem.W.specialIn K (.builtin "object.__class__") "__get__"=some (some (.builtin "getset_descriptor.__get__"))
 tk:PySem.W.takesIn K (.builtin "object.__class__")=some true
section
variable {prog:Program}{w:World}{A:Around}{E:Value->Shared->Prop}{K:PySem.W.Frag}{s:Shared}{C a:Addr}{oe od:Obj}
theorem GG{Q:Option Value->Shared->Prop}(X:K.In s.heap)(I:PySem.W.InstAt s.heap a oe C (some od))(e:vi K C)(q:Q (some (.ref C)) {s with toks:=s.toks+1}):wpAny (model prog w) A (getAttr? (.ref a) "__class__") Q E s:=by
 obtain⟨h,g,d,t,os⟩:=s
 obtain⟨cd,hcd,_⟩:=PySem.W.any_some e.hd
 have hf:PySem.W.findObj K C (some od) "__class__"=some (.bind (.builtin "getset_descriptor.__get__") (.builtin "object.__class__")):=PySem.W.findObj_data (by rw[hcd];rfl) e.cl e.ge e.tk
 have L0:=I.type (M:=model prog w)
 have L1:=PySem.W.looks_findIn (M:=model prog w) X e.ga
 have L2:=PySem.W.looks_hook (M:=model prog w) (mc:=.ref C) X (r:=none) (by rw[A3 (show onTheHeap (Value.ref C)=true from rfl)];exact e.gt)
 have L3:=PySem.W.looks_find (M:=model prog w) X I hf
 have sub:PySem.W.Looks (model prog w) h (isInstance (.ref a) (.type "BaseException")) true:=L0.andThen (PySem.W.looks_mroIn X e.ba)
 unfold getAttr? getAttrBy? getAttrBy
 refine z6 (wpAny_mkText (z6 (x6 (x5 (z6 (L0.at (z6 (L1.at ?_))))))))
 have QC:(Value.builtin "BaseException.__getattribute__"==Value.builtin "object.__getattribute__")=false:=by decide+kernel
 dsimp only
 rw[A4 (by rw[QC,Bool.and_false];decide)]
 unfold getAttrByItsOwn
 refine z6 (L2.at ?_)
 unfold callGetattribute
 rw[A4 (by decide)]
 unfold boundAndCalled
 refine z6 (x6 (x5 (z6 ?_)))
 rw[wt]
 refine z7 (wpAny_call ?_)
 refine codeAny_call_builtin PySem.F.excAttr_ValueError.ga.plain PySem.F.entry_bexc_ga (@PySem.W.check_slot (model prog w) _ _ ⟨h,g,d,t+1,os⟩ "BaseException.__getattribute__" "BaseException" "__getattribute__" (.ref a) [.str "__class__" t] [] _ (by decide+kernel) (by decide+kernel) sub (PySem.F.args_bexc_ga (.ref a) (.str "__class__" t)) ?_)
 refine z6 (z7 (z6 (z7 (z6 (L0.at (z6 (L3.at ?_)))))))
 show wpAny _ _ (holding [.builtin "object.__class__"] (call (.builtin "getset_descriptor.__get__") [.builtin "object.__class__",.ref a,.ref C]) >>= ret) _ _ _
 refine z6 (x5 (wpAny_call (PySem.W.class_get (s:=⟨h,g,d,t+1,os⟩) (ox:=oe) (od:=some od) X I e.ob ?_)))
 refine z7 ?_
 show wpAny _ _ (handedOut (Value.ref C)) _ _ _
 rw[PySem.W.handedOut_of rfl]
 exact z7 (z7 q)
set_option tactic.hygienic true in
theorem AR(e:vi K C):PySem.W.KitX K (.ref a) (.ref C) (λ h=>∃oe od,PySem.W.InstAt h a oe C (some od)) where
 ty:=λ _ _ _ ⟨_,_,I⟩=>I.type
 it:=λ _ _ X _=>by
  obtain⟨cd,hc,_⟩:=PySem.W.any_some e.hd
  unfold PySem.W.clsIn at hc
  split at hc
  ·rename_i c' d' VH Px ho
   intro A' Q' E' s' k q
   unfold isType loadHead
   exact z6 (wpAny_loadPart (k _ _ (X _ _ ho)) (z7 q))
  ·cases hc
 ne:=λ h tp dd au n sl X z=>by
  obtain⟨cd,hc,_⟩:=PySem.W.any_some e.hd
  refine Bool.eq_false_iff.mpr λ q=>?_
  have e:C=tp:=Value.ref.inj (beq_iff_eq.mp q)
  subst e
  unfold PySem.W.clsIn at hc
  split at hc
  ·rename_i c' d' VH Px ho
   have y:=(X _ _ ho).symm.trans z
   cases y
  ·cases hc
 ca:=λ X ⟨_,_,I⟩ k=>GG X I e k
end
section
variable {X:Cx}{pins:List (Addr×Obj)}{σ:St}{H:Hp}{s:Shared}
theorem BK(I:Inv X pins σ H s){a C dx:Addr}{fs:List (Str×V)}(h1:H a=some (XT a C (some dx)))(h2:H dx=some (XD dx fs)):∃oe od,PySem.W.InstAt s.heap a oe C (some od):=by
 obtain⟨⟨oe,vs,he,hc,hd,sh⟩,_,_⟩:=I.a_ a _ h1
 obtain⟨⟨mA,hn,hr⟩,_,_⟩:=I.a_ dx _ h2
 obtain⟨od,ho,_⟩:=jm hn
 exact⟨oe,od,he,hc,by unfold PySem.W.notCls;rw[sh],by rw[hd];exact ho⟩
theorem EM{b:Bool}{c:Value}{a C dx:Addr}{fs:List (Str×V)}{A:Around}{E:Value->Shared->Prop}{Q:Value->Shared->Prop}(I:Inv X pins σ H s)(h1:H a=some (XT a C (some dx)))(h2:H dx=some (XD dx fs))(e:vi X.K C)(k:PySem.W.kitOne X.K (.ref C) c=some b)
  (q:∀tk,Q (.bool b) {s with toks:=tk}):wpAny (model X.prog X.w) A (call (.builtin "isinstance") [.ref a,c]) Q E s:=
 v9 (AR e) I.fV (BK I h1 h2) k (λ z=>nomatch z) q
end
end L2
namespace L2
open PySem PySem.Spec PyProof.Rows
def N7(h:Heap)(a:Addr)(c:Value)(od:Option Addr)(nt:Option (Addr×Value)):Prop:=∃oe vs,h.get? a=some oe/\oe.cls=c/\oe.dict=od/\oe.data=.fields vs/\match nt with
 |none=>vs[1]?=some .none
 |some (T,fl)=>vs[1]?=some (.ref T)/\T≠a/\∃oT ts,h.get? T=some oT/\oT.data=.fields ts/\ts[3]?=some fl
structure SU(B:Heap)(l:List Env)(h h':Heap):Prop where
 dU:B.StaysIn h'
 fr:h'.FunFrames B l
 sl:∀b o,h.get? b=some o->(∀vs,o.data≠.fields vs)->∃z,h'.get? b=some {o with slots:=z}
section
variable {M:Model}{A:Around}{E:Value->Shared->Prop}{s:Shared}{B:Heap}{env:Env}{outer:List Env}{L e:Addr}{oe:Obj}{vs:Array Value}
theorem Az{hd:Value}{hn:Bool}{Q:Unit->Shared->Prop}(E3:A.frames=some (env::outer))(hl:s.heap.FunFrames B (env::outer))(hf:env.frame=some L)
  (he:s.heap.get? e=some oe) (kB:B.StaysIn s.heap) (nB:B.get? e=none) (dv:oe.data=.fields vs) (sz:1 < vs.size)
  (q:∀h',SU B (env::outer) s.heap h'->N7 h' e oe.cls oe.dict (some (s.heap.objs.size,rawInt L))->Q () {s with heap:=h'}):
  wpAny M A (do let a <- frameOf env;let p <- entryPlaceOf L hn;let b <- EntryCells.newEntry hd a .none (rawInt L) .none p;setField (.ref e) 1 b) Q E s:=by
 have eF:e∉(env::outer).filterMap (·.frame):=λ z=>by
  obtain⟨_,o,ho,w⟩:=hl.mem z
  rw[he]at ho
  cases ho
  exact w vs dv
 refine z6 (wpAny_frameOf_fun E3 hl hf λ g hg=>z6 (wpAny_entryPlaceOf λ pl hpl=>?_))
 unfold EntryCells.newEntry newFields
 refine z6 (n6 ?_ (hpl.sizeOk5 _ _ _ _ _))
 have e1:g.get? e=some oe:=(hg.2.1 e eF).trans he
 have k1:B.StaysIn g:=λ b o z=>(hg.2.1 b λ y=>by rw[(hl.mem y).1]at z;cases z).trans (kB b o z)
 generalize hT:({cls:=.type "traceback",dict:=none,data:=.fields ([hd,.ref L,.none,rawInt L,.none]++(if pl.isEmpty then List.replicate 6 Value.none else pl)).toArray}:Obj)=nt
 have dT:nt.data=.fields ([hd,.ref L,.none,rawInt L,.none]++(if pl.isEmpty then List.replicate 6 Value.none else pl)).toArray:=by rw[<- hT]
 have e2:=j1 (h:=g) nt e1
 refine wpAny_setField e2 dv sz (q _ ?_ ?_)
 ·have nr:∀b o,s.heap.get? b=some o->(∀vs,o.data≠.fields vs)->b≠e:=λ b o z w y=>by
   rw[y,he]at z
   cases z
   exact w vs dv
  have kp:∀b o,b≠e->g.get? b=some o->((g.push nt).update e (Obj.mapFields (·.setIfInBounds 1 (Value.ref g.objs.size)))).get? b=some o:=λ b o y z=>by
   rw[j2 _ _ y.symm]
   exact j1 _ z
  refine⟨λ b o z=>kp b o (λ y=>by rw[y,nB]at z;cases z) (k1 b o z),hl.of_keeps λ b o z w=>?_,λ b o z w=>?_⟩
  ·obtain⟨sl,y⟩:=hg.2.2 b o z
   exact⟨_,kp b _ (nr b o z w) y,rfl⟩
  ·obtain⟨sl,y⟩:=hg.2.2 b o z
   exact⟨sl,kp b _ (nr b o z w) y⟩
 ·have ne:g.objs.size≠e:=Nat.ne_of_gt (y4 e1)
  have d3:=Obj.data_mapFields dv (·.setIfInBounds 1 (Value.ref g.objs.size))
  have e3:=j3 (Obj.mapFields (·.setIfInBounds 1 (Value.ref g.objs.size))) e2 (Obj.isFreed_of_fields d3)
  have t3:=(j2 (g.push nt) (Obj.mapFields (·.setIfInBounds 1 (Value.ref g.objs.size))) ne.symm).trans (l5 g (Obj.isFreed_of_fields dT))
  rw[<- hg.1]
  exact⟨_,_,e3,Obj.cls_mapFields _ _,n_ _ _,d3,by simp[sz],ne,nt,_,t3,dT,by simp⟩
end
structure XS(X:Cx)(H':Hp)(h:Heap):Prop where
 un:Un X.fs [] X.H₀ H' X.s₀.heap h
 a_:fw X.prog X.w H' h
 fn:h.FunFrames X.base X.stack
 fr:∀b∈g_ X.stack,H' b=none
 am:X.A.frames=some X.stack
section
variable {X:Cx}{H':Hp}{h h':Heap}{a T L:Addr}{as:List Addr}
theorem XS.jA {oT:Obj}{ts:Array Value}(x:XS X H' h)(le:X.s₀.heap.objs.size<=T)(hn:H' T=none)(hT:h.get? T=some oT)(dT:oT.data=.fields ts)(k:∀b o,b≠T->h.get? b=some o->h'.get? b=some o):XS X H' h':=
 ⟨x.un.jA le k,x.a_.jA hn k,x.fn.of_keeps λ b o z w=>⟨o,k b o (λ y=>by rw[y,hT]at z;cases z;exact w ts dT) z,rfl⟩,x.fr,x.am⟩
theorem XS.note (x:XS X H' h)(hst:X.stack=X.env::X.outer)(ha:∀b∈as,X.s₀.heap.objs.size<=b/\H' b=none)(hL:X.env.frame=some X.env.locals)(ab:X.s₀.heap.objs.size<=X.env.locals)
  (l:SU (PySem.W.hideAll h (g_ X.stack++as)) X.stack h h'):XS X H' h':=by
 have kp:∀b o,h.get? b=some o->b∉g_ X.stack->b∉as->h'.get? b=some o:=λ b o q n m=>l.dU b o (PySem.W.hideAll_get _ q λ z=>(w6.mp z).elim n m)
 have sl:∀b o,h.get? b=some o->b∈g_ X.stack->∃z,h'.get? b=some {o with slots:=z}:=λ b o q n=>by
  obtain⟨_,u,hu,w⟩:=x.fn.mem n
  rw[q]at hu
  cases hu
  exact l.sl b o q w
 have old:∀b o,X.s₀.heap.get? b=some o->b∉as:=λ b o q z=>absurd (y4 q) (Nat.not_lt.mpr (ha b z).1)
 have Tp:∀b o,X.s₀.heap.get? b=some o->b∉X.fs->b∉g_ X.stack:=λ b o q n z=>by
  rw[hst]at z
  unfold g_ at z
  rw[filterMap_cons,hL]at z
  rcases y1.mp z with rfl|z
  ·exact absurd (y4 q) (Nat.not_lt.mpr ab)
  ·exact n z
 have sub:∀b,b∈X.fs->b∈g_ X.stack:=λ b z=>by
  rw[hst]
  exact mem_filterMap.mpr (by obtain⟨a,h1,h2⟩:=mem_filterMap.mp z;exact⟨a,.tail _ h1,h2⟩)
 have un:=x.un
 refine⟨⟨λ b o q n m y=>?_,λ b o q n m y=>?_,un.free,λ b o q y=>?_,un.eZ,un.eT,un.fE⟩,λ b o q=>?_,?_,x.fr,x.am⟩
 ·exact kp b o (un.keep b o q n m y) (Tp b o q m) (old b o q)
 ·obtain⟨z,q'⟩:=un.slot b o q n m y
  obtain⟨z2,q2⟩:=sl b _ q' (sub b m)
  exact⟨z2,q2⟩
 ·obtain⟨o',q'⟩:=un.there b o q y
  by_cases m:b∈g_ X.stack
  ·obtain⟨z2,q2⟩:=sl b _ q' m
   exact⟨_,q2⟩
  ·exact⟨_,kp b o' q' m (old b o q)⟩
 ·refine(x.a_ b o q).dU (λ d u e z=>?_) (λ _ z=>z) λ _ _ z=>z
  have hd:H' d≠none:=by
   rcases e with rfl|e
   ·rw[q];intro y;cases y
   ·rw[e];intro y;cases y
  exact kp d u z (λ m=>hd (x.fr d m)) λ m=>hd (ha d m).2
 ·exact x.fn.of_keeps λ b o z w=>by
   obtain⟨z2,q2⟩:=l.sl b o z w
   exact⟨_,q2,rfl⟩
def XF(X:Cx)(E:XK)(e:Value)(s':Shared):Prop:=∃(a:Addr) (c:Value) (od:Option Addr) (H':Hp) (nt:Option (Addr×Value)),e=.ref a/\s'.os=X.s₀.os/\AllBare s'.gens/\XS X H' s'.heap/\X.s₀.heap.objs.size<=a/\H' a=none/\N7 s'.heap a c od nt/\
 (∀T fl,nt=some (T,fl)->X.s₀.heap.objs.size<=T/\H' T=none/\(fl=.none\/fl=rawInt X.env.locals))/\E c od H'
theorem vm{E:XK}{M:Model}{A:Around}{Ex:Value->Shared->Prop}{e:Value}{s:Shared}{Q:Unit->Shared->Prop}(hst:X.stack=X.env::X.outer)(hL:X.env.frame=some X.env.locals)(ab:X.s₀.heap.objs.size<=X.env.locals)(hA:A.frames=some X.stack)(x:XF X E e s)
  (q:∀(s':Shared) (a:Addr) (c:Value) (od:Option Addr) (H':Hp) (T:Addr),e=.ref a->s'.os=X.s₀.os->AllBare s'.gens->XS X H' s'.heap->X.s₀.heap.objs.size<=a->H' a=none->N7 s'.heap a c od (some (T,rawInt X.env.locals))->X.s₀.heap.objs.size<=T->H' T=none->E c od H'->Q () s'):
  wpAny M A (noteFrame e X.env) Q Ex s:=by
 obtain⟨a,c,od,H',nt,rfl,dJ,bare,xs,le,na,⟨oe,vs,he,hc,hd,dv,tr⟩,T7,qe⟩:=x
 have aF:∀b o ws,s.heap.get? b=some o->o.data=.fields ws->b∉g_ X.stack:=λ b o ws q1 q2 z=>by
  obtain⟨_,u,hu,w⟩:=xs.fn.mem z
  rw[q1]at hu
  cases hu
  exact w ws q2
 have ss:X.s₀.heap.objs.size<=s.heap.objs.size:=y8 le (Nat.le_of_lt (y4 he))
 cases nt with
 |none=>
  have tr:vs[1]?=some .none:=tr
  have fn:=xs.fn
  rw[hst]at fn hA
  unfold noteFrame
  simp only[hL]
  refine z6 (z5 he dv tr ?_)
  rw[A4 (by decide)]
  refine Az (B:=PySem.W.hideAll s.heap (g_ (X.env::X.outer)++[a])) hA (PySem.W.funFrames_hide fn λ e he b hb=>w6.mpr (.inl (mem_filterMap.mpr ⟨e,he,hb⟩))) hL he (λ b o z=>PySem.W.of_hideAll _ z) (PySem.W.hideAll_none _ (by simp)) dv (Array.getElem?_eq_some_iff.mp tr).1 λ h' l t'=>?_
  rw[<- hst]at l
  rw[hc,hd]at t'
  exact q {s with heap:=h'} a c od H' s.heap.objs.size rfl dJ bare (xs.note hst (as:=[a]) (λ b z=>by cases m8.mp z;exact⟨le,na⟩) hL ab l) le na t' ss (xs.a_.fresh (y9 _)) qe
 |some p=>
  obtain⟨T,fl⟩:=p
  obtain⟨h1,ne,oT,ts,gT,dT,v3⟩:=tr
  obtain⟨F_,nT,OY⟩:=T7 T fl rfl
  unfold noteFrame
  simp only[hL]
  refine z6 (z5 he dv h1 ?_)
  rw[A3 (show(Value.ref T != Value.none)=true from by simp)]
  refine z6 (z5 gT dT v3 ?_)
  rcases OY with rfl|rfl
  ·rw[A4 (show ¬((Value.none==rawInt X.env.locals)=true)from by simp[rawInt])]
   refine z6 (wpAny_setField gT dT (Array.getElem?_eq_some_iff.mp v3).1 ?_)
   generalize hg:s.heap.update T (Obj.mapFields (·.setIfInBounds 3 Value.none))=g
   have kp:∀b o,b≠T->s.heap.get? b=some o->g.get? b=some o:=λ b o y z=>by rw[<- hg,j2 _ _ y.symm];exact z
   have O':=xs.jA F_ nT gT dT kp
   have sz:g.objs.size=s.heap.objs.size:=by rw[<- hg];exact Heap.size_update _ _ _
   have fn:=O'.fn
   rw[hst]at fn hA
   refine Az (s:={s with heap:=g}) (B:=PySem.W.hideAll g (g_ (X.env::X.outer)++[a])) hA (PySem.W.funFrames_hide fn λ e he b hb=>w6.mpr (.inl (mem_filterMap.mpr ⟨e,he,hb⟩))) hL (kp a oe ne.symm he) (λ b o z=>PySem.W.of_hideAll _ z) (PySem.W.hideAll_none _ (by simp)) dv (Array.getElem?_eq_some_iff.mp h1).1 λ h' l t'=>?_
   rw[<- hst]at l
   rw[hc,hd]at t'
   exact q {s with heap:=h'} a c od H' g.objs.size rfl dJ bare (O'.note hst (as:=[a]) (λ b z=>by cases m8.mp z;exact⟨le,na⟩) hL ab l) le na t' (by rw[sz];exact ss) (O'.a_.fresh (y9 _)) qe
  ·rw[A3 (by simp)]
   exact z7 (q s a c od H' T rfl dJ bare xs le na ⟨oe,vs,he,hc,hd,dv,h1,ne,oT,ts,gT,dT,v3⟩ F_ nT qe)
theorem zf{M:Model}{A:Around}{Ex:Value->Shared->Prop}{s:Shared}{Q:Unit->Shared->Prop}{c fl fl':Value}{od:Option Addr}{fo:Option Addr}(Uu:fl'=fo.elim .none λ f=>rawInt f)(xs:XS X H' s.heap)(le:X.s₀.heap.objs.size<=T)(nT:H' T=none)(t:N7 s.heap a c od (some (T,fl)))
  (q:∀h',XS X H' h'->N7 h' a c od (some (T,fl'))->Q () {s with heap:=h'}):wpAny M A (setFlight (.ref a) fo) Q Ex s:=by
 obtain⟨oe,vs,he,hc,hd,dv,h1,ne,oT,ts,gT,dT,v3⟩:=t
 unfold setFlight
 refine z6 (z5 he dv h1 ?_)
 rw[A3 (show(Value.ref T != Value.none)=true from by simp)]
 have i3:=(Array.getElem?_eq_some_iff.mp v3).1
 refine wpAny_setField gT dT i3 (q _ ?_ ?_)
 ·exact xs.jA le nT gT dT λ b o y z=>by rw[j2 _ _ y.symm];exact z
 ·have d3:=Obj.data_mapFields dT (·.setIfInBounds 3 (fo.elim .none λ f=>rawInt f))
  refine⟨oe,vs,by rw[j2 _ _ ne];exact he,hc,hd,dv,h1,ne,_,_,j3 _ gT (Obj.isFreed_of_fields d3),d3,?_⟩
  rw[Uu]
  simp[i3]
theorem Cs{E:XK}(hst:X.stack=X.env::X.outer)(hL:X.env.frame=some X.env.locals)(ab:X.s₀.heap.objs.size<=X.env.locals):PassesOwn (model X.prog X.w) X.A X.env (XF X E):=by
 intro e s x
 have hA:X.A.frames=some X.stack:=by obtain⟨_,_,_,_,_,_,_,_,xs,_⟩:=x;exact xs.am
 refine vm hst hL ab hA x λ s' a c od H' T ea dJ bare xs le na t F_ nT q=>?_
 subst ea
 obtain⟨oe,vs,he,hc,hd,dv,h1,ne,oT,ts,gT,dT,v3⟩:=id t
 unfold cameBackBy
 refine z6 (z5 he dv h1 ?_)
 rw[A4 (by simp)]
 show wpAny _ _ (setFlight (.ref a) X.env.frame) _ _ _
 rw[hL]
 refine zf (fl':=rawInt X.env.locals) rfl xs F_ nT t λ h' GD t'=>⟨a,c,od,H',some (T,rawInt X.env.locals),rfl,dJ,bare,GD,le,na,t',λ T' fl e=>?_,q⟩
 cases e
 exact⟨F_,nT,.inr rfl⟩
theorem GF{E:XK}{e:Value}{s:Shared}{A:Around}{Ex:Value->Shared->Prop}(hst:X.stack=X.env::X.outer)(hL:X.env.frame=some X.env.locals)(ab:X.s₀.heap.objs.size<=X.env.locals)(hA:A.frames=some X.stack)(x:XF X E e s):
  wpAny (model X.prog X.w) A (leaving X.env e) (λ _ s'=>nI X.prog X.w X.outer X.H₀ X.s₀ E e s') Ex s:=by
 unfold leaving
 refine z6 (vm hst hL ab hA x λ s' a c od H' T ea dJ bare xs le na t F_ nT q=>?_)
 subst ea
 refine zf (fl':=.none) rfl xs F_ nT t λ h' GD t'=>?_
 obtain⟨oe,vs,he,hc,hd,dv,h1,ne,oT,ts,gT,dT,v3⟩:=t'
 exact⟨a,c,od,T,H',rfl,dJ,bare,GD.un,GD.a_,le,F_,na,nT,⟨oe,vs,oT,ts,he,hc,hd,dv,h1,ne,gT,dT,v3⟩,q⟩
theorem yN{E:XK}(hex:X.ex=[]):ik (X.fS (XF X E)) E:=by
 intro pins σ H s e C t od J le hx q
 obtain⟨ho,_,_⟩:=J.a_ e _ hx
 have un:=J.base
 have JV:(X.fS (XF X E)).ex=[]:=hex
 rw[JV]at un
 have old:∀b o,X.s₀.heap.get? b=some o->b≠e:=λ b o q z=>absurd (y4 q) (by rw[z];exact Nat.not_lt.mpr le)
 refine⟨e,.ref C,od,KW H e,none,rfl,J.os,J.bare,⟨⟨un.keep,un.slot,λ b o q n x=>by rw[eB (old b o q)];exact un.free b o q n x,un.there,λ b xs q=>?_,λ b o u q=>?_,λ b p q=>?_⟩,λ b o q=>?_,J.stack,λ b z=>?_,J.ok.frames⟩,le,iT,⟨_,_,ho,rfl,rfl,rfl,rfl⟩,(λ T fl e=>by cases e),q⟩
 ·have y:=un.eZ b xs q
  rw[eB (λ z=>by rw[z,hx]at y;cases y)];exact y
 ·have y:=un.eT b o u q
  rw[eB (λ z=>by rw[z,hx]at y;cases y)];exact y
 ·obtain⟨mo,y⟩:=un.fE b p q
  exact⟨mo,by rw[eB (λ z=>by rw[z,hx]at y;cases y)];exact y⟩
 ·have ne:b≠e:=λ z=>by rw[z,iT]at q;cases q
  rw[eB ne]at q
  refine(J.a_ b o q).dU (λ d u y z=>z) (λ c z=>?_) λ c xs z=>?_
  ·rw[eB (λ w=>by rw[w,hx]at z;cases z)];exact z
  ·rw[eB (λ w=>by rw[w,hx]at z;cases z)];exact z
 ·by_cases y:b=e
  ·rw[y];exact iT
  ·rw[eB y];exact J.iB b z
theorem Ct{E:XK}(hex:X.ex=[]):Passes (nI X.prog X.w) (X.fS (XF X E)) E:=by
 rintro pins σ H s e s' I ⟨a,c,dx,T,H',rfl,dJ,bare,un,a_,h1,h2,n1,n2,t,q⟩
 have J:=I.oO dJ un a_ bare λ b z=>absurd z (by simp)
 have R0:=J.base
 have JV:(X.fS (XF X E)).ex=[]:=hex
 rw[JV]at R0
 obtain⟨oe,vs,oT,ts,he,hc,hd,dv,v1,ne,hT,dT,v3⟩:=t
 refine⟨a,c,dx,H',some (T,.none),rfl,J.os,J.bare,⟨R0,J.a_,J.stack,J.iB,J.ok.frames⟩,y8 I.sz h1,n1,⟨oe,vs,he,hc,hd,dv,v1,ne,oT,ts,hT,dT,v3⟩,λ T' fl e=>?_,q⟩
 cases e
 exact⟨y8 I.sz h2,n2,.inl rfl⟩
end
end L2
namespace L2
open PySem PySem.Spec PyProof.Rows
section
variable {P:Program}{w:World}{K:PySem.W.Frag}{mg:Str->Option Value}{base:Heap}
abbrev Gx(P:Program)(w:World)(K:PySem.W.Frag)(mg:Str->Option Value)(base:Heap)(N:List Str)(qual:Str)(scope:Scope)(f:Addr)(cd:Value)(A:Around)(outer:List Env)(s:Shared)(H:Hp)(E:XK):Cx:=
 (nv (nI P w) P w K mg base N qual scope f cd A outer s H E).fS (XF (nv (nI P w) P w K mg base N qual scope f cd A outer s H E) E)
theorem eN.Tn {x qual:Str}{st:Stmt}{f:Addr}{fd:FuncData}{N ps:List Str}{k:Nat}{sp:Sp}(F:eN K x qual st f fd)(S:aI N ps (aj st))(len:∀vs H Q E,sp vs H Q E->vs.length=ps.length)
  (fg:∀(bW:Value) (A:Around) (outer:List Env) (s:Shared) (H:Hp) (vs:List V) (Q:VK) (E:XK),bC k (A.deeper (envOfC qual (aj st) s.heap.objs.size f bW))->sp vs H Q E->
   ∃t,nF (Gx P w K mg base N qual (aj st) f bW A outer s H E) (cb st) t/\t {nx:=λ _ H'=>Q .aZ H',rt:=Q} (start N vs) H):bh P w K mg base (nI P w) (k+1) f fd ps sp:=by
 obtain⟨oc,od,kV,doc,pm,an,bW,ct,xB,rfl,lk,hcd⟩:=F.ex
 refine Gh lk hcd S len λ A outer s H vs Q E hr Bi=>?_
 obtain⟨t,h,q⟩:=fg bW A outer s H vs Q E hr Bi
 refine⟨t,λ pins s' σ H' D I ht=>?_,q⟩
 exact z9 (h pins s' σ H' D (I.fS _) ht) (λ _ _ z=>z.dS) λ e s2 z=>GF rfl rfl (y9 _) I.ok.frames z
theorem sR{N:List Str}{qual:Str}{scope:Scope}{f:Addr}{cd:Value}{A:Around}{outer:List Env}{s:Shared}{H:Hp}{E:XK}:
  PassesOwn (model P w) (Gx P w K mg base N qual scope f cd A outer s H E).A (Gx P w K mg base N qual scope f cd A outer s H E).env (Gx P w K mg base N qual scope f cd A outer s H E).xe:=Cs rfl rfl (y9 _)
theorem fj{N:List Str}{qual:Str}{scope:Scope}{f:Addr}{cd:Value}{A:Around}{outer:List Env}{s:Shared}{H:Hp}{E:XK}:ik (Gx P w K mg base N qual scope f cd A outer s H E) E:=yN rfl
theorem sS{N:List Str}{qual:Str}{scope:Scope}{f:Addr}{cd:Value}{A:Around}{outer:List Env}{s:Shared}{H:Hp}{E:XK}:Passes (nI P w) (Gx P w K mg base N qual scope f cd A outer s H E) E:=Ct rfl
end
end L2
namespace L3
open PySem PySem.Spec PyProof.Rows L2
abbrev wK:=Addr->List (Str×D)->Mem->Prop
def mS(K:PySem.W.Frag)(H:Hp)(ds:List (Str×D))(fs:List (Str×V)):Prop:=Paired (λ(p:Str×D) (q:Str×V)=>p.1=q.1/\Dat K H p.2 q.2) ds fs
def Pb(K:PySem.W.Frag)(E2:wK):XK:=λ c od H=>∃C dx fs ds M,c=.ref C/\od=some dx/\H dx=some (XD dx fs)/\mS K H ds fs/\RelM K H M/\E2 C ds M
def hU(K:PySem.W.Frag)(H:Hp)(E2:wK)(E:XK):Prop:=∀C dx fs ds H' M',H' dx=some (XD dx fs)->mS K H' ds fs->RelM K H' M'->ar H H'->E2 C ds M'->E (.ref C) (some dx) H'
theorem Un.text {fs ex:List Addr}{H H':Hp}{h h':Heap}(u:Un fs ex H H' h h'):ar H H':=⟨u.eZ,u.eT⟩
section
variable {X:Cx}{E:XK}{E2:wK}
theorem xa(hs:ik X E)(k:hU X.K X.H₀ E2 E):ik X (Pb X.K E2):=by
 intro pins σ H s e C t od J le hx ⟨C',dx,fs,ds,M,e1,e2,hd,fr,rm,q⟩
 cases e1
 subst e2
 refine hs pins σ H s e C t (some dx) J le hx (k C dx fs ds _ M hd fr rm ?_ q)
 have u:=Un.text J.base
 exact⟨λ b xs z=>by have y:=u.tup b xs z;rw[eB (λ w=>by rw[w,hx]at y;cases y)];exact y,λ b o v z=>by have y:=u.kM b o v z;rw[eB (λ w=>by rw[w,hx]at y;cases y)];exact y⟩
theorem xA(hp:Passes (nI X.prog X.w) X E)(k:hU X.K X.H₀ E2 E):Passes (nI X.prog X.w) X (Pb X.K E2):=by
 rintro pins σ H s e s' I ⟨a,c,od,T,H',rfl,dJ,bare,un,a_,h1,h2,n1,n2,t,C',dx,fs,ds,M,rfl,rfl,hd,fr,rm,q⟩
 exact hp pins σ H s _ s' I ⟨a,_,_,T,H',rfl,dJ,bare,un,a_,h1,h2,n1,n2,t,k C' dx fs ds H' M hd fr rm ((Un.text I.base).trans (Un.text un)) q⟩
end
def ye{α:Type}(ns:List Str)(us:List α):List (Str×α):=(ns.zip us).reverse
theorem BF{K:PySem.W.Frag}{H:Hp}:∀(ns:List Str) {ds:List D} {us:List V},aA K H ds us->mS K H (ye ns ds) (ye ns us):=by
 have app:∀{a b:List (Str×D)} {c d:List (Str×V)},mS K H a c->mS K H b d->mS K H (a++b) (c++d):=by
  intro a b c d h1 h2
  induction h1 with
  |nil=>exact h2
  |cons p _ ih=>exact .cons p ih
 intro ns
 induction ns with
 |nil=>intro ds us _;exact .nil
 |cons n ns ih=>
  intro ds us h
  cases ds with
  |nil=>cases(aq.mp h);exact .nil
  |cons d ds=>
   obtain⟨u,r,rfl,hu,hr⟩:=ag.mp h
   unfold ye
   rw[zip_cons_cons,zip_cons_cons,reverse_cons,reverse_cons]
   exact app (ih hr) (.cons ⟨rfl,hu⟩ .nil)
def Pw(C:Addr)(ns:List Str):Sp:=λ vs H Q _=>∃e t us,vs=.ref e::us/\us.length=ns.length/\H e=some (XO e C none t)/\∀t' dx,H dx=none->dx≠e->Q .aZ (upd (upd H e (XO e C (some dx) t')) dx (XD dx (ye ns us)))
theorem Fg{H:Hp}{e dx:Addr}{a b:HO}(h:H e=none)(ne:dx≠e):KW (upd (upd H e a) dx b) e=upd H dx b:=by
 funext c
 by_cases z:c=e
 ·rw[z,iT,az ne.symm,h]
 ·rw[eB z]
  by_cases y:c=dx
  ·rw[y,aS,aS]
  ·rw[az y,az y,az z]
section
variable {X:Cx}{E:XK}{E2:wK}{C fI:Addr}{k:Nat}{fd:FuncData}{ps ns:List Str}{x:Str}{np bT pos:Pos}{a:Expr}{as:List Expr}{t:ft}
def ue(C:Addr)(ns:List Str)(E2:wK)(t:ft):fP:=λ _ δ M=>t δ M λ ds M1=>ds.length=ns.length/\ns.length<=900/\E2 C (ye ns ds) M1
theorem zP(hs:ik X E)(kx:hU X.K X.H₀ E2 E)(hc:X.calm=true)(hg:Gl X x)(hm:X.mg x=some (.ref C))(ec:vj X.K C fI)(F:bh X.prog X.w X.K X.mg X.base eO k fI fd ps (Pw C ns))(hr:bC (k+1) X.A)(hb:Binds X.K fd ps [])
  (ha:QA X (a::as) t) (hdb:(x==("__debug__":Str))=false:=by decide) (he:starEach (a::as) X.env=(false,eval a X.env)::starEach as X.env:=by rfl) (hpl:(backTo bT (starEach as X.env)).any (·.1)=false:=by rfl):
  QS X (.Raise (some (.Call (.Name x np) (a::as) [] bT)) none pos) (ue C ns E2 t):=
 gY (z_ (xa hs kx) hc hg hm ec F hr hb ha hdb he hpl) λ D σ H ⟨δ,M,D2,hs,hm,q,kk⟩=>by
  refine⟨δ,M,_,hs,hm,q,λ vs H1 ds M1 hd bO t1 ⟨hl,qH,q1⟩=>⟨by rw[hd.length,hl];omega,λ e t0 fe=>?_⟩⟩
  refine⟨e,t0,vs,rfl,by rw[hd.length,hl],aS,λ t' dx SD ne=>⟨rfl,some dx,t',?_,?_⟩⟩
  ·rw[az ne.symm,kg,aS]
  ·have SA:H1 dx=none:=by rw[az ne]at SD;exact SD
   rw[kg,Fg fe ne]
   exact⟨C,dx,_,_,M1,rfl,rfl,aS,BF ns (aA.mono (ar.laid SA) _ hd),bO.laid SA,q1⟩
end
end L3
namespace L2
open PySem PySem.Spec PyProof.Rows
section
variable {X:Cx}{x:Str}{pos:Pos}{C:Addr}
def K7(C:Addr):TE:=λ _ H Q=>Q (.ref C) H
theorem IJ(hg:Gl X x)(hm:X.mg x=some (.ref C))(hdb:(x==("__debug__":Str))=false:=by decide):PE X (.Name x pos) (K7 C):=λ pins s σ H Q I h=>eJ I hg hm ⟨.ref C,H,I,rfl,h⟩ hdb
theorem yq:cY X (.builtin "isinstance") (λ xs H Q=>∃(a C dx:Addr) (fs:List (Str×V)) (c:Addr) (b:Bool),xs=[.ref a,.ref c]/\H a=some (XT a C (some dx))/\H dx=some (XD dx fs)/\vi X.K C/\PySem.W.kitOne X.K (.ref C) (.ref c)=some b/\Q (.bl b) H):=by
 intro pins s σ H xs us Q I r ⟨a,C,dx,fs,c,b,e,h1,h2,ei,k,q⟩
 subst e
 obtain⟨u,RX,rfl,ru,r2⟩:=nL r
 obtain⟨u2,rfl,r3⟩:=vals1 r2
 obtain rfl:u=Value.ref a:=ru
 obtain rfl:u2=Value.ref c:=r3
 exact EM I h1 h2 ei k λ tk=>⟨.bl b,H,I.tok tk,rfl,q⟩
end
end L2
namespace L3
open PySem PySem.Spec PyProof.Rows L2
abbrev tG:=List D->Mem->br->wK->Prop
def jz(K:PySem.W.Frag)(sp:tG):Sp:=λ vs H Q E=>∃ds M Q2 E2,aA K H ds vs/\RelM K H M/\sp ds M Q2 E2/\gW K H Q2 Q/\hU K H E2 E
structure iZ(P:Program)(w:World)(K:PySem.W.Frag)(mg:Str->Option Value)(base:Heap)(k:Nat)(x:Str)(ps:List Str)(sp:tG):Prop where
 ex:∃(f:Addr) (fd:FuncData),bh P w K mg base (nI P w) k f fd ps (jz K sp)/\mg x=some (.ref f)/\PySem.W.keepIn K (.ref f)=true/\Binds K fd ps []
section
variable {P:Program}{w:World}{K:PySem.W.Frag}{mg:Str->Option Value}{base:Heap}
theorem Qa{x qual:Str}{st:Stmt}{f:Addr}{fd:FuncData}{N ps:List Str}{k:Nat}{sp:tG}(F:eN K x qual st f fd)(S:aI N ps (aj st))(len:∀ds M Q E,sp ds M Q E->ds.length=ps.length)
  (fg:∀(bW:Value) (A:Around) (outer:List Env) (s:Shared) (H:Hp) (E:XK) (ds:List D) (M:Mem) (Q:br) (E2:wK),bC k (A.deeper (PyProof.Rows.envOfC qual (aj st) s.heap.objs.size f bW))->sp ds M Q E2->hU K H E2 E->
   ∃t,yK (Gx P w K mg base N qual (aj st) f bW A outer s H E) (cb st) t/\t {nx:=λ _ M'=>fin2 Q .aZ M',rt:=fin2 Q} (fG N ds) M):bh P w K mg base (nI P w) (k+1) f fd ps (jz K sp):=by
 refine F.Tn S (λ vs H Q E h=>?_) (λ bW A outer s H vs Q E hr h=>?_)
 ·obtain⟨ds,M,Q2,E2,hd,_,hs,_⟩:=h
  rw[hd.length]
  exact len ds M Q2 E2 hs
 ·obtain⟨ds,M,Q2,E2,hd,hm,hs,kk,kx⟩:=h
  obtain⟨t,ht,q⟩:=fg bW A outer s H E ds M Q2 E2 hr hs kx
  refine⟨_,ht,fG N ds,M,_,nS hd,hm,q,⟨?_,?_,?_,?_⟩⟩
  ·exact λ σ' H' δ' M' _ dR t' ⟨yL,s,q⟩=>kk _ H' .aZ yL (cU.mpr rfl) (dR.sub s) t' q
  ·exact λ v H' d M' fM dR t' ⟨yL,s,q⟩=>kk v H' d yL fM (dR.sub s) t' q
  ·exact λ σ' H' δ' M' _ dR t' q=>q
  ·exact λ σ' H' δ' M' _ dR t' q=>q
end
section
variable {X:Cx}{E:XK}{E2:wK}{k:Nat}{ps:List Str}{sp:tG}{x:Str}{p pos:Pos}{e:Expr}{es:List Expr}{t:ft}
theorem yW{K:PySem.W.Frag}{H:Hp}:hU K H E2 (Pb K E2):=λ C dx fs ds H' M' a b c _ q=>⟨C,dx,fs,ds,M',rfl,rfl,a,b,c,q⟩
def OI(sp:tG)(E2:wK)(t:ft):bV:=λ δ M Q=>t δ M λ ds M1=>sp ds M1 Q E2
theorem Ij(hp:Passes (nI X.prog X.w) X E)(kx:hU X.K X.H₀ E2 E)(d:iZ X.prog X.w X.K X.mg X.base k x ps sp)(hr:bC k X.A)(hg:Gl X x)(ha:QA X (e::es) t)(hdb:(x==("__debug__":Str))=false:=by decide)
  (he:starEach (e::es) X.env=(false,eval e X.env)::starEach es X.env:=by rfl) (hpl:(backTo pos (starEach es X.env)).any (·.1)=false:=by rfl):QE X (.Call (.Name x p) (e::es) [] pos) (OI sp E2 t):=by
 obtain⟨f,fd,F,hm,kp,b⟩:=d.ex
 refine bF (vP F hr hg hm kp b (dvs:=[]) .nil (xA hp kx) ha hdb he hpl) λ σ H Q ⟨δ,M,Q2,hs,hm,q,kk⟩=>?_
 refine⟨δ,M,_,hs,hm,q,λ vs H1 ds M1 hd bO t1 q1=>?_⟩
 show jz X.K sp (vs++[]) H1 Q _
 rw[s9]
 exact⟨ds,M1,Q2,E2,hd,bO,q1,kk.mono t1,yW⟩
end
end L3
namespace L3
open PySem PySem.Spec PyProof.Rows L2
theorem bK.unset {K:PySem.W.Frag}{H:Hp}{δ:cZ}{σ:L2.St}(h:bK K H δ σ){i:Nat}{o:Option V}:bK K H (δ.set i none) (σ.set i o):=by
 refine⟨by rw[length_set,length_set];exact h.len,λ j e hj=>?_⟩
 by_cases oC:i=j
 ·subst oC
  have hi:i < δ.length:=by
   have:=(g9.mp hj).1
   simpa using this
  rw[getElem?_set_self hi]at hj
  cases hj
 ·rw[getElem?_set_ne oC]at hj
  obtain⟨u,q,w⟩:=h.get j e hj
  exact⟨u,by rw[getElem?_set_ne oC];exact q,w⟩
def dq.but (D:dq)(i:Nat):dq:={nx:=λ δ M=>D.nx (δ.set i none) M,rt:=D.rt,bk:=λ δ M=>D.bk (δ.set i none) M,ct:=λ δ M=>D.ct (δ.set i none) M}
theorem mS.mono {K:PySem.W.Frag}{H H':Hp}(t:ar H H'){ds:List (Str×D)}{fs:List (Str×V)}(h:mS K H ds fs):mS K H' ds fs:=by
 induction h with
 |nil=>exact .nil
 |cons p _ ih=>exact .cons ⟨p.1,Dat.mono t _ p.2⟩ ih
def wL(X:Cx)(i:Nat)(KI:List Stmt)(h2:Addr->List (Str×D)->fP):Prop:=∃th:Addr->TS,(∀a,nF (X.ER a) KI (th a))/\
 ∀(a C dx:Addr) (fs:List (Str×V)) (ds:List (Str×D)) (D:Ends) (D2:dq) (σ:L2.St) (H:Hp) (δ:cZ) (M:Mem),σ[i]?=some (some (.ref a))->H a=some (XT a C (some dx))->H dx=some (XD dx fs)->mS X.K H ds fs->bK X.K H δ σ->RelM X.K H M->h2 C ds D2 δ M->oW X.K H D2 D->th a D σ H
end L3
namespace L4
open PySem PySem.Spec L2 L3
section
variable {X:Cx}{e:Expr}{te:bV}{tt:eU}
theorem cL(h:WE X.vR e te):WE X e te:=⟨PE.vR h.h⟩
theorem k_(h:WT X.vR e tt):WT X e tt:=⟨PT.vR h.h⟩
end
structure GA(P:Program)(w:World)(K:PySem.W.Frag)(mg:Str->Option Value)(base:Heap)(k:Nat)(x:Str)(C:Addr)(ns:List Str):Prop where
 nm:mg x=some (.ref C)
 ex:∃(fI:Addr) (fd:FuncData) (ps:List Str),vj K C fI/\bh P w K mg base eO k fI fd ps (Pw C ns)/\Binds K fd ps []
section
variable {X:Cx}{E:XK}{E2:wK}{C:Addr}{k:Nat}{ps ns:List Str}{x:Str}{p np bT pos:Pos}{a e:Expr}{as es:List Expr}{t:ft}{sp:tG}
theorem f_(hs:ik X E)(kx:hU X.K X.H₀ E2 E)(hc:X.calm=true)(hg:Gl X x)(er:GA X.prog X.w X.K X.mg X.base k x C ns)(hr:bC (k+1) X.A)(ha:WA X (a::as) t)(hdb:(x==("__debug__":Str))=false:=by decide)
  (he:starEach (a::as) X.env=(false,eval a X.env)::starEach as X.env:=by rfl) (hpl:(backTo bT (starEach as X.env)).any (·.1)=false:=by rfl):
  WS X (.Raise (some (.Call (.Name x np) (a::as) [] bT)) none pos) (ue C ns E2 t):=by
 obtain⟨fI,fd,ps,ec,F,b⟩:=er.ex
 exact⟨zP hs kx hc hg er.nm ec F hr b ha.h hdb he hpl⟩
theorem tT(hp:Passes (nI X.prog X.w) X E)(kx:hU X.K X.H₀ E2 E)(d:iZ X.prog X.w X.K X.mg X.base k x ps sp)(hr:bC k X.A)(hg:Gl X x)(ha:WA X (e::es) t)(hdb:(x==("__debug__":Str))=false:=by decide)
  (he:starEach (e::es) X.env=(false,eval e X.env)::starEach es X.env:=by rfl) (hpl:(backTo pos (starEach es X.env)).any (·.1)=false:=by rfl):WE X (.Call (.Name x p) (e::es) [] pos) (OI sp E2 t):=⟨Ij hp kx d hr hg ha.h hdb he hpl⟩
end
theorem P'{P:Program}{w:World}{K:PySem.W.Frag}{mg:Str->Option Value}{base:Heap}{x qual:Str}{st:Stmt}{f:Addr}{fd:FuncData}{N ps:List Str}{k:Nat}{sp:tG}(F:eN K x qual st f fd)(S:aI N ps (aj st))(len:∀ds M Q E,sp ds M Q E->ds.length=ps.length)
  (fg:∀(bW:Value) (A:Around) (outer:List Env) (s:Shared) (H:Hp) (E:XK) (ds:List D) (M:Mem) (Q:br) (E2:wK),bC k (A.deeper (PyProof.Rows.envOfC qual (aj st) s.heap.objs.size f bW))->sp ds M Q E2->hU K H E2 E->
   ∃t,B6 (Gx P w K mg base N qual (aj st) f bW A outer s H E) (cb st) t/\t {nx:=λ _ M'=>fin2 Q .aZ M',rt:=fin2 Q} (fG N ds) M):bh P w K mg base (nI P w) (k+1) f fd ps (jz K sp):=
 L3.Qa F S len λ bW A outer s H E ds M Q E2 hr h kx=>by
  obtain⟨t,ht,q⟩:=fg bW A outer s H E ds M Q E2 hr h kx
  exact⟨t,ht.h,q⟩
theorem gj{C:Addr}{ns:List Str}{E2:wK}{t:ft}{D:dq}{δ:cZ}{M:Mem}(h:t δ M λ ds M1=>ds.length=ns.length/\ns.length<=900/\E2 C (ye ns ds) M1):ue C ns E2 t D δ M:=h
theorem Lv{sp:tG}{E2:wK}{t:ft}{δ:cZ}{M:Mem}{Q:br}(h:t δ M λ ds M1=>sp ds M1 Q E2):OI sp E2 t δ M Q:=h
end L4
namespace L4
open PySem L2 L3
def JI:Option (Option Value)->Bool
 |some none=>true|_=>false
theorem EN:∀{o:Option (Option Value)},JI o=true->o=some none
 |some none,_=>rfl
 |some (some _),h=>by cases h
 |none,h=>by cases h
structure yC(K:PySem.W.Frag)(mg:Str->Option Value)(x q:Str)(st:Stmt)(C fI:Addr)(ps ns:List Str):Prop where
 m:mg x=some (.ref C)
 F:∃fd,eN K "__init__" q st fI fd
 ec:vj K C fI
 ei:vi K C
 cat:kb K C
 no:(ns.all λ f=>JI (PySem.W.findIn K (.ref C) f))=true
section
variable {K:PySem.W.Frag}{mg:Str->Option Value}{x q:Str}{st:Stmt}{C fI:Addr}{ps ns:List Str}
theorem yC.Qi (c:yC K mg x q st C fI ps ns){f:Str}(h:f∈ns):PySem.W.findIn K (.ref C) f=some none:=EN (List.all_eq_true.mp c.no f h)
theorem yC.eg (c:yC K mg x q st C fI ps ns){f:Str}(h:f∈ns):FJ K C f:=⟨c.ei.ga,c.ei.gt,c.Qi h,c.ei.ba,c.ei.hd⟩
end
theorem iZ.of {P:Program}{w:World}{K:PySem.W.Frag}{mg:Str->Option Value}{base:Heap}{k:Nat}{x qual:Str}{ps:List Str}{sp:tG}{st:Stmt}{f:Addr}{fd:FuncData}(F:eN K x qual st f fd)(G:bh P w K mg base (nI P w) k f fd ps (jz K sp))(hm:mg x=some (.ref f))(b:Binds K fd ps []):iZ P w K mg base k x ps sp:=⟨f,fd,G,hm,F.kp,b⟩
theorem Ql{A:Type}{P:List A->Prop}{n:Nat}(h:∀a t,t.length=n->P (a::t)):∀us:List A,us.length=n+1->P us
 |[],e=>nomatch e
 |a::t,e=>h a t (Nat.succ.inj e)
theorem Tw{A:Type}{P:List A->Prop}(h:∀a,P [a]):∀us:List A,us.length=1->P us:=Ql λ a t e=>by rw[eq_nil_of_length_eq_zero e];exact h a
theorem ln2{A:Type}{P:List A->Prop}(h:∀a b,P [a,b]):∀us:List A,us.length=2->P us:=Ql λ a=>Tw (P:=λ t=>P (a::t)) (h a)
theorem Tv{A:Type}{P:List A->Prop}(h:∀a b c,P [a,b,c]):∀us:List A,us.length=3->P us:=Ql λ a=>ln2 (P:=λ t=>P (a::t)) (h a)
theorem SX{us:List V}{n m:Str}(h:us.length=[n,m].length):∃u v,us=[u,v]:=ln2 (P:=λ us=>∃u v,us=[u,v]) (λ a b=>⟨a,b,rfl⟩) us h
end L4
namespace L2
open PySem PySem.Spec PyProof.Rows
open HT (lexLt bB bD bp bq)
section
open PySem.SeqAt PySem.MeetsSeq PySem.MeetsSeq2 PySem.MeetsSeq3 PySem.SeqRoads2
open PySem.AutoSeq1 (wpAny_loadPart')
theorem iH(A:Around)(s:Shared)(a:Int)(t:Tok)(c:Int)(u:Tok)(prog:Program)(w:World)(E:Value->Shared->Prop)(Q:Value->Shared->Prop)(h:Q (.bool (decide (a<=c))) s):
  wpAny (model prog w) A (richCompare .LtE (.int a t) (.int c u)) Q E s:=
 (PyProof.Rows.le_int h:wpAny (model prog w) A (compareOp .LtE (.int a t) (.int c u)) Q E s)
theorem Ez(l b:Addr)(xs ys:Array Value)(n k:Nat)(dd ee:Option Addr)(sl tl:Array (Option Value))(ns ms:List Int)(hi:IntsAre xs.toList ns)(hj:IntsAre ys.toList ms)(f:Nat):
  ∀i:Nat,ns.length - i=f->Meets (Builtin.«list.__eq__.loop» ⟨[.ref l,.ref b,rawInt i,rawInt 1],[]⟩)
   (λ A R s=>s.heap.get? l=some {cls:=.type "list",dict:=dd,data:=.seq xs n,slots:=sl}/\s.heap.get? b=some {cls:=.type "list",dict:=ee,data:=.seq ys k,slots:=tl}/\i<=ns.length/\i<=ms.length/\
    R (.ok (.ret (.bool (!lexLt (ms.drop i) (ns.drop i))))) s):=by
 have z1:xs.size=ns.length:=by rw[<- hi.length];simp
 have z2:ys.size=ms.length:=by rw[<- hj.length];simp
 induction f with
 |zero=>
  intro i hf prog w A R s h
  obtain⟨hp,g,d,tk,os⟩:=s
  obtain⟨hl,hb,i1,i2,h⟩:=h
  wp_walk using u5 hl,u5 hb
  have e1:xs[((i:Nat):Int).toNat]?=none:=by simp;omega
  have d1:ns.drop i=[]:=by simp;omega
  rw[d1]at h
  rw[e1]
  have fin:R (.ok (.ret (.bool (decide (xs.size<=ys.size))))) ⟨hp,g,d,tk,os⟩:=by
   have q:(!lexLt (ms.drop i) [])=decide (xs.size<=ys.size):=by
    rw[x3 (show xs.size<=ys.size by omega)]
    cases e:ms.drop i with
    |nil=>rw[bD];rfl
    |cons c r=>rw[bq];rfl
   rw[<- q];exact h
  wp_walk using u5 hl,u5 hb
  exact fin
 |succ f ih=>
  intro i hf prog w A R s h
  obtain⟨hp,g,d,tk,os⟩:=s
  obtain⟨hl,hb,i1,i2,h⟩:=h
  have a1:i < ns.length:=by omega
  obtain⟨t,e1⟩:=iL hi a1
  have e1:xs[((i:Nat):Int).toNat]?=some (.int ns[i] t):=by simpa using e1
  by_cases a2:i < ms.length
  ·obtain⟨u,e2⟩:=iL hj a2
   have e2:ys[((i:Nat):Int).toNat]?=some (.int ms[i] u):=by simpa using e2
   rw[g8 a1,g8 a2,bB]at h
   wp_walk using u5 hl,u5 hb
   rw[e1,e2]
   refine z6 (EqAt.int_int ns[i] t ms[i] u prog w _ _ ?_)
   have cc:((i:Int)+1)=((i+1:Nat):Int):=by push_cast;rfl
   by_cases q:ns[i]=ms[i]
   ·rw[A3 q.symm]at h
    have qb:(ns[i]==ms[i])=true:=by simp[q]
    rw[qb]
    wp_walk
    rw[cc]
    exact⟨y2 plain_eq_loop _,v8 entry_eq_loop (by rw[k7 plain_eq_loop _];exact ih (i+1) (by omega) prog w A R _ ⟨hl,hb,by omega,by omega,h⟩)⟩
   ·rw[A4 (A2 q)]at h
    have qb:(ns[i]==ms[i])=false:=by simp[q]
    rw[qb]
    have rl:=iH A.in1 ⟨hp,g,d,tk,os⟩ ns[i] t ms[i] u prog w
    wp_walk using u5 hl,u5 hb
    rw[e1,e2]
    wp_walk using rl
    have qq:(!decide (ms[i] < ns[i]))=decide (ns[i]<=ms[i]):=by
     by_cases z:ns[i]<=ms[i]
     ·rw[x3 z,u4 (by omega)];rfl
     ·rw[u4 z,x3 (by omega)];rfl
    rw[<- qq]
    exact h
  ·have e2:ys[((i:Nat):Int).toNat]?=none:=by simp;omega
   have d2:ms.drop i=[]:=by simp;omega
   rw[g8 a1,d2,bp]at h
   wp_walk using u5 hl,u5 hb
   rw[e1,e2]
   wp_walk using u5 hl,u5 hb
   have q:decide (xs.size<=ys.size)=false:=u4 (by omega)
   show R (.ok (.ret (.bool (decide (xs.size<=ys.size))))) _
   rw[q]
   exact h
theorem l_(l b:Addr)(xs ys:Array Value)(n k:Nat)(dd ee:Option Addr)(sl tl:Array (Option Value))(ns ms:List Int)(hi:IntsAre xs.toList ns)(hj:IntsAre ys.toList ms):
  Meets (Builtin.«list.__le__» ⟨[.ref l,.ref b],[]⟩) (λ A R s=>s.heap.get? l=some {cls:=.type "list",dict:=dd,data:=.seq xs n,slots:=sl}/\s.heap.get? b=some {cls:=.type "list",dict:=ee,data:=.seq ys k,slots:=tl}/\
    R (.ok (.ret (.bool (!lexLt ms ns)))) s):=by
 intro prog w A R s h
 obtain⟨hp,g,d,tk,os⟩:=s
 obtain⟨hl,hb,h⟩:=h
 have f3:=AutoSeq1.sub_list_list
 wp_walk using u5 hl,u5 hb
 exact⟨y2 plain_eq_loop _,v8 entry_eq_loop (by rw[k7 plain_eq_loop _];exact Ez l b xs ys n k dd ee sl tl ns ms hi hj _ 0 rfl prog w A R _ ⟨hl,hb,z4 _,z4 _,h⟩)⟩
theorem AK{prog:Program}{w:World}{A:Around}{E:Value->Shared->Prop}{s:Shared}{l b:Addr}{xs ys:Array Value}{ns ms:List Int}{Q:Value->Shared->Prop}(hl:s.heap.IsList l xs)(hb:s.heap.IsList b ys)(hi:IntsAre xs.toList ns)(hj:IntsAre ys.toList ms)
  (hu:A.units < cLine) (h:Q (.bool (!lexLt ms ns)) s):wpAny (model prog w) A (compareOp .LtE (.ref l) (.ref b)) Q E s:=by
 obtain⟨⟨c1,dd,da,sl⟩,o1,k1,n,d1⟩:=id hl
 obtain⟨⟨c2,ee,db,tl⟩,o2,k2,m,d2⟩:=id hb
 simp only at k1 d1 k2 d2
 subst k1 d1 k2 d2
 exact richCompare_meets_room (op:=.LtE) ⟨_,o1,rfl⟩ ⟨_,o2,rfl⟩ PySem.F.slot_list_le PySem.F.entry_list_le (PySem.F.args_list_le_2 _ _) (l_ l b xs ys n m dd ee sl tl ns ms hi hj)
  ⟨o1,o2,show Value.bool (!lexLt ms ns)≠Value.notImplemented/\Q (.bool (!lexLt ms ns)) s from⟨(λ x=>nomatch x),h⟩⟩ hu
theorem JA{l b m m':Addr}{i j:Int}{t u:Tok}{ns ms:List Int}{xs ys:List Value}{n k:Nat}{dd ee:Option Addr}{sl tl:Array (Option Value)}(i1:IntsAre xs ns)(i2:IntsAre ys ms):
  Meets (Builtin.«tuple.__le__» ⟨[.ref l,.ref b],[]⟩)
   (λ A R s=>s.heap.get? l=some {cls:=.type "tuple",dict:=dd,data:=.seq #[.int i t,.ref m] n,slots:=sl}/\s.heap.get? b=some {cls:=.type "tuple",dict:=ee,data:=.seq #[.int j u,.ref m'] k,slots:=tl}/\s.heap.IsList m xs.toArray/\s.heap.IsList m' ys.toArray/\A.units+2 < cLine/\
    R (.ok (.ret (.bool (!klt (j,ms) (i,ns))))) s):=
 .of_wp λ prog w A R s h=>by
  obtain⟨hp,g,d,tk,os⟩:=s;obtain⟨hl,hb,h1,h2,hu,h⟩:=h
  have f2:=AutoSeq1.sub_tuple_tuple
  have q1:=EqAt.int_int (A:=A.in1) (s:=⟨hp,g,d,tk,os⟩) i t j u prog w
  have q2:=qi (A:=A.in1) (s:=⟨hp,g,d,tk,os⟩) (b:=false) h1 h2 i1 i2 (by show A.in1.units+1 < cLine;exact m6 (by exact y9 _) hu) prog w
  unfold klt at h
  dsimp only at h
  by_cases e:i=j
  ·rw[A3 e.symm]at h
   rw[show(i==j)=true by simp[e]]at q1
   by_cases e2:ns=ms
   ·rw[x3 e2]at q2
    rw[e2,kI]at h
    wp_walk using u5 hl,u5 hb,q1,q2
    exact⟨_,rfl,h⟩
   ·rw[u4 e2]at q2
    have q3:∀(E:Value->Shared->Prop) (Q:Value->Shared->Prop),Q (.bool (!lexLt ms ns)) ⟨hp,g,d,tk,os⟩->wpAny (model prog w) A.in1 (richCompare .LtE (.ref m) (.ref m')) Q E ⟨hp,g,d,tk,os⟩:=λ E Q z=>AK (A:=A.in1) h1 h2 i1 i2 (by show A.units+1 < cLine;omega) z
    wp_walk using u5 hl,u5 hb,q1,q2,q3
    exact⟨_,rfl,h⟩
  ·rw[A4 (A2 e)]at h
   rw[show(i==j)=false by simp[e]]at q1
   have q3:=iH A.in1 ⟨hp,g,d,tk,os⟩ i t j u prog w
   have qq:(!decide (j < i))=decide (i<=j):=by
    by_cases z:i<=j
    ·rw[x3 z,u4 (by omega)];rfl
    ·rw[u4 z,x3 (by omega)];rfl
   rw[qq]at h
   wp_walk using u5 hl,u5 hb,q1,q3
   exact⟨_,rfl,h⟩
theorem EA{prog:Program}{w:World}{A:Around}{E:Value->Shared->Prop}{s:Shared}{l b m m':Addr}{i j:Int}{t u:Tok}{ns ms:List Int}{xs ys:List Value}{n k:Nat}{o o':Obj}{Q:Value->Shared->Prop}(ho:s.heap.get? l=some o)(hc:o.cls=.type "tuple")(hd:o.data=.seq #[.int i t,.ref m] n)(gR:s.heap.get? b=some o')(sj:o'.cls=.type "tuple")(fM:o'.data=.seq #[.int j u,.ref m'] k)
  (h1:s.heap.IsList m xs.toArray) (h2:s.heap.IsList m' ys.toArray) (i1:IntsAre xs ns) (i2:IntsAre ys ms) (hu:A.units+2 < cLine) (h:Q (.bool (!klt (j,ms) (i,ns))) s):wpAny (model prog w) A (compareOp .LtE (.ref l) (.ref b)) Q E s:=by
 obtain⟨c1,dd,da,sl⟩:=o
 obtain⟨c2,ee,db,tl⟩:=o'
 dsimp only at hc hd sj fM
 subst hc hd sj fM
 exact richCompare_meets_room (op:=.LtE) ⟨_,ho,rfl⟩ ⟨_,gR,rfl⟩ PySem.F.slot_tuple_le PySem.F.entry_tuple_le (PySem.F.args_tuple_le_2 _ _) (JA i1 i2)
  ⟨ho,gR,h1,h2,by show A.units+2 < cLine;exact hu,show Value.bool (!klt (j,ms) (i,ns))≠Value.notImplemented/\Q (.bool (!klt (j,ms) (i,ns))) s from⟨(λ x=>nomatch x),h⟩⟩ (by omega)
end
end L2
namespace L3
open PySem PySem.Spec PyProof.Rows L2
section
variable {X:Cx}
theorem IW(hu:X.A.units+64 < cLine):dE X (compareOp .LtE) (λ x y H Q=>∃c c2,fv X.K false H x c/\fv X.K false H y c2/\Q (.bl (!klt c2 c)) H):=by
 intro pins s σ H x y v u Q I rx ry ⟨c,c2,h1,h2,q⟩
 obtain⟨t,m,o,tk,n,au,rfl,ho,hc,hd,hm,hi⟩:=fH I h1 rx
 obtain⟨t2,m2,o2,KH,n2,AY,rfl,wc,yH,hd2,gS,Ra⟩:=fH I h2 ry
 exact EA ho hc hd wc yH hd2 hm gS hi Ra (by omega) ⟨.bl (!klt c2 c),H,I,rfl,q⟩
def NH:eE:=λ x y M Q=>∃(i j:Int) (m m2:Addr) (ns ms:List Int),x=.tup [.int i,.ref m]/\y=.tup [.int j,.ref m2]/\M m=some (.lst (ns.map D.int))/\M m2=some (.lst (ms.map D.int))/\Q (.bl (!klt (j,ms) (i,ns))) M
theorem vY{K:PySem.W.Frag}{H:Hp}{M:Mem}{i:Int}{m:Addr}{ns:List Int}{x:V}(hm:RelM K H M)(hd:Dat K H (.tup [.int i,.ref m]) x)(h:M m=some (.lst (ns.map D.int))):fv K false H x (i,ns):=by
 obtain⟨p,xs,rfl,hs,oE⟩:=aJ.mp hd
 obtain⟨a,r,rfl,ha,hr⟩:=ag.mp oE
 obtain⟨b,r2,rfl,hb,EU⟩:=ag.mp hr
 cases(aq.mp EU)
 cases(av.mp ha)
 cases(aH.mp hb)
 obtain⟨ys,hy,Rh⟩:=hm m _ h
 rw[cK Rh]at hy
 exact⟨p,m,rfl,hs,.inl (.inl hy)⟩
theorem Ml(hu:X.A.units+64 < cLine):dC X (compareOp .LtE) NH:=⟨_,IW hu,λ x y d e H M Q2 Q hd he hm q k=>by
 obtain⟨i,j,m,m2,ns,ms,rfl,rfl,h1,h2,q⟩:=q
 exact⟨_,_,vY hm hd h1,vY hm he h2,k _ H _ M (aB.mpr rfl) hm (ar.refl H) q⟩⟩
def NI:eE:=λ x y M Q=>O4 x y M Q\/NH x y M Q
theorem Mm(hu:X.A.units+64 < cLine):dC X (compareOp .LtE) NI:=Aw.or (Ml hu)
theorem IZ:dE X (compareOp .Is) (λ x y H Q=>∃a b,x=.bl a/\y=.bl b/\Q (.bl (decide (a=b))) H):=by
 intro pins s σ H x y v u Q I rx ry ⟨a,b,e1,e2,q⟩
 subst e1 e2
 cases rx
 cases ry
 exact is_bool (aU I q (by cases a <;> cases b <;> rfl))
theorem D8:dE X (compareOp .IsNot) (λ x y H Q=>∃a b,x=.bl a/\y=.bl b/\Q (.bl (!decide (a=b))) H):=by
 intro pins s σ H x y v u Q I rx ry ⟨a,b,e1,e2,q⟩
 subst e1 e2
 cases rx
 cases ry
 exact z7 (aU I q (by cases a <;> cases b <;> rfl))
def Fm(neg:Bool):eE:=λ x y M Q=>∃a b,x=.bl a/\y=.bl b/\Q (.bl (xor neg (decide (a=b)))) M
theorem F9:dC X (compareOp .Is) (Fm false):=⟨_,IZ,λ x y d e H M Q2 Q hd he hm q k=>by
 obtain⟨a,b,rfl,rfl,q⟩:=q
 exact⟨a,b,aB.mp hd,aB.mp he,k _ H _ M (aB.mpr rfl) hm (ar.refl H) (by simpa using q)⟩⟩
theorem Jj:dC X (compareOp .IsNot) (Fm true):=⟨_,D8,λ x y d e H M Q2 Q hd he hm q k=>by
 obtain⟨a,b,rfl,rfl,q⟩:=q
 exact⟨a,b,aB.mp hd,aB.mp he,k _ H _ M (aB.mpr rfl) hm (ar.refl H) (by simpa using q)⟩⟩
end
theorem HD{a b:Bool}{M:Mem}{Q:br}(q:Q (.bl (decide (a=b))) M):Fm false (.bl a) (.bl b) M Q:=⟨a,b,rfl,rfl,by simpa using q⟩
theorem Di{a b:Bool}{M:Mem}{Q:br}(q:Q (.bl (!decide (a=b))) M):Fm true (.bl a) (.bl b) M Q:=⟨a,b,rfl,rfl,by simpa using q⟩
theorem Df{i j:Int}{m m2:Addr}{ns ms:List Int}{M:Mem}{Q:br}(h1:M m=some (.lst (ns.map D.int)))(h2:M m2=some (.lst (ms.map D.int)))(q:Q (.bl (!klt (j,ms) (i,ns))) M):NI (.tup [.int i,.ref m]) (.tup [.int j,.ref m2]) M Q:=.inr ⟨i,j,m,m2,ns,ms,rfl,rfl,h1,h2,q⟩
def fF:List Value->Option (List Str)
 |[]=>some []
 | .str x _::r=>(fF r).map (x::·)
 |_::_=>none
theorem lx:∀{us:List Value} {zs:List Str},fF us=some zs->Vals (zs.map V.str) us
 |[],zs,h=>by cases h;exact .nil
 |u::us,zs,h=>by
  cases u with
  |str x t=>
   unfold fF at h
   cases q:fF us with
   |none=>rw[q]at h;cases h
   |some ys=>
    rw[q]at h
    cases h
    exact .cons ⟨t,rfl⟩ (lx q)
  |_=>exact absurd h (by unfold fF;intro z;cases z)
theorem iV{K:PySem.W.Frag}{H:Hp}:∀zs:List Str,aA K H (zs.map D.str) (zs.map V.str)
 |[]=>by simp[aq]
 |z::zs=>by
  rw[y0,y0,ag]
  exact⟨_,_,rfl,aN.mpr rfl,iV zs⟩
theorem BD{K:PySem.W.Frag}{mg:Str->Option Value}{x:Str}{a:Addr}{d:Option Addr}{au:Array Value}{n:Nat}{sl:Array (Option Value)}{zs:List Str}(h:mg x=some (.ref a))(l:K.lookup a=some ⟨.type "tuple",d,.seq au n,sl⟩)(v:fF au.toList=some zs)(z:au.size<=sizeLine):jP K mg x (.tup (zs.map D.str)):=
 ⟨.ref a,.ref a,h,rfl,λ H=>aJ.mpr ⟨a,zs.map V.str,rfl,.inr ⟨_,au,n,l,rfl,rfl,z,lx v⟩,iV zs⟩⟩
end L3
namespace L4
open PySem L2 L3
section
variable {X:Cx}{k:Nat}{ps:List Str}{sp:tG}{x:Str}{p pos:Pos}{e:Expr}{es:List Expr}{t:ft}
def X0:wK:=λ _ _ _=>False
theorem ph(d:iZ X.prog X.w X.K X.mg X.base k x ps sp)(hr:bC k X.A)(hg:Gl X x)(ha:WA X (e::es) t)(hdb:(x==("__debug__":Str))=false:=by decide)
  (he:starEach (e::es) X.env=(false,eval e X.env)::starEach es X.env:=by rfl) (hpl:(backTo pos (starEach es X.env)).any (·.1)=false:=by rfl):WE X (.Call (.Name x p) (e::es) [] pos) (OI sp X0 t):=
 tT (E:=λ _ _ _=>False) (λ pins σ H s e s2 I ⟨_,_,_,_,_,_,_,_,_,_,_,_,_,_,_,z⟩=>z.elim) (λ _ _ _ _ _ _ _ _ _ _ z=>z) d hr hg ha hdb he hpl
end
end L4
namespace L2
open PySem PySem.Spec PyProof.Rows
section
variable {X:Cx}{pins:List (Addr×Obj)}{σ:St}{H:Hp}{s:Shared}{k:Nat}{fa:Addr}{fd:FuncData}{ps:List Str}{sp:Sp}{x:Str}{p pos:Pos}{e:Expr}{es:List Expr}{t:TA}{E:XK}
def K6(K:PySem.W.Frag)(sp:Sp)(CE:Addr)(i:Nat)(th:Addr->TS)(t:TA)(u:TS):TS:=λ D σ H=>t σ H λ vs H1=>sp vs H1 (λ v H2=>∃b,v=.bl b/\if b=true then u D σ H2 else D.nx σ H2) (EH K CE i th D σ)
theorem DR{n xc:Str}{i:Nat}{np uN iC lr cp kp:Pos}{j:Nat}{body:List Stmt}{b0:Stmt}{suite:List Stmt}{th:Addr->TS}{u:TS}{CE:Addr}(hE:∀v s,X.xe v s->False)(hst:X.stack=X.env::X.outer/\X.env.frame=some X.env.locals)(hN:X.N.Nodup)
  (hi:X.N[i]?=some n) (hk:X.env.scope.names.lookup n=some .local)
  (F:bh X.prog X.w X.K X.mg X.base (nI X.prog X.w) k fa fd ps sp) (hr:bC k X.A) (hg:Gl X x) (hm:X.mg x=some (.ref fa)) (Ul:PySem.W.keepIn X.K (.ref fa)=true) (hb:Binds X.K fd ps []) (ha:PA X (e::es) t)
  (Nf:nF X body u) (M9:Gl X xc) (MV:X.mg xc=some (.ref CE)) (hC:kb X.K CE) (hs:∀a,nF (X.ER a) (b0::suite) (th a))
  (hdb:(x==("__debug__":Str))=false:=by decide) (Bx:(xc==("__debug__":Str))=false:=by decide) (he:starEach (e::es) X.env=(false,eval e X.env)::starEach es X.env:=by rfl) (hpl:(backTo pos (starEach es X.env)).any (·.1)=false:=by rfl):
  PS X (.Try [.If (.Compare (.Call (.Name x p) (e::es) [] pos) [.Is] [.Constant (.bool true) j kp] cp) body [] iC] [.ExceptHandler (some (.Name xc np)) (some n) (b0::suite) uN] [] [] lr) (K6 X.K sp CE i th t u):=by
 intro pins s σ H D I h
 have up:∀{α:Type} {m:Sem α} {Q:α->Shared->Prop} {Ex:Value->Shared->Prop} {s:Shared},wpAny (model X.prog X.w) X.A m Q X.xe s->wpAny (model X.prog X.w) X.A m Q Ex s:=λ z=>z9 z (λ _ _ q=>q) λ v s q=>(hE v s q).elim
 refine wpAny_Try_except (wpAny_execs_cons (wpAny_If (wpAny_isTrue_Compare1 (z9 (Ry hE F hr hg hm Ul hb ha I h (λ H1 s1 v s' I1 cx=>Kn I1 hst hN hi hk M9 MV hC hs cx Bx) hdb he hpl) (λ v s1 ⟨z,H1,I1,r1,b,e1,q1⟩=>?_) λ _ _ z=>z) rfl)))
 subst e1
 cases r1
 refine Constant_bool (is_bool (o7 ?_))
 cases b with
 |true=>exact up (ck (Nf pins s1 σ H1 D I1 q1) λ f s2 z=>by
   cases f with
   |next=>exact wpAny_execs_nil (wpAny_execs_nil z)
   |_=>exact z)
 |false=>exact wpAny_execs_nil (wpAny_execs_nil (wpAny_execs_nil ⟨σ,H1,I1,q1⟩))
end
end L2
namespace L3
open PySem PySem.Spec PyProof.Rows L2
section
variable {X:Cx}{k:Nat}{ps:List Str}{sp:tG}{x:Str}{p pos:Pos}{e:Expr}{es:List Expr}{t:ft}
def zh(K:PySem.W.Frag)(sp:tG)(CE:Addr)(i:Nat)(h2:Addr->List (Str×D)->fP)(t:ft)(u:fP):fP:=λ D δ M=>i < δ.length/\t δ M λ ds M1=>sp ds M1 (λ d M2=>∃b,d=.bl b/\if b=true then u D δ M2 else D.nx δ M2) (λ C fs M2=>kb K C/\w_ K C CE=true/\h2 C fs (D.but i) (δ.set i none) M2)
theorem DC{n xc:Str}{i:Nat}{np uN iC lr cp kp:Pos}{j:Nat}{body:List Stmt}{b0:Stmt}{suite:List Stmt}{h2:Addr->List (Str×D)->fP}{u:fP}{CE:Addr}(hE:∀v s,X.xe v s->False)(hst:X.stack=X.env::X.outer/\X.env.frame=some X.env.locals)(hN:X.N.Nodup)
  (hi:X.N[i]?=some n) (hk:X.env.scope.names.lookup n=some .local)
  (d:iZ X.prog X.w X.K X.mg X.base k x ps sp) (hr:bC k X.A) (hg:Gl X x) (ha:QA X (e::es) t) (Nf:yK X body u) (M9:Gl X xc) (MV:X.mg xc=some (.ref CE)) (hC:kb X.K CE) (hs:wL X i (b0::suite) h2)
  (hdb:(x==("__debug__":Str))=false:=by decide) (Bx:(xc==("__debug__":Str))=false:=by decide) (he:starEach (e::es) X.env=(false,eval e X.env)::starEach es X.env:=by rfl) (hpl:(backTo pos (starEach es X.env)).any (·.1)=false:=by rfl):
  QS X (.Try [.If (.Compare (.Call (.Name x p) (e::es) [] pos) [.Is] [.Constant (.bool true) j kp] cp) body [] iC] [.ExceptHandler (some (.Name xc np)) (some n) (b0::suite) uN] [] [] lr) (zh X.K sp CE i h2 t u):=by
 obtain⟨f,fd,F,hm,kp,b⟩:=d.ex
 obtain⟨th,TZ,hl⟩:=hs
 refine gY (DR hE hst hN hi hk F hr hg hm kp b ha Nf M9 MV hC TZ hdb Bx he hpl) λ D σ H ⟨δ,M,D2,hs,hm,⟨li,q⟩,kk⟩=>?_
 refine⟨δ,M,_,hs,hm,q,λ vs H1 ds M1 hd bO t1 q1=>⟨ds,M1,_,_,hd,bO,q1,λ v H2 d M2 hd2 gS t2 ⟨b,eb,q2⟩=>?_,λ C dx fs Vk H2 M2 hx fr rm t2 ⟨ec,sc,q2⟩=>⟨C,rfl,ec,sc,λ a na=>?_⟩⟩⟩
 ·subst eb
  refine⟨b,aB.mp hd2,?_⟩
  cases b with
  |true=>exact⟨δ,M2,D2,hs.mono (t1.trans t2),gS,q2,⟨λ σ' H' δ' M' a b c q=>kk.nx σ' H' δ' M' a b ((t1.trans t2).trans c) q,λ v H' d M' a b c q=>kk.rt v H' d M' a b ((t1.trans t2).trans c) q,λ σ' H' δ' M' a b c q=>kk.bk σ' H' δ' M' a b ((t1.trans t2).trans c) q,λ σ' H' δ' M' a b c q=>kk.ct σ' H' δ' M' a b ((t1.trans t2).trans c) q⟩⟩
  |false=>exact kk.nx _ H2 _ M2 (hs.mono (t1.trans t2)) gS (t1.trans t2) q2
 ·have ne:dx≠a:=λ z=>by rw[z,na]at hx;cases hx
  have tl:ar H2 (upd H2 a (XT a C (some dx))):=ar.laid na
  have hlen:=hs.len
  refine hl a C dx fs Vk (L2.Ends.but D i) (dq.but D2 i) _ _ (δ.set i none) M2 (getElem?_set_self (by rw[<- hlen];exact li)) aS (by rw[az ne];exact hx) (fr.mono tl) (bK.unset (hs.mono ((t1.trans t2).trans tl))) (rm.laid na) q2 ⟨?_,?_,?_,?_⟩
  ·exact λ σ' H' δ' M' mi dR t' q'=>kk.nx _ H' _ M' mi.unset dR ((t1.trans t2).trans (tl.trans t')) q'
  ·exact λ v H' d M' fM dR t' q'=>kk.rt v H' d M' fM dR ((t1.trans t2).trans (tl.trans t')) q'
  ·exact λ σ' H' δ' M' mi dR t' q'=>kk.bk _ H' _ M' mi.unset dR ((t1.trans t2).trans (tl.trans t')) q'
  ·exact λ σ' H' δ' M' mi dR t' q'=>kk.ct _ H' _ M' mi.unset dR ((t1.trans t2).trans (tl.trans t')) q'
end
def R4(X:Cx)(i j:Nat)(f1 f2:Str)(cG:Addr):TS:=
 K' (tB (Lb (λ xs H Q=>∃(a C dx:Addr) (fs:List (Str×V)) (c:Addr) (b:Bool),xs=[.ref a,.ref c]/\H a=some (XT a C (some dx))/\H dx=some (XD dx fs)/\vi X.K C/\PySem.W.kitOne X.K (.ref C) (.ref c)=some b/\Q (.bl b) H) (nO (yY i) (nO (K7 cG) CI))))
  (yZ (K5 (nO (Pj X.K (yY i) f1) (nO (Pj X.K (yY i) f2) CI))) (iR j)) FO
theorem GY{X:Cx}{i j:Nat}{f1 f2:Str}{C cG:Addr}(ne:i≠j)(nf:f1≠f2)(ei:vi X.K C)(Vh:FJ X.K C f1)(Vg:FJ X.K C f2)(kG:PySem.W.kitOne X.K (.ref C) (.ref cG)=some true)
  {a C' dx:Addr} {fs:List (Str×V)} {ds:List (Str×D)} {D:Ends} {D2:dq} {σ:L2.St} {H:Hp} {δ:cZ} {M:Mem} (hσ:σ[i]?=some (some (.ref a))) (h1:H a=some (XT a C' (some dx))) (h2:H dx=some (XD dx fs)) (fr:mS X.K H ds fs) (sr:bK X.K H δ σ) (rm:RelM X.K H M)
  (hh:∃v w,C'=C/\ds=[(f2,w),(f1,v)]/\D2.nx (δ.set j (some (.tup [v,w]))) M) (ct:oW X.K H D2 D):R4 X i j f1 f2 cG D σ H:=by
 obtain⟨v,w,rfl,rfl,q⟩:=hh
 obtain⟨u,y,rfl,hu,hy⟩:∃u y,fs=[(f2,y),(f1,u)]/\Dat X.K H v u/\Dat X.K H w y:=by
  cases fr with
  |@cons _ b1 _ bs p r=>cases r with
   |@cons _ b2 _ Wt p2 r2=>cases r2 with
    |nil=>obtain⟨n1,y⟩:=b1;obtain⟨n2,u⟩:=b2;obtain⟨e1,z1⟩:=p;obtain⟨e2,z2⟩:=p2;cases e1;cases e2;exact⟨u,y,rfl,z2,z1⟩
 refine⟨.ref a,hσ,a,C',dx,_,cG,true,rfl,h1,h2,ei,kG,true,rfl,?_⟩
 refine⟨.ref a,hσ,a,C',dx,_,u,rfl,h1,h2,Vh,by simp[List.lookup,beq_eq_false_iff_ne.mpr nf],?_⟩
 refine⟨.ref a,hσ,a,C',dx,_,y,rfl,h1,h2,Vg,by simp[List.lookup],(Nat.le_of_ble_eq_true rfl:(2:Nat)<=sizeLine),λ p1 SG=>?_⟩
 have t1:ar H (upd H p1 (.tup [u,y])):=ar.laid SG
 show D.nx (σ.set j (some (V.ref p1))) (upd H p1 (.tup [u,y]))
 refine ct.nx _ _ _ M ((sr.mono t1).set (aJ.mpr ⟨p1,_,rfl,.inl (.inl aS),?_⟩)) (rm.laid SG) t1 q
 unfold aA
 refine⟨_,_,rfl,Dat.mono t1 _ hu,?_⟩
 unfold aA
 refine⟨_,_,rfl,Dat.mono t1 _ hy,?_⟩
 unfold aA
 rfl
end L3
namespace L4
open PySem PySem.Spec L2 L3
section
variable {X:Cx}{k:Nat}{ps:List Str}{sp:tG}{x:Str}{p pos:Pos}{e:Expr}{es:List Expr}{t:ft}
theorem Cu{n xc:Str}{i:Nat}{np uN iC lr cp kp:Pos}{j:Nat}{body:List Stmt}{b0:Stmt}{suite:List Stmt}{h2:Addr->List (Str×D)->fP}{u:fP}{CE:Addr}(hE:∀v s,X.xe v s->False)(hst:X.stack=X.env::X.outer/\X.env.frame=some X.env.locals)(hN:X.N.Nodup)
  (hi:X.N[i]?=some n) (hk:X.env.scope.names.lookup n=some .local)
  (d:iZ X.prog X.w X.K X.mg X.base k x ps sp) (hr:bC k X.A) (hg:Gl X x) (ha:WA X (e::es) t) (Nf:B6 X body u) (M9:Gl X xc) (MV:X.mg xc=some (.ref CE)) (hC:kb X.K CE) (hs:wL X i (b0::suite) h2)
  (hdb:(x==("__debug__":Str))=false:=by decide) (Bx:(xc==("__debug__":Str))=false:=by decide) (he:starEach (e::es) X.env=(false,eval e X.env)::starEach es X.env:=by rfl) (hpl:(backTo pos (starEach es X.env)).any (·.1)=false:=by rfl):
  WS X (.Try [.If (.Compare (.Call (.Name x p) (e::es) [] pos) [.Is] [.Constant (.bool true) j kp] cp) body [] iC] [.ExceptHandler (some (.Name xc np)) (some n) (b0::suite) uN] [] [] lr) (zh X.K sp CE i h2 t u):=
 ⟨DC hE hst hN hi hk d hr hg ha.h Nf.h M9 MV hC hs hdb Bx he hpl⟩
end
theorem CT{K:PySem.W.Frag}{sp:tG}{CE:Addr}{i:Nat}{h2:Addr->List (Str×D)->fP}{t:ft}{u:fP}{D:dq}{δ:cZ}{M:Mem}(li:i < δ.length)(h:t δ M λ ds M1=>sp ds M1 (λ d M2=>∃b,d=.bl b/\if b=true then u D δ M2 else D.nx δ M2) (λ C fs M2=>kb K C/\w_ K C CE=true/\h2 C fs (dq.but D i) (δ.set i none) M2)):zh K sp CE i h2 t u D δ M:=⟨li,h⟩
end L4
namespace HT
open PySem PySem.Spec PyProof.Rows
section
variable {prog:Program}{w:World}{A:Around}{E:Value->Shared->Prop}{s:Shared}
theorem jf{sl:Addr}{u:Tok}{n:Nat}{Q:Int×Int×Nat->Shared->Prop}(hs:s.heap.IsSliceOf sl .none .none (.int (-1) u))(h:Q ((n:Int) - 1,-1,n) s):wpAny (model prog w) A (Builtin.Slice.sliceApplied (.ref sl) (pure (n:Int))) Q E s:=by
 obtain⟨os,dJ,JX,oE⟩:=id hs
 unfold Builtin.Slice.sliceApplied Builtin.Slice.sliceFields
 refine z6 (z6 (z5 dJ oE (x:=.none) rfl (z6 (z5 dJ oE (x:=.none) rfl (z6 (z5 dJ oE (x:=.int (-1) u) rfl (z7 ?_)))))))
 refine z6 (slicePart_int ?_)
 show wpAny _ _ (if((-1:Int)==0)=true then _ else _) _ _ s
 rw[A4 (by decide)]
 refine z6 (slicePart_none (z6 (slicePart_none (z6 (z7 ?_)))))
 show wpAny _ _ (pure ((n:Int) - 1,(-1:Int),Builtin.Slice.slicePlaces ((n:Int) - 1) (-1) (-1))) _ _ s
 have e:Builtin.Slice.slicePlaces ((n:Int) - 1) (-1) (-1)=n:=by
  unfold Builtin.Slice.slicePlaces
  rw[A4 (by decide)]
  simp only[Int.neg_neg,Int.ediv_one]
  split <;> omega
 rw[e]
 exact z7 h
theorem Ab(xs:Array Value):((List.range xs.size).filterMap λ(m:Nat)=>xs[(((xs.size:Nat):Int) - 1+(m:Int)* -1).toNat]?).toArray=xs.toList.reverse.toArray:=by
 congr 1
 refine ext_getElem? λ i=>?_
 have e:∀n,n<=xs.size->(List.range n).filterMap (λ(m:Nat)=>xs[(((xs.size:Nat):Int) - 1+(m:Int)* -1).toNat]?)=(List.range n).map λ m=>xs.toList.reverse.getD m .none:=by
  intro n hn
  induction n with
  |zero=>rfl
  |succ n ih=>
   rw[range_succ,filterMap_append,w9,ih (by omega)]
   congr 1
   have hi:(((xs.size:Nat):Int) - 1+(n:Int)* -1).toNat=xs.size - 1 - n:=by omega
   have hl:xs.size - 1 - n < xs.size:=by omega
   simp only[filterMap_cons,filterMap_nil,y0,map_nil,hi,c9 hl]
   rw[c7,getElem?_reverse (by simp;omega)]
   simp[hl]
 rw[e _ (y9 _),n0]
 by_cases hi:i < xs.size
 ·rw[k9 hi]
  simp only[Option.map_some]
  rw[c7,i4 (by simpa using hi)]
  rfl
 ·rw[j8 (by simpa using hi),j8 (by simpa using hi)]
  rfl
theorem iO{t sl:Addr}{items:Array Value}{u:Tok}{Q:Value->Shared->Prop}(ht:IsTup s.heap t items)(hs:s.heap.IsSliceOf sl .none .none (.int (-1) u))
  (h:Q (.ref s.heap.objs.size) {s with heap:=s.heap.push {cls:=.type "tuple",data:=.seq items.toList.reverse.toArray}})
  (hsz:items.size<=sizeLine):wpAny (model prog w) A (getItem (.ref t) (.ref sl)) Q E s:=by
 have iN:sizeOk (.seq items.toList.reverse.toArray):=by
  show items.toList.reverse.toArray.size<=sizeLine
  rw[p4,length_reverse,l4]
  exact hsz
 obtain⟨os,dJ,JX,oE⟩:=id hs
 have Nh:s.TypeIs (.ref sl) "slice":=⟨os,dJ,JX⟩
 unfold getItem
 try with_reducible refine x5 ?_
 first|refine z6 (z7 ?_)|skip
 refine z6 (wpAny_sequenceKey ht.typeIs (by decide) ?_)
 refine z6 (i7 (name:=Str.ofString "__getitem__") ht.typeIs a0
  (q8 a0 ht.typeIs entry_tuple_getitem ?_ (args_tuple_getitem _ _)))
 show wpAny _ _ (Builtin.Tuple.tupleItemsOf (.ref t) >>= _) _ _ s
 refine z6 (tupleItemsOf_ ht ?_)
 refine z6 (wpAny_typeOf Nh ?_)
 rw[A3 (by decide)]
 refine z6 (jf (n:=items.size) hs ?_)
 have Q4:¬((((items.size:Nat):Int) - 1==0&&(-1:Int)==1&&items.size==items.size)=true):=by
  intro q
  rw[q9,q9]at q
  exact absurd q.1.2 (by decide)
 show wpAny _ _ (if(((items.size:Nat):Int) - 1==0&&(-1:Int)==1&&items.size==items.size)=true then _ else _) _ _ s
 rw[A4 Q4,Ab]
 first
  |exact z6 (m:=Builtin.Tuple.tupleExact _) (n6 (z7 ⟨_,rfl,z7 h⟩) iN)
  |exact z6 (m:=Builtin.Tuple.tupleExact _) (n6 (z6 (z7 (z7 ⟨_,rfl,z7 h⟩))) iN)
  |exact z6 (z6 (m:=Builtin.Tuple.tupleExact _) (n6 (z7 (z7 ⟨_,rfl,z7 h⟩)) iN))
  |exact z6 (z6 (m:=Builtin.Tuple.tupleExact _) (n6 (z7 ⟨_,rfl,z7 h⟩) iN))
end
end HT
namespace L2
open PySem PySem.Spec PyProof.Rows
theorem yU{xs:List V}{au:List Value}(r:Vals xs au):Vals xs.reverse au.reverse:=by
 induction r with
 |nil=>exact .nil
 |cons a _ ih=>rw[reverse_cons,reverse_cons];exact ih.append (.cons a .nil)
section
variable {X:Cx}{e st:Expr}{te ts:TE}{p2 pos:Pos}
def Pn(K:PySem.W.Frag)(te ts:TE):TE:=λ σ H Q=>te σ H λ x H1=>ts σ H1 λ y H2=>y=.int (-1)/\∃a xs,x=.ref a/\fu K H2 a xs/\∀p,H2 p=none->Q (.ref p) (upd H2 p (.tup xs.reverse))
theorem IC(he:PE X e te)(hst:PE X st ts):PE X (.Subscript e (.Slice none none (some st) p2) pos) (Pn X.K te ts):=by
 intro pins s σ H Q I h
 refine Subscript_ (ck (he pins s σ H _ I h) λ v s1 ⟨x,H1,I1,r1,q1⟩=>?_)
 refine wpAny_Slice ?_
 rw[evalPart_none,evalPart_some]
 refine z7 (z7 (ck (hst pins s1 σ H1 _ I1 q1) λ vs s2 ⟨y,H2,I2,r2,ey,a,xs,ex,hx,q⟩=>?_))
 subst ey ex
 obtain⟨tk,rfl⟩:=r2
 cases r1
 have I3:Inv X pins σ H2 {s2 with heap:=s2.heap.push {cls:=.type "slice",data:=.fields #[.none,.none,.int (-1) tk]}}:=I2.kept (t':=s2.toks) λ b ob q=>j1 _ q
 obtain⟨au,r,ht,hz⟩:=I3.tuple hx
 show wpAny (model X.prog X.w) X.A (subscriptTail e (.Slice none none (some st) p2) (.ref a) (.ref s2.heap.objs.size)) (EP X pins σ Q) X.xe {s2 with heap:=s2.heap.push {cls:=.type "slice",data:=.fields #[.none,.none,.int (-1) tk]}}
 refine tail_any (ops:=[.ref a,.ref s2.heap.objs.size]) ht.typeIs a0.lookup ?_ (by with_unfolding_all rfl)
 refine HT.iO ht (Heap.IsSliceOf.new ..) ?_ (by rw[p4];rw[<- r.length];exact hz)
 refine⟨.ref _,_,I3.laid (t':=s2.toks) (o:=.tup xs.reverse) (λ b ob q=>j1 _ q) (y9 _) ?_,rfl,q _ (I3.a_.fresh (y9 _))⟩
 exact⟨by rw[length_reverse];exact hz,_,yU r,IsTup.new _ _⟩
end
end L2
namespace L3
open PySem PySem.Spec PyProof.Rows L2
section
variable {X:Cx}{e st:Expr}{ta ts:bV}{p2 pos:Pos}
def G6(ta ts:bV):bV:=λ δ M Q=>ta δ M λ d M1=>ts δ M1 λ y M2=>y=.int (-1)/\match d with
 | .tup ds=>Q (.tup ds.reverse) M2
 |_=>False
theorem sJ{K:PySem.W.Frag}{H:Hp}:∀{ds:List D} {xs:List V},aA K H ds xs->aA K H ds.reverse xs.reverse
 |[],xs,h=>by cases(aq.mp h);exact aq.mpr rfl
 |d::ds,xs,h=>by
  obtain⟨x,r,rfl,hx,hr⟩:=ag.mp h
  rw[reverse_cons,reverse_cons]
  exact(sJ hr).append (ag.mpr ⟨x,[],rfl,hx,aq.mpr rfl⟩)
theorem LN(he:QE X e ta)(hs:QE X st ts):QE X (.Subscript e (.Slice none none (some st) p2) pos) (G6 ta ts):=by
 refine bF (IC he hs) ?_
 rintro σ H Q ⟨δ,M,Q2,hs,hm,q,k⟩
 refine⟨δ,M,_,hs,hm,q,λ x H1 d M1 hd bO t1 q1=>?_⟩
 refine⟨δ,M1,_,hs.mono t1,bO,q1,λ y H2 dy M2 Rh gS t2 ⟨ey,q2⟩=>?_⟩
 subst ey
 refine⟨av.mp Rh,?_⟩
 cases d with
 |tup ds=>
  obtain⟨a,xs,rfl,hx,oE⟩:=aJ.mp (Dat.mono t2 _ hd)
  refine⟨a,xs,rfl,hx,λ p hp=>?_⟩
  exact k _ _ _ M2 (aJ.mpr ⟨p,_,rfl,.inl (.inl aS),sJ (aA.mono (ar.laid hp) _ oE)⟩) (gS.laid hp) ((t1.trans t2).trans (ar.laid hp)) q2
 |_=>exact q2.elim
end
end L3
namespace L4
open PySem L2 L3
theorem w_rev{X:Cx}{e st:Expr}{ta ts:bV}{p2 pos:Pos}(he:WE X e ta)(hs:WE X st ts):WE X (.Subscript e (.Slice none none (some st) p2) pos) (G6 ta ts):=⟨LN he.h hs.h⟩
theorem Hn{ta ts:bV}{δ:cZ}{M:Mem}{Q:br}(h:ta δ M λ d M1=>ts δ M1 λ y M2=>y=.int (-1)/\match d with
 | .tup ds=>Q (.tup ds.reverse) M2
 |_=>False):G6 ta ts δ M Q:=h
end L4
namespace L2
open PySem PySem.Spec PyProof.Rows
open HT (lexLt bB bD bp bq my)
section
open PySem.SeqAt PySem.MeetsSeq PySem.MeetsSeq2 PySem.MeetsSeq3 PySem.SeqRoads2
open PySem.AutoSeq1 (wpAny_loadPart')
theorem mX(l b:Addr)(items bM:Array Value)(n n2:Nat)(dd Cp:Option Addr)(sl Cd:Array (Option Value))(ns ms:List Int)(hi:IntsAre items.toList ns)(hj:IntsAre bM.toList ms):
  Meets (Builtin.«tuple.__le__» ⟨[.ref l,.ref b],[]⟩)
   (λ _ R s=>s.heap.get? l=some {cls:=.type "tuple",dict:=dd,data:=.seq items n,slots:=sl}/\s.heap.get? b=some {cls:=.type "tuple",dict:=Cp,data:=.seq bM n2,slots:=Cd}/\
    R (.ok (.ret (.bool (!lexLt ms ns)))) s):=
 .of_wp λ prog w A R s h=>by
  obtain⟨hp,g,d,tk,os⟩:=s;obtain⟨hl,hb,h⟩:=h
  have f2:=AutoSeq1.sub_tuple_tuple
  have z1:items.size=ns.length:=by rw[<- hi.length];simp
  have z2:bM.size=ms.length:=by rw[<- hj.length];simp
  wp_walk using u5 hl,u5 hb,wpAny_forIn_list _ (λ rest b s'=>b.1=none/\s'=⟨hp,g,d,tk,os⟩/\∃(vs ws:List Value) (xM xQ:List Int),rest=vs.zip ws/\
   IntsAre vs xM/\IntsAre ws xQ/\xM.length+bM.size=xQ.length+items.size/\R (.ok (.ret (.bool (!lexLt xQ xM)))) ⟨hp,g,d,tk,os⟩) _
  case turn=>
   rintro⟨y,x⟩ rest b s' ⟨wj,rfl,vs,ws,xM,xQ,hz,JP,ET,hlen,hR⟩
   cases JP with
   |nil=>rw[zip_nil_left]at hz;cases hz
   |cons a t JO=>
    cases ET with
    |nil=>rw[zip_nil_right]at hz;cases hz
    |cons c u JN=>
     rw[zip_cons_cons]at hz
     injection hz with Qv Bk
     injection Qv with hy hx
     subst hy hx
     rw[bB]at hR
     simp only[p8]at hlen
     obtain⟨e,he,Bt⟩:=my A.in1 ⟨hp,g,d,tk,os⟩ a t c u
     refine z6 (he prog w _ _ ?_)
     cases e with
     |true=>
      rw[A3 (Bt.mp rfl).symm]at hR
      wp_walk
      exact⟨rfl,rfl,_,_,_,_,Bk,JO,JN,by omega,hR⟩
     |false=>
      rw[A4 (λ q=>absurd (Bt.mpr q.symm) l7)]at hR
      have QK:=iH A.in1 ⟨hp,g,d,tk,os⟩ a t c u prog w
      have qq:(!decide (c < a))=decide (a<=c):=by
       by_cases z:a<=c
       ·rw[x3 z,u4 (by omega)];rfl
       ·rw[u4 z,x3 (by omega)];rfl
      rw[qq]at hR
      wp_walk using QK
      exact⟨_,rfl,by simpa using hR⟩
  case fin=>
   rintro⟨b1,b2⟩ s' ⟨wj,rfl,vs,ws,xM,xQ,hz,JP,ET,hlen,hR⟩
   simp only at wj
   subst wj
   have hv:(!lexLt xQ xM)=decide (items.size<=bM.size):=by
    cases JP with
    |nil=>
     cases ET with
     |nil=>
      simp only[length_nil]at hlen
      rw[bD]
      exact(x3 (by omega)).symm
     |cons c u hw=>
      simp only[length_nil,p8]at hlen
      rw[bq]
      exact(x3 (by omega)).symm
    |cons a t hv=>
     cases ET with
     |nil=>
      simp only[length_nil,p8]at hlen
      rw[bp]
      exact(u4 (by omega)).symm
     |cons c u hw=>
      rw[zip_cons_cons]at hz
      cases hz
   rw[hv]at hR
   wp_walk
   exact⟨_,rfl,by simpa[Builtin.Tuple.tupleCompareSizes]using hR⟩
  case h=>
   exact⟨rfl,rfl,items.toList,bM.toList,ns,ms,rfl,hi,hj,by omega,h⟩
theorem uK{prog:Program}{w:World}{A:Around}{E:Value->Shared->Prop}{s:Shared}{l b:Addr}{items bM:Array Value}{ns ms:List Int}{Q:Value->Shared->Prop}(hl:s.heap.IsTuple l items)(hb:s.heap.IsTuple b bM)(hi:IntsAre items.toList ns)(hj:IntsAre bM.toList ms)
  (hu:A.units < cLine) (h:Q (.bool (!lexLt ms ns)) s):wpAny (model prog w) A (compareOp .LtE (.ref l) (.ref b)) Q E s:=by
 obtain⟨⟨cls,dd,data,sl⟩,ho,hc,n,hd⟩:=id hl
 obtain⟨⟨NV,Cp,data2,Cd⟩,wc,yH,n2,hd2⟩:=id hb
 simp only at hc hd yH hd2
 subst hc hd yH hd2
 exact richCompare_meets_room (op:=.LtE) ⟨_,ho,rfl⟩ ⟨_,wc,rfl⟩ PySem.F.slot_tuple_le PySem.F.entry_tuple_le (PySem.F.args_tuple_le_2 _ _) (mX l b items bM n n2 dd Cp sl Cd ns ms hi hj)
  ⟨ho,wc,show Value.bool (!lexLt ms ns)≠Value.notImplemented/\Q (.bool (!lexLt ms ns)) s from⟨(λ x=>nomatch x),h⟩⟩ hu
theorem EG{l b m m':Addr}{i j:Int}{t u:Tok}{ns ms:List Int}{xs ys:List Value}{n k:Nat}{dd ee:Option Addr}{sl tl:Array (Option Value)}(i1:IntsAre xs ns)(i2:IntsAre ys ms):
  Meets (Builtin.«tuple.__le__» ⟨[.ref l,.ref b],[]⟩)
   (λ A R s=>s.heap.get? l=some {cls:=.type "tuple",dict:=dd,data:=.seq #[.int i t,.ref m] n,slots:=sl}/\s.heap.get? b=some {cls:=.type "tuple",dict:=ee,data:=.seq #[.int j u,.ref m'] k,slots:=tl}/\s.heap.IsTuple m xs.toArray/\s.heap.IsTuple m' ys.toArray/\A.units+2 < cLine/\
    R (.ok (.ret (.bool (!klt (j,ms) (i,ns))))) s):=
 .of_wp λ prog w A R s h=>by
  obtain⟨hp,g,d,tk,os⟩:=s;obtain⟨hl,hb,h1,h2,hu,h⟩:=h
  have f2:=AutoSeq1.sub_tuple_tuple
  have q1:=EqAt.int_int (A:=A.in1) (s:=⟨hp,g,d,tk,os⟩) i t j u prog w
  have q2:=qi (A:=A.in1) (s:=⟨hp,g,d,tk,os⟩) (b:=true) h1 h2 i1 i2 (by show A.in1.units+1 < cLine;exact m6 (by exact y9 _) hu) prog w
  unfold klt at h
  dsimp only at h
  by_cases e:i=j
  ·rw[A3 e.symm]at h
   rw[show(i==j)=true by simp[e]]at q1
   by_cases e2:ns=ms
   ·rw[x3 e2]at q2
    rw[e2,kI]at h
    wp_walk using u5 hl,u5 hb,q1,q2
    exact⟨_,rfl,h⟩
   ·rw[u4 e2]at q2
    have q3:∀(E:Value->Shared->Prop) (Q:Value->Shared->Prop),Q (.bool (!lexLt ms ns)) ⟨hp,g,d,tk,os⟩->wpAny (model prog w) A.in1 (richCompare .LtE (.ref m) (.ref m')) Q E ⟨hp,g,d,tk,os⟩:=λ E Q z=>uK (A:=A.in1) h1 h2 i1 i2 (by show A.units+1 < cLine;omega) z
    wp_walk using u5 hl,u5 hb,q1,q2,q3
    exact⟨_,rfl,h⟩
  ·rw[A4 (A2 e)]at h
   rw[show(i==j)=false by simp[e]]at q1
   have q3:=iH A.in1 ⟨hp,g,d,tk,os⟩ i t j u prog w
   have qq:(!decide (j < i))=decide (i<=j):=by
    by_cases z:i<=j
    ·rw[x3 z,u4 (by omega)];rfl
    ·rw[u4 z,x3 (by omega)];rfl
   rw[qq]at h
   wp_walk using u5 hl,u5 hb,q1,q3
   exact⟨_,rfl,h⟩
theorem AL{prog:Program}{w:World}{A:Around}{E:Value->Shared->Prop}{s:Shared}{l b m m':Addr}{i j:Int}{t u:Tok}{ns ms:List Int}{xs ys:List Value}{n k:Nat}{o o':Obj}{Q:Value->Shared->Prop}(ho:s.heap.get? l=some o)(hc:o.cls=.type "tuple")(hd:o.data=.seq #[.int i t,.ref m] n)(gR:s.heap.get? b=some o')(sj:o'.cls=.type "tuple")(fM:o'.data=.seq #[.int j u,.ref m'] k)
  (h1:s.heap.IsTuple m xs.toArray) (h2:s.heap.IsTuple m' ys.toArray) (i1:IntsAre xs ns) (i2:IntsAre ys ms) (hu:A.units+2 < cLine) (h:Q (.bool (!klt (j,ms) (i,ns))) s):wpAny (model prog w) A (compareOp .LtE (.ref l) (.ref b)) Q E s:=by
 obtain⟨c1,dd,da,sl⟩:=o
 obtain⟨c2,ee,db,tl⟩:=o'
 dsimp only at hc hd sj fM
 subst hc hd sj fM
 exact richCompare_meets_room (op:=.LtE) ⟨_,ho,rfl⟩ ⟨_,gR,rfl⟩ PySem.F.slot_tuple_le PySem.F.entry_tuple_le (PySem.F.args_tuple_le_2 _ _) (EG i1 i2)
  ⟨ho,gR,h1,h2,by show A.units+2 < cLine;exact hu,show Value.bool (!klt (j,ms) (i,ns))≠Value.notImplemented/\Q (.bool (!klt (j,ms) (i,ns))) s from⟨(λ x=>nomatch x),h⟩⟩ (by omega)
end
end L2
namespace L3
open PySem PySem.Spec PyProof.Rows L2
section
variable {X:Cx}
theorem IV(hu:X.A.units+64 < cLine):dE X (compareOp .LtE) (λ x y H Q=>∃c c2,fv X.K true H x c/\fv X.K true H y c2/\Q (.bl (!klt c2 c)) H):=by
 intro pins s σ H x y v u Q I rx ry ⟨c,c2,h1,h2,q⟩
 obtain⟨t,m,o,tk,n,au,rfl,ho,hc,hd,hm,hi⟩:=fH I h1 rx
 obtain⟨t2,m2,o2,KH,n2,AY,rfl,wc,yH,hd2,gS,Ra⟩:=fH I h2 ry
 exact AL ho hc hd wc yH hd2 hm gS hi Ra (by omega) ⟨.bl (!klt c2 c),H,I,rfl,q⟩
def NG:eE:=λ x y M Q=>∃(i j:Int) (ns ms:List Int),x=.tup [.int i,.tup (ns.map D.int)]/\y=.tup [.int j,.tup (ms.map D.int)]/\Q (.bl (!klt (j,ms) (i,ns))) M
theorem rT{K:PySem.W.Frag}{H:Hp}{i:Int}{ns:List Int}{x:V}(hd:Dat K H (.tup [.int i,.tup (ns.map D.int)]) x):fv K true H x (i,ns):=by
 obtain⟨p,xs,rfl,hs,oE⟩:=aJ.mp hd
 obtain⟨a,r,rfl,ha,hr⟩:=ag.mp oE
 obtain⟨b,r2,rfl,hb,EU⟩:=ag.mp hr
 cases(aq.mp EU)
 cases(av.mp ha)
 obtain⟨m,ys,rfl,hs2,Ri⟩:=aJ.mp hb
 rw[cK Ri]at hs2
 exact⟨p,m,rfl,hs,hs2⟩
theorem Mk(hu:X.A.units+64 < cLine):dC X (compareOp .LtE) NG:=⟨_,IV hu,λ x y d e H M Q2 Q hd he hm q k=>by
 obtain⟨i,j,ns,ms,rfl,rfl,q⟩:=q
 exact⟨_,_,rT hd,rT he,k _ H _ M (aB.mpr rfl) hm (ar.refl H) q⟩⟩
end
theorem Hz{i j:Int}{ns ms:List Int}{M:Mem}{Q:br}(q:Q (.bl (!klt (j,ms) (i,ns))) M):NG (.tup [.int i,.tup (ns.map D.int)]) (.tup [.int j,.tup (ms.map D.int)]) M Q:=⟨i,j,ns,ms,rfl,rfl,q⟩
end L3
namespace KK
open PySem L3 L4 L5
open L2 hiding bN uc
local macro_rules|`(tactic|walk_at "mem")=>`(tactic|first|assumption|exact ay|(rw[aM (by assumption)];assumption)|(rw[aM (by assumption),aM (by assumption)];assumption)|(rw[aM (by assumption)];exact ay))
local macro_rules|`(tactic|walk_at "rd1")=>`(tactic|first|(with_reducible first|refine Hm ?_|refine HI ?_|refine C3 ?_|refine Ho ?_|refine HP ?_|refine Dp ?_|refine vF ?_|refine Hk ?_|refine CV ?_|refine Ls ?_|refine Lo ?_)|((with_reducible refine' Hh ?k1 ?_);(case k1=>rfl))|(with_reducible first|refine PK ?_|refine HQ ?_|refine Lr ?_|refine Hr ?_|refine Dx ?_|refine Hq ?_|refine C2 ?_|refine zH ?_|refine Hs ?_|refine Dq ?_|refine Hi ?_|refine Hy ?_|refine Hj ?_|refine CU ?_|refine Dr ?_|refine zG ?_|refine HJ ?_|refine C0 ?_|refine Ds ?_|refine Du ?_|refine Dv ?_)|((with_reducible refine' Dw ?k1 ?_);(case k1=>walk_at "mem"))|(with_reducible first|refine Hg ?_|refine CW ?_|refine Lx ?_|refine PJ ?_|refine Lq ?_|refine xp ?_|refine C1 ?_|refine Ly ?_)|((with_reducible refine Hw ?k1 ?_);(case k1=>first|assumption|decide))|((with_reducible refine HN ?k1 ?k2 ?_);(case k1=>first|assumption|decide);(case k2=>first|assumption|decide|omega))|((with_reducible refine iG ?k1 ?_);(case k1=>exact Km (by decide) (by decide)))|(with_reducible first|refine zD ?_|refine CZ ?_|refine Dj ?_|refine Lu ?_|refine zJ ?_|refine zE ?_|refine zF ?_|refine zu ?_|refine HB ?_|refine HA ?_|refine Dl ?_|refine Dm ?_|refine Dk ?_|refine C5 ?_|refine C6 ?_|refine CS ?_|refine Hx ?_|refine Ht ?_|refine Dc ?_)|((with_reducible refine' eQ ?k1 ?k2 ?_);(case k1=>walk_at "mem");(case k2=>rfl))|((with_reducible refine' gm ?k2 ?_);(case k2=>rfl))|((with_reducible refine' De ?k1 ?_);(case k1=>walk_at "mem"))|((with_reducible refine' Hl ?k1 ?k2 ?_);(case k1=>walk_at "mem");(case k2=>rfl))|(with_reducible first|refine Hn ?_|refine Lv ?_|refine HD ?_|refine Di ?_|refine zB ?_|refine zC ?_|refine Dg ?_|refine Dh ?_))
local macro_rules|`(tactic|walk_at "rd")=>`(tactic|repeat(walk_at "rd1"))
local macro_rules|`(tactic|walk_at "rx")=>`(tactic|repeat(first|walk_at "rd1"|((with_reducible refine' Lp ?k1 ?_);(case k1=>exact Nat.le_of_ble_eq_true rfl))))
def top(i:Nat):Stmt:=PySem.Challenge.pw_lastloser_k03_the_first_fault_of_several.main.body.getD i (.Pass ⟨0,0,0,0⟩)
def Ga(i:Nat):Stmt:=match top i with
 | .ClassDef _ _ _ b _ _ _ _ _ _ _=>b.getD 0 (.Pass ⟨0,0,0,0⟩)
 |_=>.Pass ⟨0,0,0,0⟩
structure iq(K:PySem.W.Frag)(mg:Str->Option Value):Prop where
 ValueError:mg "ValueError"=none
 all:mg "all"=none
 any:mg "any"=none
 bool:mg "bool"=none
 dict:mg "dict"=none
 enumerate:mg "enumerate"=none
 int:mg "int"=none
 isinstance:mg "isinstance"=none
 len:mg "len"=none
 list:mg "list"=none
 min:mg "min"=none
 range:mg "range"=none
 sorted:mg "sorted"=none
 str:mg "str"=none
 sum:mg "sum"=none
 tuple:mg "tuple"=none
 jo:fQ K "bool"
 wb:fQ K "int"
 Bg:fQ K "list"
 Gd:fQ K "str"
 iM:fQ K "tuple"
 yc:jP K mg "LETTERS" (.str (Str.ofString "abcdefghijklmnopqrstuvwxyz"))
 yd:jP K mg "FIGURES" (.tup ([Str.ofString "1",Str.ofString "2",Str.ofString "3",Str.ofString "4",Str.ofString "5",Str.ofString "6",Str.ofString "7",Str.ofString "8",Str.ofString "9"].map D.str))
 E9:jP K mg "TAKEN" (.tup ([Str.ofString "row",Str.ofString "to",Str.ofString "take",Str.ofString "none",Str.ofString "one",Str.ofString "two",Str.ofString "as",Str.ofString "heap"].map D.str))
 ml:jP K mg "LONGEST_WORD" (.int 5)
 jE:mg "HeapError"=some (.ref 24)
 qj:GB K 24
 ny:kb K 24
 bU:yC K mg "NoGame" "NoGame.__init__" (Ga 2) 44 41 ["self","word","heap"] [Str.ofString "word",Str.ofString "heap"]
 sG:w_ K 44 24=true
 kG:PySem.W.kitOne K (.ref 44) (.ref 44)=some true
def qQ:gV:=λ ds M Q=>∃ns:List Int,ds=[.fl (ns.map D.int)]/\∀M',Q (.bl true) M'
section
variable {P:Program}{w:World}{K:PySem.W.Frag}{mg:Str->Option Value}{base:Heap}
theorem gf:aI ["_law_flow_here","_law_many","_law_cell","_law_digit"] ["_law_flow_here","_law_many"] (aj (top 21)):=⟨rfl,rfl,rfl,by decide+kernel,rfl,by decide+kernel,by decide+kernel⟩
theorem Ec{f:Addr}{fd:FuncData}(F:eN K "_law_pick" "_law_pick" (top 21) f fd)(T:iq K mg):bh P w K mg base eO 1 f fd ["_law_flow_here","_law_many"] (cA K h_):=by
 refine jW F gf (λ ds M Q h=>?_) (λ bW A outer s H E ds M Q hr h=>?_)
 ·obtain⟨a,c,n,rfl,_⟩:=h
  rfl
 ·obtain⟨a,c,n,rfl,⟨ns,p,b,sd,ct,hf,hc,eG,hp,hb,ME,Bj⟩,Bp,Ci,k⟩:=h
  refine⟨_,(af (bw (kZ (aV (gZ hr.units) (cf bN (ax 0) ak (λ _ _=>rfl)) ak (aR _)) (iy (aV Ji (cf bN (ax 0) ak (λ _ _=>rfl)) (aE c_ (by rfl) T.len (by decide+kernel) (aa (cf bN (ax 0) ak (λ _ _=>rfl)) ae)) (aR _)))).pt
 (af (aP (i:=2) gf.nd rfl (Or.inl rfl) (cf bN (cf bN (ax 0) ak (λ _ _=>rfl)) (cf bN (ax 0) ak (λ _ _=>rfl)) (λ _ _=>rfl)))
 (af (fA (bu aX (cf bN (ax 0) ak (λ _ _=>rfl)) ak) (hW (ax 0) ak lH))
 (ai (bw (aV Jl (ax 2) (bu Mi ak ak) (aR _))
 (ai (fA (ax 2) (hW (ax 0) ak lH)))
 (ai (fA (bu jC (bu aX (bu aX (bu jh (cf bN (ax 0) ak (λ _ _=>rfl)) ak) (bu jC (ax 2) ak)) ak) ak) (hW (ax 0) ak lH)))))))
 aL)
 (af (bw (aV xJ (cf bN (ax 0) ak (λ _ _=>rfl)) ak (aR _))
 (af (aP (i:=3) gf.nd rfl (Or.inl rfl) (bu jC (cf bN (ax 0) ak (λ _ _=>rfl)) (ax 1)))
 (af (fA (bu pU (cf bN (ax 0) ak (λ _ _=>rfl)) (ax 1)) (hW (ax 0) ak lH))
 (ai (aG (ax 3)))))
 aL)
 (af (fA (bu aX (cf bN (ax 0) ak (λ _ _=>rfl)) ak) (hW (ax 0) ak lH))
 (af (fA (bu jC (bu aX (bu aX (bu jh (cf bN (ax 0) ak (λ _ _=>rfl)) ak) ak) (cf bN (ax 0) ak (λ _ _=>rfl))) ak) (hW (ax 0) ak lH))
 (ai (aG (bu jC (bu pU (bu jC (bu jh (bu aX (bu jC (cf bN (ax 0) ak (λ _ _=>rfl)) ak) ak) (bu aX (bu pU (cf bN (ax 0) ak (λ _ _=>rfl)) ak) ak)) ak) ak) (ax 1)))))))),?_⟩
  refine ib (λ δ' M'=>∃(p b sd ct:Int) (v:Option D),δ'=[some (.ref a),some (.int n),v,none]/\M'=aK M a (.lst (Gi c p b sd ct))/\0<=p/\0<=b/\0<=sd/\sd < 2147483647) (λ N hN=>?_) ?_
  ·walk_at "rd"
   refine bz (λ Ng=>?_) (λ Ng=>?_)
   ·walk_at "rd"
    refine bz (λ hpl=>?_) (λ hpl=>?_)
    ·obtain⟨x,hx⟩:∃x:Int,eV (ns.map D.int) p=some (.int x):=by
      have hl:p.toNat < ns.length:=by rw[w5]at hpl;omega
      refine⟨ns[p.toNat],?_⟩
      have e:((p.toNat:Nat):Int)=p:=by omega
      have q:eV (ns.map D.int) ((p.toNat:Nat):Int)=some (.int ns[p.toNat]):=cI (by simp[hl])
      rw[e]at q
      exact q
     walk_at "rd"
     refine eQ hc hx ?_
     walk_at "rd"
     refine PH ⟨by decide,by decide,by decide⟩ ?_
     walk_at "rd"
     refine bz (λ JZ=>?_) (λ JZ=>?_)
     ·walk_at "rd"
      rw[eY]
      refine hN _ _ ⟨p+1,x,sd,ct,_,rfl,rfl,by omega,?_,ME,Bj⟩
      have JZ:(10:Int)^(18:Int).toNat<=x:=JZ
      have e:(10:Int)^(18:Int).toNat=1000000000000000000:=by decide
      omega
     ·walk_at "rd"
      rw[eY]
      refine hN _ _ ⟨p+1,b,_,ct,_,rfl,rfl,by omega,hb,u6 _ (by decide),m5 _ (by decide)⟩
    ·walk_at "rd"
     exact hN _ _ ⟨p,b,sd,ct,none,rfl,(nM hf).symm,hp,hb,ME,Bj⟩
   ·walk_at "rd"
    exact hN _ _ ⟨p,b,sd,ct,none,rfl,(nM hf).symm,hp,hb,ME,Bj⟩
  ·rintro δ' M' ⟨p,b,sd,ct,v,rfl,rfl,hp,hb,ME,Bj⟩
   walk_at "rd"
   refine bz (λ Ng=>?_) (λ Ng=>?_)
   ·walk_at "rd"
    rw[eY]
    refine ao (k _ _ (u6 _ (by omega)) (m5 _ Bp) ⟨ns,p,_,sd,ct,ay,by rw[aM eG];exact hc,eG,hp,Int.ediv_nonneg hb (by omega),ME,Bj⟩)
   ·walk_at "rd"
    refine iG (uX ?_ ?_) ?_
    ·have:=u6 ((sd*48271+12820163+(ct+1)) % 2147483647) (show(65521:Int)≠0 by decide)
     omega
    ·have:=m5 ((sd*48271+12820163+(ct+1)) % 2147483647) (show(0:Int) < 65521 by decide)
     omega
    walk_at "rd"
    rw[eY,eY]
    exact ao (k _ _ (u6 _ (by omega)) (m5 _ Bp) ⟨ns,p,b,_,_,ay,by rw[aM eG];exact hc,eG,hp,hb,u6 _ (by decide),m5 _ (by decide)⟩)
theorem qS:aI ["_law_script"] ["_law_script"] (aj (top 20)):=⟨rfl,rfl,rfl,by decide+kernel,rfl,by decide+kernel,by decide+kernel⟩
theorem Eg{f:Addr}{fd:FuncData}(F:eN K "_law_flow" "_law_flow" (top 20) f fd)(T:iq K mg):bh P w K mg base eO 1 f fd ["_law_script"] (cA K zd):=by
 refine jW F qS (λ ds M Q h=>?_) (λ bW A outer s H E ds M Q hr h=>?_)
 ·obtain⟨a,rfl,_⟩:=h
  rfl
 ·obtain⟨ns,rfl,k⟩:=h
  refine⟨_,(ai (aG (gX (aa (pq Ko (by rfl) T.list (by decide+kernel) (aa (ax 0) ae)) (aa ak (aa ak (aa ak (aa ak ae)))))))),?_⟩
  walk_at "rd"
  refine zz λ c hc=>?_
  walk_at "rd"
  refine⟨small (by show 5<=10000;decide),λ fl OY=>?_⟩
  have eG:c≠fl:=λ z=>by subst z;rw[ay]at OY;cases OY
  exact ao (k fl c _ ⟨ns,0,0,1,0,ay,by rw[aM eG];exact ay,eG,by decide,by decide,by decide,by decide⟩)
end
def cQ:List Str:=[Str.ofString "row",Str.ofString "to",Str.ofString "take",Str.ofString "none",Str.ofString "one",Str.ofString "two",Str.ofString "as",Str.ofString "heap"]
def lY:List Str:=[Str.ofString "rows",Str.ofString "tow",Str.ofString "takes",Str.ofString "nones",Str.ofString "ones",Str.ofString "twos",Str.ofString "ass",Str.ofString "heaps",Str.ofString "on",Str.ofString "t",Str.ofString "ro",Str.ofString "a"]
structure Lw(z:Str):Prop where
 pos:1<=z.length
 len:z.length<=5
 low:∀c∈z.cps.toList,97<=c/\c<=122
structure Wd(z:Str):Prop extends Lw z where
 free:z∉cQ
def Nm(z:Str):Prop:=Wd z\/∃(w:Str) (c:Nat),Wd w/\49<=c/\c<=57/\z=w++⟨#[c]⟩
def Mw(z:Str):Bool:=decide (1<=z.length)&&decide (z.length<=5)&&z.cps.toList.all λ c=>decide (97<=c)&&decide (c<=122)
theorem vS{z:Str}(h:Mw z=true):Lw z:=by
 unfold Mw at h
 simp only[q9,n4,List.all_eq_true]at h
 exact⟨h.1.1,h.1.2,h.2⟩
theorem Em:∀z∈lY,Mw z=true:=by decide+kernel
theorem CF:∀z∈cQ,Mw (dm z none (some 4)++Str.ofString "q")=true/\dm z none (some 4)++Str.ofString "q"∉cQ/\z.length<=4:=by decide+kernel
theorem Nm.len {z:Str}(h:Nm z):1<=z.length/\z.length<=6:=by
 rcases h with h|⟨w,c,h,_,_,rfl⟩
 ·exact⟨h.pos,Nat.le_succ_of_le h.len⟩
 ·have e:(w++⟨#[c]⟩:Str).length=w.length+1:=by rw[len_app];rfl
  rw[e]
  have:=h.len
  omega
theorem wD(x y:Str):(x++y).cps.toList=x.cps.toList++y.cps.toList:=by
 show(x.cps++y.cps).toList=_
 simp
theorem Nm.ok {z:Str}(h:Nm z):PyData.strOk z=true:=by
 have:∀c∈z.cps.toList,c < 0x110000:=by
  rcases h with h|⟨w,c,h,_,_,rfl⟩
  ·exact λ c hc=>m6 (h.low c hc).2 (by decide)
  ·intro d hd
   rw[wD]at hd
   rcases w6.mp hd with z|z
   ·exact m6 (h.low d z).2 (by decide)
   ·have:d=c:=by simpa using z
    omega
 unfold PyData.strOk
 rw[<- Array.all_toList,List.all_eq_true]
 exact λ c hc=>x3 (this c hc)
theorem join_ones:∀cs:List Nat,Txt.join (Str.ofString "") (cs.map λ c=>(⟨#[c]⟩:Str))=⟨cs.toArray⟩:=by
 intro cs
 show Builtin.Str.glued (Str.ofString "") _=_
 rw[StrLaws.glued_eq_join,show Str.ofString ""=⟨#[]⟩ by decide+kernel]
 induction cs with
 |nil=>rfl
 |cons c cs ih=>
  rw[y0,PyProof.Rows.join_nil_cons,ih]
  show Str.mk (#[c]++cs.toArray)=_
  congr 1
  simp
def Ob(acc:List D)(i:Nat):Prop:=∃cs:List Nat,acc=(cs.map λ c=>(⟨#[c]⟩:Str)).map D.str/\cs.length=i/\∀c∈cs,97<=c/\c<=122
theorem Ob.snoc {acc:List D}{i:Nat}(h:Ob acc i){c:Nat}(hc:97<=c/\c<=122):Ob (acc++[.str ⟨#[c]⟩]) (i+1):=by
 obtain⟨cs,rfl,h1,h2⟩:=h
 refine⟨cs++[c],by simp,by simp[h1],λ d hd=>?_⟩
 rcases w6.mp hd with z|z
 ·exact h2 d z
 ·rw[m8.mp z];exact hc
theorem AU{acc:List D}{n:Nat}(h:Ob acc n)(h1:1<=n)(hn:n<=5){M:Mem}{Q:br}(q:∀z:Str,Lw z->Q (.str z) M):mI (.str (Str.ofString "")) acc M Q:=by
 obtain⟨cs,rfl,h2,h3⟩:=h
 show(match e_ ((cs.map λ c=>(⟨#[c]⟩:Str)).map D.str)with|some ys=>(ys.map (·.length)).sum+ys.length*(Str.ofString "").length<=16777216/\Q (.str (Txt.join (Str.ofString "") ys)) M|none=>False)
 rw[nQ]
 have e0:(Str.ofString "").length=0:=by decide+kernel
 have e1:(((cs.map λ c=>(⟨#[c]⟩:Str))).map (·.length)).sum=cs.length:=by
  clear h2 h3
  induction cs with
  |nil=>rfl
  |cons c cs ih=>simp only[y0,sum_cons,p8]at*;rw[ih];show 1+cs.length=_;omega
 refine⟨by rw[e0,e1];omega,?_⟩
 rw[join_ones]
 have el:(⟨cs.toArray⟩:Str).length=cs.length:=by show cs.toArray.size=_;simp
 exact q _ ⟨by rw[el];omega,by rw[el];omega,λ c hc=>h3 c (by simpa using hc)⟩
theorem qy{α:Type}{xs:List α}{d:Int}{c:α}(h:eV xs d=some c):c∈xs:=by
 unfold eV at h
 cases e:tL xs.length d with
 |none=>rw[e]at h;cases h
 |some j=>rw[e]at h;exact k4 h
theorem Jq{c:Nat}{d:Int}(h:eV (Str.ofString "abcdefghijklmnopqrstuvwxyz").cps.toList d=some c):97<=c/\c<=122:=by
 have all:∀c∈(Str.ofString "abcdefghijklmnopqrstuvwxyz").cps.toList,97<=c/\c<=122:=by decide+kernel
 exact all c (qy h)
theorem BI{c:Nat}{d:Int}(h:eV (Str.ofString "123456789").cps.toList d=some c):49<=c/\c<=57:=by
 have all:∀c∈(Str.ofString "123456789").cps.toList,49<=c/\c<=57:=by decide+kernel
 exact all c (qy h)
def Li:gV:=λ ds M Q=>∃f c,ds=[.ref f]/\Flow M f c/\∀(z:Str) (M':Mem),Nm z->Fl f c M M'->Q (.str z) M'
section
variable {P:Program}{w:World}{K:PySem.W.Frag}{mg:Str->Option Value}{base:Heap}
theorem cM:aI ["_law_flow_here","_law_letters","_law_near","_law_name_here"] ["_law_flow_here"] (aj (top 23)):=⟨rfl,rfl,rfl,by decide+kernel,rfl,by decide+kernel,by decide+kernel⟩
theorem Ef{f:Addr}{fd:FuncData}(F:eN K "_law_name" "_law_name" (top 23) f fd)(T:iq K mg)(aD:cw P w K mg base 1 "_law_pick" ["_law_flow_here","_law_many"] h_):bh P w K mg base eO 2 f fd ["_law_flow_here"] (cA K Li):=by
 refine jW F cM (λ ds M Q h=>?_) (λ bW A outer s H E ds M Q hr h=>?_)
 ·obtain⟨a,cc,rfl,_⟩:=h
  rfl
 ·obtain⟨a,cc,rfl,hF,k⟩:=h
  refine⟨_,(af (aP (i:=1) cM.nd rfl (Or.inr rfl) bx)
 (af (aP (i:=2) cM.nd rfl (Or.inl rfl) (gX (pb (zs:=[Str.ofString "rows",Str.ofString "tow",Str.ofString "takes",Str.ofString "nones",Str.ofString "ones",Str.ofString "twos",Str.ofString "ass",Str.ofString "heaps",Str.ofString "on",Str.ofString "t",Str.ofString "ro",Str.ofString "a"]) (by kernel_rfl))))
 (af (aP (i:=3) cM.nd rfl (Or.inl rfl) (GH PySem.F.plainAttrs_str PySem.F.slot_str_join PySem.F.type_str_join Jo yX bx (tgs:=["_law_k"]) (fr:=[1,0]) ⟨cv (by kernel_rfl),rfl,(λ _ _ h=>h),(bR rfl T.range (aa (bu aX ak (aQ aD (hr.mono (by decide)) (by rfl) (aa (ax 0) (aa ak ae)))) ae)),(bj (λ _ _ _ _ _=>(bG (i:=0) (show(["_law_k","_law_letters","_law_flow_here"]:List Str).Nodup by decide+kernel) rfl (Or.inl rfl))) (by decide)),(λ _ _ _ _ _=>bP),(λ _ _ _ _ _=>(cf bN (ax 1) (aQ aD (hr.mono (by decide)) (by rfl) (aa (ax 2) (aa ak ae))) (λ _ _=>rfl)))⟩))
 (af (bw (aV (gZ hr.units) (aQ aD (hr.mono (by decide)) (by rfl) (aa (ax 0) (aa ak ae))) ak (aR _))
 (ai (aP (i:=3) cM.nd rfl (Or.inl rfl) (cf bN (ax 2) (aQ aD (hr.mono (by decide)) (by rfl) (aa (ax 0) (aa ak ae))) (λ _ _=>rfl))))
 aL)
 (af (bw (aV (iJ hr.units) (ax 3) (cP (pb (zs:=[Str.ofString "row",Str.ofString "to",Str.ofString "take",Str.ofString "none",Str.ofString "one",Str.ofString "two",Str.ofString "as",Str.ofString "heap"]) (by kernel_rfl))) rfl)
 (ai (aP (i:=3) cM.nd rfl (Or.inl rfl) (bu aX (bg cC (ax 3) bc (bb ak)) bx)))
 aL)
 (ai (aG (bu aX (ax 3) (cf bN (gX (aa bx (aa bx (aa (cf bN bx (aQ aD (hr.mono (by decide)) (by rfl) (aa (ax 0) (aa ak ae))) (λ _ _=>rfl)) ae)))) (aQ aD (hr.mono (by decide)) (by rfl) (aa (ax 0) (aa ak ae))) (λ _ _=>rfl)))))))))),?_⟩
  walk_at "rd"
  refine⟨by decide,λ q hq=>?_⟩
  have MI:q≠a:=λ z=>by obtain⟨o,e⟩:=hF.there;rw[<- z,hq]at e;cases e
  have F0:Fl a cc M (aK M q (.lst (lY.map D.str))):=Fl.put hF hq
  have O0:(aK M q (.lst (lY.map D.str))) q=some (.lst (lY.map D.str)):=ay
  have eM:aK M q (.lst (lY.map D.str))=aK M q (.lst ([Str.ofString "rows",Str.ofString "tow",Str.ofString "takes",Str.ofString "nones",Str.ofString "ones",Str.ofString "twos",Str.ofString "ass",Str.ofString "heaps",Str.ofString "on",Str.ofString "t",Str.ofString "ro",Str.ofString "a"].map D.str)):=rfl
  rw[<- eM]
  clear eM
  generalize aK M q (.lst (lY.map D.str))=M1 at F0 O0 ⊢
  walk_at "rd"
  refine⟨rfl,?_⟩
  walk_at "rd"
  refine⟨a,cc,5,rfl,F0.cq,by decide,by decide,λ m o h0 h1 BB=>?_⟩
  have F1:Fl a cc M1 _:=Fl.pick BB
  walk_at "rd"
  refine⟨cS (by omega) (by omega),?_⟩
  refine fK (λ i acc M'=>Ob acc i/\Fl a cc M1 M') ⟨⟨[],rfl,rfl,λ c z=>by cases z⟩,F1⟩ (λ i acc M' hi h=>?_) (λ i d' acc M' hd h=>?_) (λ acc M' h=>?_)
  ·obtain⟨⟨cs,rfl,h2,_⟩,_⟩:=h
   rw[bL]at hi
   rw[w5,w5]
   exact small (by omega)
  ·walk_at "rd"
   refine⟨a,cc,26,rfl,h.2.cq,by decide,by decide,λ d2 o2 h2 h3 E4=>?_⟩
   obtain⟨c,hc⟩:=mO (xs:=(Str.ofString "abcdefghijklmnopqrstuvwxyz").cps.toList) h2 (by
    have e:(Str.ofString "abcdefghijklmnopqrstuvwxyz").cps.toList.length=26:=by decide+kernel
    rw[e];exact h3)
   refine pJ (by decide+kernel) hc ?_
   exact⟨h.1.snoc (Jq hc),h.2.trans (Fl.pick E4)⟩
  ·obtain⟨Rq,O2⟩:=h
   rw[bL]at Rq
   refine AU Rq (by omega) (by omega) λ z hz=>?_
   have F2:=F0.trans O2
   have O0:=O2.mv q _ MI O0
   clear Rq O2
   with_reducible refine vF ?_
   with_reducible refine ib (λ δ' M2=>∃z:Str,δ'=[some (.ref a),some (.str (Str.ofString "abcdefghijklmnopqrstuvwxyz")),some (.ref q),some (.str z)]/\Lw z/\Fl a cc M M2) (λ N hN=>?_) ?_
   ·walk_at "rd"
    refine⟨a,cc,6,rfl,F2.cq,by decide,by decide,λ d3 o3 h4 h5 BA=>?_⟩
    walk_at "rd"
    refine bz (λ _=>?_) (λ _=>?_)
    ·walk_at "rd"
     refine⟨a,cc,12,rfl,BA,by decide,by decide,λ d4 o4 h6 h7 J9=>?_⟩
     obtain⟨y,hy,Qx⟩:=mM (zs:=lY) h6 (by show d4 < 12;exact h7)
     refine eQ (by rw[aM MI,aM MI];exact O0) Qx ?_
     walk_at "rd"
     exact hN _ _ ⟨y,rfl,vS (Em y hy),(F2.trans (Fl.pick BA)).trans (Fl.pick J9)⟩
    ·walk_at "rd"
     exact hN _ _ ⟨z,rfl,hz,F2.trans (Fl.pick BA)⟩
   ·rintro δ' M2 ⟨z,rfl,hz,F2⟩
    with_reducible refine ib (λ δ' M3=>∃z:Str,δ'=[some (.ref a),some (.str (Str.ofString "abcdefghijklmnopqrstuvwxyz")),some (.ref q),some (.str z)]/\Wd z/\Fl a cc M M3) (λ N hN=>?_) ?_
    ·walk_at "rd"
     refine⟨by decide,?_⟩
     refine pL (ff z cQ) ?_
     refine eI (λ jH=>?_) (λ jH=>?_)
     ·have jH:z∈cQ:=by simpa using jH
      obtain⟨t1,t2,t3⟩:=CF z jH
      walk_at "rd"
      refine kj (small (by omega)) ?_
      walk_at "rd"
      have hl:=(vS t1).len
      refine rg (small (by rw[len_app]at hl;omega)) ?_
      walk_at "rd"
      exact hN _ _ ⟨_,rfl,⟨vS t1,t2⟩,F2⟩
     ·have jH:z∉cQ:=by simpa using jH
      walk_at "rd"
      exact hN _ _ ⟨z,rfl,⟨hz,jH⟩,F2⟩
    ·rintro δ' M3 ⟨z,rfl,hz,F3⟩
     walk_at "rd"
     refine⟨a,cc,9,rfl,F3.cq,by decide,by decide,λ d5 o5 h8 h9 Cn=>?_⟩
     obtain⟨c,hc⟩:=mO (xs:=(Str.ofString "123456789").cps.toList) h8 (by
      have e:(Str.ofString "123456789").cps.toList.length=9:=by decide+kernel
      rw[e];exact h9)
     refine pJ (by decide+kernel) hc ?_
     walk_at "rd"
     refine⟨small (by show 3<=10000;decide),λ q2 EV=>?_⟩
     have F5:=F3.trans (Fl.pick Cn)
     have QM:q2≠a:=λ z=>by
      subst z
      obtain⟨o,e⟩:=Cn.there
      rw[EV]at e
      cases e
     walk_at "rd"
     refine⟨a,cc,3,rfl,Cn.put EV,by decide,by decide,λ d6 o6 US UR Rn=>?_⟩
     obtain⟨y,hy,Qx⟩:=mM (zs:=[Str.ofString "",Str.ofString "",⟨#[c]⟩]) US (by show d6 < 3;exact UR)
     have hl:=hz.len
     have em:z++Str.ofString ""=z:=by
      rw[show Str.ofString ""=⟨#[]⟩ by decide+kernel]
      show Str.mk (z.cps++#[])=z
      simp
     have Sa:Nm (z++y)/\y.length<=1:=by
      have e:(Str.ofString "").length=0:=by decide+kernel
      simp only[y1,not_mem_nil,or_false]at hy
      rcases hy with rfl|rfl|rfl
      ·exact⟨by rw[em];exact .inl hz,by omega⟩
      ·exact⟨by rw[em];exact .inl hz,by omega⟩
      ·exact⟨.inr ⟨z,c,hz,(BI hc).1,(BI hc).2,rfl⟩,by show 1<=1;decide⟩
     have Wg:=Sa.2
     refine eQ (by rw[aM QM];exact ay) Qx ?_
     refine rg (small (by omega)) ?_
     exact ao (k _ _ Sa.1 ((F5.trans (Fl.put Cn EV)).trans (Fl.pick Rn)))
end
section
variable {P:Program}{w:World}{K:PySem.W.Frag}{mg:Str->Option Value}{base:Heap}
theorem t_:aI ["_law_counts_here"] ["_law_counts_here"] (aj (top 25)):=⟨rfl,rfl,rfl,by decide+kernel,rfl,by decide+kernel,by decide+kernel⟩
theorem Je{f:Addr}{fd:FuncData}(F:eN K "_law_key" "_law_key" (top 25) f fd)(T:iq K mg):bh P w K mg base eO 1 f fd ["_law_counts_here"] (cA K vv):=by
 refine jW F t_ (λ ds M Q h=>?_) (λ bW A outer s H E ds M Q hr h=>?_)
 ·obtain⟨a,rfl,_⟩:=h
  rfl
 ·obtain⟨as,rfl,hz,k⟩:=h
  refine⟨_,(ai (aG (cP (aa (aE (Gy rfl) (by rfl) T.sum (by decide+kernel) (aa (ax 0) ae)) (aa (tR kR jd (by rfl) T.tuple (by decide+kernel) (tgs:=["_law_n"]) (fr:=[]) ⟨cv (by kernel_rfl),rfl,(λ _ _ h=>h),(du (ax 0)),(bj (λ _ _ _ _ _=>(bG (i:=0) (show(["_law_n"]:List Str).Nodup by decide+kernel) rfl (Or.inl rfl))) (by decide)),(λ _ _ _ _ _=>bP),(λ _ _ _ _ _=>(bu Mh ak (ax 0)))⟩) ae))))),?_⟩
  walk_at "rd"
  refine vC ?_
  walk_at "rd"
  refine fK (λ i acc M'=>M'=M/\acc=((as.map λ a=>0 - a).take i).map D.int) ⟨rfl,by simp⟩ (λ i acc M' hi h=>?_) (λ i d acc M' hd h=>?_) (λ acc M' h=>?_)
  ·obtain⟨_,rfl⟩:=h
   rw[w5,r6]
   rw[w5]at hi
   exact small (by omega)
  ·obtain⟨rfl,rfl⟩:=h
   rw[n0]at hd
   cases e:as[i]? with
   |none=>rw[e]at hd;cases hd
   |some a=>
    rw[e]at hd
    cases hd
    walk_at "rd"
    refine⟨rfl,?_⟩
    rw[take_snoc (a:=0 - a) (by simp[e]),w9]
    rfl
  ·obtain⟨rfl,rfl⟩:=h
   walk_at "rd"
   refine⟨by show 2<=sizeLine;decide,ao ?_⟩
   have e:(as.map λ a=>0 - a).take (as.map D.int).length=as.map λ a=>0 - a:=by rw[w5];exact i9 (by simp)
   rw[e]
   exact k
end
def Up(os:List Row):Prop:=os.Pairwise λ a b=>klt (eS a) (eS b)=true
set_option tactic.hygienic true in
theorem uD(rs:List Row):(once rs).Nodup:=by
 have:∀(rs acc:List Row),acc.Nodup->(rs.foldl gr acc).Nodup:=by
  intro rs
  induction rs with
  |nil=>intro acc h;exact h
  |cons r rs ih=>
   intro acc h
   refine ih _ ?_
   unfold gr
   split
   ·exact h
   ·rename_i z
    exact nodup_append.mpr ⟨h,by simp,λ a ha b hb e=>z ((e.trans (m8.mp hb))▸ha)⟩
 exact this rs [] .nil
theorem EE{a b:Row}(hl:a.length=b.length)(h1:klt (eS a) (eS b)=false)(h2:klt (eS b) (eS a)=false):a=b:=by
 unfold klt eS at h1 h2
 dsimp only at h1 h2
 by_cases e:a.sum=b.sum
 ·rw[A3 e]at h1
  rw[A3 e.symm]at h2
  have z:=og _ _ (by simp[hl]) h1 h2
  exact(List.map_inj_right (λ x y h=>by omega)).mp z
 ·rw[A4 e]at h1
  rw[A4 (A2 e)]at h2
  have h1:=of_decide_eq_false h1
  have h2:=of_decide_eq_false h2
  omega
theorem K2{n:Nat}{os:List Row}(h1:os.Nodup)(h2:os.Pairwise Ol)(hl:∀r∈os,r.length=n):Up os:=by
 refine(h1.and h2).imp_of_mem λ{a b} ha hb ⟨ne,bf⟩=>?_
 cases e:klt (eS a) (eS b)with
 |true=>rfl
 |false=>exact absurd (EE ((hl a ha).trans (hl b hb).symm) e bf) ne
def qR:gV:=λ ds M Q=>∃(x:D) (rs:List (List Int)),ds=[x]/\(x=.tup (rs.map row)\/∃l,x=.ref l/\M l=some (.lst (rs.map row)))/\rs.length < 64/\(∀r∈rs,r.length<=1000)/\∀out:List (List Int),(∀r∈out,r∈rs)->out.length<=rs.length->out.Nodup->out.Pairwise Ol->Q (.tup (out.map row)) M
section
variable {P:Program}{w:World}{K:PySem.W.Frag}{mg:Str->Option Value}{base:Heap}
theorem jS:aI ["_law_sums"] ["_law_sums"] (aj (top 27)):=⟨rfl,rfl,rfl,by decide+kernel,rfl,by decide+kernel,by decide+kernel⟩
theorem Ar{f:Addr}{fd:FuncData}(F:eN K "_law_in_order" "_law_in_order" (top 27) f fd)(T:iq K mg)(gN:cw P w K mg base 1 "_law_key" ["_law_counts_here"] vv):bh P w K mg base eO 4 f fd ["_law_sums"] (cA K qR):=by
 refine jW F jS (λ ds M Q h=>?_) (λ bW A outer s H E ds M Q hr h=>?_)
 ·obtain⟨a,rs,rfl,_⟩:=h
  rfl
 ·obtain⟨x,rs,rfl,hx,Co,hz,k⟩:=h
  refine⟨_,(ai (aG (pq kR (by rfl) T.tuple (by decide+kernel) (aa (tS gN (hr.mono (by decide)) (by rfl) T.sorted (by rfl) T.dict (by rfl) (pj (tgs:=["_law_counts_here"]) (fr:=[]) ⟨cv (by kernel_rfl),rfl,(λ _ _ h=>h),(du (ax 0)),(bj (λ _ _ _ _ _=>(bG (i:=0) (show(["_law_counts_here"]:List Str).Nodup by decide+kernel) rfl (Or.inl rfl))) (by decide)),(λ _ _ _ _ _=>bP),(λ _ _ _ _ _=>(cP (aa (ax 0) (aa jR ae))))⟩)) ae)))),?_⟩
  have go:∀(N:br),(∀(p:Addr) (out:List (List Int)) (M':Mem),(∀b o,M b=some o->M' b=some o)->M' p=some (.lst (out.map row))->(∀r∈out,r∈rs)->out.length<=rs.length->out.Nodup->out.Pairwise Ol->N (.ref p) M')->∀p,M p=none->qo vv (.ref p) (aK M p (.lst (rs.map pairD))) N:=by
   intro N hN p hp
   have h0:=rG (λ b o e=>e) hp (.lst (rs.map pairD))
   refine⟨p,rs,true,λ i' M'=>M'=aK M p (.lst (rs.map pairD))/\i'.length<=(once rs).length/\∀i k,i'[i]?=some k->FH true M' k (eS ((once rs).getD i [])),λ i=>eS ((once rs).getD i []),rfl,ay,Co,⟨rfl,z4 _,λ i k e=>by simp at e⟩,?_,?_⟩
   ·rintro i' M' e ⟨rfl,h2,h3⟩ he
    rw[n0]at he
    cases er:(once rs)[i'.length]? with
    |none=>rw[er]at he;cases he
    |some r=>
     rw[er]at he
     cases he
     have mU:i'.length < (once rs).length:=(g9.mp er).1
     refine⟨r,rfl,hz r (rH (k4 er)),rfl,?_,λ i k e=>?_⟩
     ·rw[l8,j5];omega
     ·by_cases hi:i < i'.length
      ·rw[c8 hi]at e
       exact h3 i k e
      ·rw[c6 (by omega)]at e
       have Rb:i - i'.length=0:=by
        have:=(g9.mp e).1
        simp at this
        omega
       rw[Rb]at e
       have e:D.tup [.int r.sum,row (r.map λ a=>0 - a)]=k:=by simpa using e
       have Uo:i=i'.length:=by omega
       subst Uo
       show k=.tup [.int (eS ((once rs).getD i'.length [])).1,.tup ((eS ((once rs).getD i'.length [])).2.map D.int)]
       rw[<- e,c7,er]
       rfl
   ·rintro i' M' ⟨rfl,h2,h3⟩ hl
    refine⟨h3,λ p2 outD oB ho=>?_⟩
    obtain⟨out,rfl,o1,o2⟩:=Ap (rs:=once rs) ho
    exact hN p2 out _ (rG h0 oB _) ay (λ r hr=>rH (o1.mem_iff.mp hr)) (by rw[o1.length_eq];exact AI rs) (o1.nodup_iff.mpr (uD rs)) o2
  have fin:∀(p:Addr) (out:List (List Int)) (M':Mem),(∀b o,M b=some o->M' b=some o)->M' p=some (.lst (out.map row))->(∀r∈out,r∈rs)->out.length<=rs.length->out.Nodup->out.Pairwise Ol->qm [.ref p] M' (fin2 Q):=λ p out M' h1 h2 h3 h4 h5 h6=>xo h2 (back h1 (k out h3 h4 h5 h6))
  rcases hx with rfl|⟨l,rfl,hl⟩
  ·walk_at "rd"
   refine fK (λ i acc M'=>M'=M/\acc=(rs.take i).map pairD) ⟨rfl,by simp⟩ (λ i acc M' hi h=>?_) (λ i d acc M' hd h=>?_) (λ acc M' h=>?_)
   ·obtain⟨_,rfl⟩:=h
    rw[w5,r6]
    exact small (by omega)
   ·obtain⟨rfl,rfl⟩:=h
    rw[n0]at hd
    cases e:rs[i]? with
    |none=>rw[e]at hd;cases hd
    |some r=>
     rw[e]at hd
     cases hd
     walk_at "rd"
     refine⟨by show 2<=sizeLine;decide,rfl,?_⟩
     rw[take_snoc e,w9]
     rfl
   ·obtain⟨rfl,rfl⟩:=h
    rw[w5,take_length]
    intro p hp
    exact go _ fin p hp
  ·walk_at "rd"
   refine NW (ds:=rs.map row) (λ i acc M'=>M'=M/\acc=(rs.take i).map pairD) ⟨rfl,by simp⟩ (λ i acc M' hi h=>?_) (λ i acc M' hi h=>?_) (λ i d acc M' hd h=>?_) (λ acc M' h=>?_)
   ·obtain⟨rfl,_⟩:=h
    exact hl
   ·obtain⟨_,rfl⟩:=h
    rw[w5,r6]
    exact small (by omega)
   ·obtain⟨rfl,rfl⟩:=h
    rw[n0]at hd
    cases e:rs[i]? with
    |none=>rw[e]at hd;cases hd
    |some r=>
     rw[e]at hd
     cases hd
     walk_at "rd"
     refine⟨by show 2<=sizeLine;decide,rfl,?_⟩
     rw[take_snoc e,w9]
     rfl
   ·obtain⟨rfl,rfl⟩:=h
    rw[w5,take_length]
    intro p hp
    exact go _ fin p hp
end
section
variable {P:Program}{w:World}{K:PySem.W.Frag}{mg:Str->Option Value}{base:Heap}
theorem mZ:aI ["_law_heaps","_law_many"] ["_law_heaps","_law_many"] (aj (top 26)):=⟨rfl,rfl,rfl,by decide+kernel,rfl,by decide+kernel,by decide+kernel⟩
theorem xG{f:Addr}{fd:FuncData}(F:eN K "_law_counts" "_law_counts" (top 26) f fd)(T:iq K mg):bh P w K mg base eO 1 f fd ["_law_heaps","_law_many"] (cA K lB):=by
 refine jW F mZ (λ ds M Q h=>?_) (λ bW A outer s H E ds M Q hr h=>?_)
 ·obtain⟨a,b,c,rfl,_⟩:=h
  rfl
 ·obtain⟨a,ns,n,rfl,hM,hz,k⟩:=h
  refine⟨_,(ai (aG (tR kR jd (by rfl) T.tuple (by decide+kernel) (tgs:=["_law_h"]) (fr:=[0]) ⟨cv (by kernel_rfl),rfl,(λ _ _ h=>h),(bR rfl T.range (aa (ax 1) ae)),(bj (λ _ _ _ _ _=>(bG (i:=0) (show(["_law_h","_law_heaps"]:List Str).Nodup by decide+kernel) rfl (Or.inl rfl))) (by decide)),(λ _ _ _ _ _=>bP),(λ _ _ _ _ _=>(GJ i5 PySem.F.slot_list_count PySem.F.type_list_count (Er hr.units) (ax 1) (aa (ax 0) ae)))⟩))),?_⟩
  walk_at "rd"
  refine⟨cS (by omega) (by omega),?_⟩
  rw[n5]
  refine kN (xs:=List.range n) (enc:=Ln) (λ h=>D.int ((ns.count (h:Int):Nat):Int)) (by simp;omega) (λ i x N hx hN=>?_) ?_
  ·walk_at "rd"
   refine⟨⟨rfl,_,hM⟩,?_⟩
   walk_at "rd"
   refine xq hM ?_
   rw[Int.zero_add]
   exact hN
  ·refine ao ?_
   unfold row jZ at k
   rw[y7]at k
   exact k
end
theorem wH:∀j∈List.range 26,Mw (j_ j)=true/\j_ j∉cQ:=by decide+kernel
theorem Fu{j:Nat}(h:j < 26):Nm (j_ j):=.inl ⟨vS (wH j (mem_range.mpr h)).1,(wH j (mem_range.mpr h)).2⟩
def qP:gV:=λ ds M Q=>∃(f c:Addr) (n:Nat),ds=[.ref f,.int n]/\Flow M f c/\n<=12/\∀(p:Addr) (zs:List Str) (M':Mem),zs.length=n->M p=none->M' p=some (.lst (zs.map D.str))->Fl f c M M'->(∀z∈zs,Nm z)->zs.Nodup->Q (.ref p) M'
section
variable {P:Program}{w:World}{K:PySem.W.Frag}{mg:Str->Option Value}{base:Heap}
theorem bY:aI ["_law_flow_here","_law_many","_law_names_here","_law_k","_law_name_here","_law_spare"] ["_law_flow_here","_law_many"] (aj (top 24)):=⟨rfl,rfl,rfl,by decide+kernel,rfl,by decide+kernel,by decide+kernel⟩
theorem Aq{f:Addr}{fd:FuncData}(F:eN K "_law_names" "_law_names" (top 24) f fd)(T:iq K mg)(uT:cw P w K mg base 2 "_law_name" ["_law_flow_here"] Li):bh P w K mg base eO 3 f fd ["_law_flow_here","_law_many"] (cA K qP):=by
 refine jW F bY (λ ds M Q h=>?_) (λ bW A outer s H E ds M Q hr h=>?_)
 ·obtain⟨a,cc,b,rfl,_⟩:=h
  rfl
 ·obtain⟨a,cc,n,rfl,hF,hz,k⟩:=h
  refine⟨_,(af (aP (i:=2) bY.nd rfl (Or.inl rfl) (gX ae))
 (af (f' u9 rfl (bR rfl T.range (aa (ax 1) ae)) (cz (i:=3) bY.nd rfl (Or.inl rfl))
 (af (aP (i:=4) bY.nd rfl (Or.inl rfl) (aQ uT (hr.mono (by decide)) (by rfl) (aa (ax 0) ae)))
 (af (aP (i:=5) bY.nd rfl (Or.inl rfl) ak)
 (af (yS u9 (aV (iJ hr.units) (ax 4) (ax 2) rfl)
 (af (aP (i:=4) bY.nd rfl (Or.inl rfl) (bu jh (cf bN bx (bu jC (ax 5) ak) (λ _ _=>rfl)) (bu aX ak (bu pU (ax 5) ak))))
 (ai (aP (i:=5) bY.nd rfl (Or.inl rfl) (bu aX (ax 5) ak)))))
 (ai (kf (GJ i5 PySem.F.slot_list_append PySem.F.type_list_append rL (ax 2) (aa (ax 4) ae))))))))
 (ai (aG (ax 2))))),?_⟩
  walk_at "rd"
  refine⟨by decide,λ p hp=>?_⟩
  have Bl:=(hF.ne hp).1
  walk_at "rd"
  refine⟨cS (by omega) (by omega),?_⟩
  rw[n5]
  refine gw (λ i δ M'=>∃(v1 v2 v3:Option D) (zs:List Str),δ=[some (.ref a),some (.int n),some (.ref p),v1,v2,v3]/\zs.length=i/\M' p=some (.lst (zs.map D.str))/\Fl a cc M M'/\(∀z∈zs,Nm z)/\zs.Nodup) ⟨none,none,none,[],rfl,rfl,ay,Fl.put hF hp,λ z h=>(by cases h),.nil⟩ (λ i d δ M' hd h=>?_) (λ δ M' h=>?_)
  ·obtain⟨v1,v2,v3,zs,rfl,h2,h3,F1,JR,JT⟩:=h
   obtain⟨hi,rfl⟩:=dP hd
   walk_at "rd"
   refine⟨a,cc,rfl,F1.cq,λ z M1 TH F2=>?_⟩
   have F3:=F1.trans F2
   have h3:=F2.mv p _ Bl h3
   walk_at "rd"
   refine zt ⟨λ m δ M'=>M'=M1/\∃(z:Str) (sp:Nat),δ=[some (.ref a),some (.int n),some (.ref p),some (.int (0+(i:Nat))),some (.str z),some (.int sp)]/\m=zs.length+2 - sp/\sp<=zs.length+1/\Nm z/\(0 < sp->z=j_ (sp - 1))/\∀j,j+1 < sp->j_ j∈zs,⟨_,rfl,z,0,rfl,rfl,z4 _,TH,λ q=>absurd q (by omega),λ j q=>absurd q (by omega)⟩,?_⟩
   rintro m δ M' ⟨rfl,z,sp,rfl,rfl,Bi,TF,TJ,Qt⟩
   walk_at "rd"
   refine pM h3 (ff z zs) ?_
   refine eI (λ jH=>?_) (λ jH=>?_)
   ·have jH:z∈zs:=by simpa using jH
    have all:∀j,j < sp->j_ j∈zs:=λ j hj=>by
     by_cases e:j+1 < sp
     ·exact Qt j e
     ·have:j=sp - 1:=by omega
      rw[this,<- TJ (by omega)]
      exact jH
    have QH:sp<=zs.length:=B0 (by omega) all
    refine⟨λ δ' M2=>M2=M'/\δ'=[some (.ref a),some (.int n),some (.ref p),some (.int (0+(i:Nat))),some (.str (j_ sp)),some (.int ((sp+1:Nat):Int))],?_,?_⟩
    ·rintro δ' M2 ⟨rfl,rfl⟩
     exact⟨zs.length+2 - (sp+1),by omega,rfl,j_ sp,sp+1,rfl,rfl,by omega,Fu (by omega),λ _=>rfl,λ j hj=>all j (by omega)⟩
    ·walk_at "rd"
     have em:(sp:Int) % 26=(sp:Int):=Int.emod_eq_of_lt (by omega) (by omega)
     have ed:(sp:Int) / 26=0:=Int.ediv_eq_zero_of_lt (by omega) (by omega)
     have bl:tw.length=26:=by decide+kernel
     have hc:eV (Str.ofString "zyxwvutsrqponmlkjihgfedcba").cps.toList ((sp:Int) % 26)=some (tw.getD sp 0):=by
      rw[em]
      refine cI ?_
      show tw[sp]?=_
      rw[c7]
      have:sp < tw.length:=by omega
      simp[this]
     refine pJ (by decide+kernel) hc ?_
     walk_at "rd"
     rw[ed]
     refine zv (uE _) ?_
     walk_at "rd"
     exact⟨rfl,rfl⟩
   ·walk_at "rd"
    refine⟨⟨rfl,_,h3⟩,?_⟩
    walk_at "rd"
    refine zI h3 (by rw[w5];exact m6 (show zs.length<=12 by omega) (by decide)) ?_
    walk_at "rd"
    exact⟨_,_,_,zs++[z],rfl,by simp[h2],by rw[ay,w9];rfl,F3.own hF hp,(λ y hy=>by
     rcases w6.mp hy with q|q
     ·exact JR y q
     ·rw[m8.mp q];exact TF),nodup_append.mpr ⟨JT,by simp,λ x hx y hy e=>(by simpa using jH:z∉zs) ((e.trans (m8.mp hy))▸hx)⟩⟩
  ·obtain⟨v1,v2,v3,zs,rfl,h2,h3,F1,JR,JT⟩:=h
   rw[bL]at h2
   walk_at "rd"
   exact ao (k p zs _ h2 hp h3 F1 JR JT)
end
section
variable {P:Program}{w:World}{K:PySem.W.Frag}{mg:Str->Option Value}{base:Heap}
theorem pF:aI ["_law_found","_law_due_here"] ["_law_found","_law_due_here"] (aj (top 22)):=⟨rfl,rfl,rfl,by decide+kernel,rfl,by decide+kernel,by decide+kernel⟩
theorem Jg{f:Addr}{fd:FuncData}(F:eN K "_law_alike" "_law_alike" (top 22) f fd)(T:iq K mg)(Q7:mg "_law_alike"=some (.ref f))(Ng:Binds K fd ["_law_found","_law_due_here"] []):∀k,bh P w K mg base eO (k+1) f fd ["_law_found","_law_due_here"] (cA K (ze k)):=by
 intro k
 induction k with
 |zero=>exact Fb CK
 |succ k ih=>
 have eK:=bI.of F ih Q7 Ng
 rw[show k+1+1=k+1+1 by omega]
 clear ih
 refine jW F pF (λ ds M Q h=>?_) (λ bW A outer s H E ds M Q hr h=>?_)
 ·obtain⟨x,y,rfl,_⟩:=h
  rfl
 ·obtain⟨x,y,rfl,hs,k⟩:=h
  refine⟨_,(af (bw (aV F8 (ax 1) lb (aR _))
 (ai (aG (eX F8 (ax 0) lb (aR _))))
 aL)
 (af (bw (jy (cO (aE (cV T.jo) (by rfl) T.isinstance (by decide+kernel) (aa (ax 1) (aa (fB (n:="bool") (by rfl) T.bool (by decide+kernel)) ae)))) (hV (cO (aE (cV T.jo) (by rfl) T.isinstance (by decide+kernel) (aa (ax 0) (aa (fB (n:="bool") (by rfl) T.bool (by decide+kernel)) ae)))))).pt
 (ai (aG (w_and (aE (cV T.jo) (by rfl) T.isinstance (by decide+kernel) (aa (ax 1) (aa (fB (n:="bool") (by rfl) T.bool (by decide+kernel)) ae))) (w_and (aE (cV T.jo) (by rfl) T.isinstance (by decide+kernel) (aa (ax 0) (aa (fB (n:="bool") (by rfl) T.bool (by decide+kernel)) ae))) (gb (eX (gZ hr.units) (ax 0) (ax 1) (aR _)))))))
 aL)
 (af (bw (cO (aE (cV T.wb) (by rfl) T.isinstance (by decide+kernel) (aa (ax 1) (aa (fB (n:="int") (by rfl) T.int (by decide+kernel)) ae))))
 (ai (aG (w_and (aE (cV T.wb) (by rfl) T.isinstance (by decide+kernel) (aa (ax 0) (aa (fB (n:="int") (by rfl) T.int (by decide+kernel)) ae))) (gb (eX (gZ hr.units) (ax 0) (ax 1) (aR _))))))
 aL)
 (af (bw (cO (aE (cV T.Gd) (by rfl) T.isinstance (by decide+kernel) (aa (ax 1) (aa (fB (n:="str") (by rfl) T.str (by decide+kernel)) ae))))
 (ai (aG (w_and (aE (cV T.Gd) (by rfl) T.isinstance (by decide+kernel) (aa (ax 0) (aa (fB (n:="str") (by rfl) T.str (by decide+kernel)) ae))) (gb (eX (gZ hr.units) (ax 0) (ax 1) (aR _))))))
 aL)
 (af (bw (jy (aV (lW hr.units) (aE (cV T.iM) (by rfl) T.isinstance (by decide+kernel) (aa (ax 1) (aa (fB (n:="tuple") (by rfl) T.tuple (by decide+kernel)) ae))) (aE (cV T.iM) (by rfl) T.isinstance (by decide+kernel) (aa (ax 0) (aa (fB (n:="tuple") (by rfl) T.tuple (by decide+kernel)) ae))) (aR _)) (hV (aV (lW hr.units) (aE (cV T.Bg) (by rfl) T.isinstance (by decide+kernel) (aa (ax 1) (aa (fB (n:="list") (by rfl) T.list (by decide+kernel)) ae))) (aE (cV T.Bg) (by rfl) T.isinstance (by decide+kernel) (aa (ax 0) (aa (fB (n:="list") (by rfl) T.list (by decide+kernel)) ae))) (aR _)))).pt
 (ai (aG jR))
 aL)
 (ai (aG (w_and (eX (gZ hr.units) (aE c_ (by rfl) T.len (by decide+kernel) (aa (ax 0) ae)) (aE c_ (by rfl) T.len (by decide+kernel) (aa (ax 1) ae)) (aR _)) (gb (hX (oP rfl) gE (by rfl) T.all (by decide+kernel) (tgs:=["_law_k"]) (fr:=[0,1]) ⟨cv (by kernel_rfl),rfl,(λ _ _ h=>h),(bR rfl T.range (aa (aE c_ (by rfl) T.len (by decide+kernel) (aa (ax 1) ae)) ae)),(bj (λ _ _ _ _ _=>(bG (i:=0) (show(["_law_k","_law_found","_law_due_here"]:List Str).Nodup by decide+kernel) rfl (Or.inl rfl))) (by decide)),(λ _ _ _ _ _=>bP),(λ _ _ _ _ _=>(aQ eK (hr.mono (by omega)) (by rfl) (aa (cf bN (ax 1) (ax 0) (λ _ _=>rfl)) (aa (cf bN (ax 2) (ax 0) (λ _ _=>rfl)) ae))))⟩)))))))))),?_⟩
  rcases hs with⟨rfl,hx⟩|⟨ds,es,rfl,rfl,hl,hz,hs⟩|⟨p,q,ds,es,rfl,rfl,hp,hq,hl,hz,hs⟩
  ·cases x with
   |aZ=>
    walk_at "rx"
    refine rf ?_
    walk_at "rx"
    refine rf ?_
    walk_at "rx"
    exact ao k
   |bl b=>
    walk_at "rx"
    refine iF (by simp[jc]) ?_
    walk_at "rx"
    refine aO (n:="bool") rfl (b:=true) (by decide) ?_
    walk_at "rx"
    refine aO (n:="bool") rfl (b:=true) (by decide) ?_
    walk_at "rx"
    refine aO (n:="bool") rfl (b:=true) (by decide) ?_
    walk_at "rx"
    rw[x3 (rfl:b=b)]
    exact ao k
   |int i=>
    walk_at "rx"
    refine iF (by simp[jc]) ?_
    walk_at "rx"
    refine aO (n:="int") rfl (b:=false) (by decide) ?_
    walk_at "rx"
    refine aO (n:="int") rfl (b:=false) (by decide) ?_
    walk_at "rx"
    refine aO (n:="int") rfl (b:=true) (by decide) ?_
    walk_at "rx"
    refine aO (n:="int") rfl (b:=true) (by decide) ?_
    walk_at "rx"
    rw[x3 (rfl:i=i)]
    exact ao k
   |str z=>
    walk_at "rx"
    refine iF (by simp[jc]) ?_
    walk_at "rx"
    refine aO (n:="str") rfl (b:=false) (by decide) ?_
    walk_at "rx"
    refine aO (n:="str") rfl (b:=false) (by decide) ?_
    walk_at "rx"
    refine aO (n:="str") rfl (b:=false) (by decide) ?_
    walk_at "rx"
    refine aO (n:="str") rfl (b:=true) (by decide) ?_
    walk_at "rx"
    refine aO (n:="str") rfl (b:=true) (by decide) ?_
    walk_at "rx"
    rw[x3 (rfl:z=z)]
    exact ao k
   |_=>cases hx
  ·walk_at "rx"
   refine iF (by simp[jc]) ?_
   walk_at "rx"
   refine aO (n:="tuple") rfl (b:=false) (by decide) ?_
   walk_at "rx"
   refine aO (n:="tuple") rfl (b:=false) (by decide) ?_
   walk_at "rx"
   refine aO (n:="tuple") rfl (b:=false) (by decide) ?_
   walk_at "rx"
   refine aO (n:="tuple") rfl (b:=false) (by decide) ?_
   walk_at "rx"
   refine aO (n:="tuple") rfl (b:=true) (by decide) ?_
   walk_at "rx"
   refine aO (n:="tuple") rfl (b:=true) (by decide) ?_
   walk_at "rx"
   refine dG (λ h=>absurd rfl h) (λ _=>?_)
   walk_at "rx"
   refine aO (n:="tuple") rfl (b:=false) (by decide) ?_
   walk_at "rx"
   refine aO (n:="tuple") rfl (b:=false) (by decide) ?_
   walk_at "rx"
   refine dG (λ h=>absurd rfl h) (λ _=>?_)
   walk_at "rx"
   rw[hl]
   refine bz (λ _=>?_) (λ hl=>absurd rfl hl)
   walk_at "rx"
   refine⟨cS (by omega) (by omega),?_⟩
   rw[n5]
   refine fK (λ i acc M'=>M'=M/\acc=(List.replicate i true).map D.bl) ⟨rfl,rfl⟩ (λ i acc M' hi h=>?_) (λ i d acc M' hd h=>?_) (λ acc M' h=>?_)
   ·obtain⟨_,rfl⟩:=h
    rw[bL]at hi
    simp only[w5,j7]
    exact small (by omega)
   ·obtain⟨rfl,rfl⟩:=h
    obtain⟨hi,rfl⟩:=dP hd
    walk_at "rx"
    refine gm (kU (by omega)) ?_
    walk_at "rx"
    refine gm (kU hi) ?_
    refine⟨_,_,rfl,hs i _ _ (i4 (by omega)) (i4 hi),rfl,?_⟩
    rw[replicate_succ',w9]
    rfl
   ·obtain⟨rfl,rfl⟩:=h
    unfold jM
    rw[eD]
    show fin2 Q (.bl ((List.replicate _ true).all id)) _
    rw[qB]
    exact ao k
  ·have tp:jc M (.ref p)=some "list":=by show(aY M p).map (λ _=>"list")=_;unfold aY;rw[hp];rfl
   have tq:jc M (.ref q)=some "list":=by show(aY M q).map (λ _=>"list")=_;unfold aY;rw[hq];rfl
   walk_at "rx"
   refine iF (by rw[tq];simp) ?_
   walk_at "rx"
   refine aO tq (b:=false) (by decide) ?_
   walk_at "rx"
   refine aO tp (b:=false) (by decide) ?_
   walk_at "rx"
   refine aO tq (b:=false) (by decide) ?_
   walk_at "rx"
   refine aO tq (b:=false) (by decide) ?_
   walk_at "rx"
   refine aO tq (b:=false) (by decide) ?_
   walk_at "rx"
   refine aO tp (b:=false) (by decide) ?_
   walk_at "rx"
   refine dG (λ h=>absurd rfl h) (λ _=>?_)
   walk_at "rx"
   refine aO tq (b:=true) (by decide) ?_
   walk_at "rx"
   refine aO tp (b:=true) (by decide) ?_
   walk_at "rx"
   refine dG (λ h=>absurd rfl h) (λ _=>?_)
   walk_at "rx"
   rw[hl]
   refine bz (λ _=>?_) (λ hl=>absurd rfl hl)
   walk_at "rx"
   refine⟨cS (by omega) (by omega),?_⟩
   rw[n5]
   refine fK (λ i acc M'=>M'=M/\acc=(List.replicate i true).map D.bl) ⟨rfl,rfl⟩ (λ i acc M' hi h=>?_) (λ i d acc M' hd h=>?_) (λ acc M' h=>?_)
   ·obtain⟨_,rfl⟩:=h
    rw[bL]at hi
    simp only[w5,j7]
    exact small (by omega)
   ·obtain⟨rfl,rfl⟩:=h
    obtain⟨hi,rfl⟩:=dP hd
    walk_at "rx"
    refine eQ hp (kU (by omega)) ?_
    walk_at "rx"
    refine eQ hq (kU hi) ?_
    refine⟨_,_,rfl,hs i _ _ (i4 (by omega)) (i4 hi),rfl,?_⟩
    rw[replicate_succ',w9]
    rfl
   ·obtain⟨rfl,rfl⟩:=h
    unfold jM
    rw[eD]
    show fin2 Q (.bl ((List.replicate _ true).all id)) _
    rw[qB]
    exact ao k
end
def vz:gV:=λ ds M Q=>∃(f c:Addr) (i n:Nat),ds=[.ref f,.int i,.int n]/\Flow M f c/\i<=n/\n<=12/\∀(os:List (List Int)) (M':Mem),os.length<=12->(∀r∈os,yz n i r)->Up os->Fl f c M M'->Q (.tup (os.map row)) M'
section
variable {P:Program}{w:World}{K:PySem.W.Frag}{mg:Str->Option Value}{base:Heap}
theorem cE:aI ["_law_flow_here","_law_ahead","_law_many","_law_told","_law_k","_law_heaps"] ["_law_flow_here","_law_ahead","_law_many"] (aj (top 30)):=⟨rfl,rfl,rfl,by decide+kernel,rfl,by decide+kernel,by decide+kernel⟩
theorem jU{f:Addr}{fd:FuncData}(F:eN K "_law_any_sums" "_law_any_sums" (top 30) f fd)(T:iq K mg)(aD:cw P w K mg base 1 "_law_pick" ["_law_flow_here","_law_many"] h_)(fJ:cw P w K mg base 1 "_law_counts" ["_law_heaps","_law_many"] lB)(mF:cw P w K mg base 4 "_law_in_order" ["_law_sums"] qR):bh P w K mg base eO 5 f fd ["_law_flow_here","_law_ahead","_law_many"] (cA K vz):=by
 refine jW F cE (λ ds M Q h=>?_) (λ bW A outer s H E ds M Q hr h=>?_)
 ·obtain⟨a,cc,b,c,rfl,_⟩:=h
  rfl
 ·obtain⟨a,cc,i,n,rfl,hF,jH,hn,k⟩:=h
  refine⟨_,(af (aP (i:=3) cE.nd rfl (Or.inl rfl) (gX ae))
 (af (f' u9 rfl (bR rfl T.range (aa (cf bN (gX (aa ak (aa ak (aa ak (aa ak (aa ak ae)))))) (aQ aD (hr.mono (by decide)) (by rfl) (aa (ax 0) (aa ak ae))) (λ _ _=>rfl)) ae)) (cz (i:=4) cE.nd rfl (Or.inl rfl))
 (af (la (i:=5) cE.nd rfl (Or.inl rfl) (tgs:=["_law_j"]) (fr:=[0,1]) ⟨cv (by kernel_rfl),rfl,(λ _ _ h=>h),(bR rfl T.range (aa (bu jh (aE (NY rfl) (by rfl) T.min (by decide+kernel) (aa (ax 1) (aa ak ae))) (aQ aD (hr.mono (by decide)) (by rfl) (aa (ax 0) (aa ak ae)))) ae)),(bj (λ _ _ _ _ _=>(bG (i:=0) (show(["_law_j","_law_flow_here","_law_ahead"]:List Str).Nodup by decide+kernel) rfl (Or.inl rfl))) (by decide)),(λ _ _ _ _ _=>bP),(λ _ _ _ _ _=>(aQ aD (hr.mono (by decide)) (by rfl) (aa (ax 1) (aa (ax 2) ae))))⟩)
 (ai (kf (GJ i5 PySem.F.slot_list_append PySem.F.type_list_append rL (ax 3) (aa (aQ fJ (hr.mono (by decide)) (by rfl) (aa (ax 5) (aa (ax 2) ae))) ae))))))
 (ai (aG (aQ mF (hr.mono (by decide)) (by rfl) (aa (ax 3) ae)))))),?_⟩
  walk_at "rd"
  refine⟨by decide,λ p hp=>?_⟩
  have Bl:=(hF.ne hp).1
  have F0:Fl a cc M _:=Fl.put (o:=.lst []) hF hp
  walk_at "rd"
  refine⟨by decide,λ q hq=>?_⟩
  have F1:Fl a cc M _:=F0.trans (Fl.put (o:=.lst [.int 0,.int 1,.int 2,.int 6,.int 12]) F0.cq hq)
  have MI:=(F0.cq.ne hq).1
  have T4:p≠q:=λ z=>by rw[<- z,ay]at hq;cases hq
  walk_at "rd"
  refine⟨a,cc,5,rfl,F1.cq,by decide,by decide,λ d o h0 h1 BB=>?_⟩
  have F2:=F1.trans (Fl.pick BB)
  obtain⟨c,Uy,hc⟩:=B4 (ns:=[0,1,2,6,12]) h0 (by show d < 5;exact h1)
  have UA:0<=c/\c<=12:=by
   simp only[y1,not_mem_nil,or_false]at Uy
   omega
  refine eQ (by rw[aM MI];exact ay) hc ?_
  walk_at "rd"
  refine⟨cS (by omega) (by omega),?_⟩
  have Nj:aK (aK (aK M p (.lst [])) q (.lst [.int 0,.int 1,.int 2,.int 6,.int 12])) a o p=some (.lst (([]:List (List Int)).map row)):=by
   rw[aM Bl,aM T4]
   exact ay
  generalize aK (aK (aK M p (.lst [])) q (.lst [.int 0,.int 1,.int 2,.int 6,.int 12])) a o=M2 at*
  refine gw (λ j δ M'=>∃(v1 v2:Option D) (rs:List (List Int)),δ=[some (.ref a),some (.int i),some (.int n),some (.ref p),v1,v2]/\rs.length=j/\(∀r∈rs,yz n i r)/\M' p=some (.lst (rs.map row))/\Fl a cc M M') ⟨none,none,[],rfl,rfl,(λ r h=>by cases h),Nj,F2⟩ (λ j d δ M' hd h=>?_) (λ δ M' h=>?_)
  ·obtain⟨v1,v2,rs,rfl,QJ,MF,h3,F3⟩:=h
   obtain⟨hj,rfl⟩:=dP hd
   walk_at "rd"
   refine⟨a,cc,5,rfl,F3.cq,by decide,by decide,λ d o h0 h1 J9=>?_⟩
   have F4:=F3.trans (Fl.pick J9)
   have Q6:(if(1:Int) < (i:Int)then(1:Int)else(i:Int))=if 1<=i then 1 else 0:=by
    split <;> split <;> omega
   rw[Q6]
   refine iG (uX (by split <;> omega) (by split <;> omega)) ?_
   have hle:(if 1<=i then(1:Int)else 0)*d<=4/\0<=(if 1<=i then(1:Int)else 0)*d/\(i=0->(if 1<=i then(1:Int)else 0)*d=0):=by
    split
    ·rw[Int.one_mul];exact⟨by omega,h0,λ z=>by omega⟩
    ·rw[Int.zero_mul];exact⟨by omega,by omega,λ _=>rfl⟩
   generalize(if 1<=i then(1:Int)else 0)*d=c2 at hle ⊢
   obtain⟨c1,c0,cn⟩:=hle
   refine⟨cS (by omega) (by omega),?_⟩
   have h4:aK M' a o p=some (.lst (rs.map row)):=by rw[aM Bl];exact h3
   refine qt (xs:=List.range c2.toNat) (enc:=Ln) D.int (λ ns M'=>Fl a cc M M'/\M' p=some (.lst (rs.map row))/\∀x∈ns,0<=x/\x < (i:Int)) (by simp;omega) ⟨F4,h4,λ x h=>by cases h⟩ (λ jj x ys M' N hx hy h hN=>?_) (λ ns M' hl h=>?_)
   ·obtain⟨F2,h3,h2⟩:=h
    have hi:=(g9.mp hx).1
    rw[o9]at hi
    have hn:i≠0:=λ z=>by have:=cn z;omega
    walk_at "rd"
    refine⟨a,cc,i,rfl,F2.cq,by omega,by omega,λ d2 o2 O2 Wr E4=>hN _ _ ⟨F2.trans (Fl.pick E4),by rw[aM Bl];exact h3,λ x hx=>?_⟩⟩
    rcases w6.mp hx with q|q
    ·exact h2 x q
    ·have:x=d2:=by simpa using q
     omega
   ·obtain⟨F2,h3,h2⟩:=h
    rw[o9]at hl
    intro p2 oB
    have OU:p≠p2:=λ z=>by subst z;rw[h3]at oB;cases oB
    walk_at "rd"
    refine⟨⟨rfl,_,by rw[aM OU];exact h3⟩,?_⟩
    walk_at "rd"
    refine⟨p2,ns,n,rfl,ay,by omega,?_⟩
    walk_at "rd"
    refine zI (by rw[aM OU];exact h3) (by rw[w5];exact m6 (show rs.length<=12 by omega) (by decide)) ?_
    walk_at "rd"
    refine⟨_,_,rs++[jZ ns n],rfl,by simp[QJ],λ r hr=>?_,by rw[ay,w9];rfl,(F2.trans (Fl.put F2.cq oB)).own hF hp⟩
    rcases w6.mp hr with q|q
    ·exact MF r q
    ·have e:r=jZ ns n:=by simpa using q
     subst e
     refine⟨sZ _ _,BW,?_,BX λ x hx=>(h2 x hx).2⟩
     have:=BY (ns:=ns) (n:=n)
     omega
  ·obtain⟨v1,v2,rs,rfl,QJ,MF,h3,F3⟩:=h
   rw[bL]at QJ
   walk_at "rd"
   refine⟨_,rs,rfl,.inr ⟨p,rfl,h3⟩,by omega,λ r hr=>by have:=(MF r hr).len;omega,λ out ho QU JT UC=>?_⟩
   exact ao (k out _ (by omega) (λ r hr=>MF r (ho r hr)) (K2 JT UC λ r hr=>(MF r (ho r hr)).len) F3)
end
structure O8(g:List fR):Prop where
 nm:∀h∈g,Nm h.1
 nd:(g.map (·.1)).Nodup
theorem Ek{zs:List Str}{qF:List (List Row)}(h:zs.length=qF.length)(h1:∀z∈zs,Nm z)(h2:zs.Nodup):O8 (zs.zip qF):=
 ⟨λ p hp=>h1 _ (of_mem_zip hp).1,by rw[map_fst_zip (by omega)];exact h2⟩
def vA:gV:=λ ds M Q=>∃(f c:Addr) (m:Nat),ds=[.ref f,.int m]/\Flow M f c/\m<=12/\∀(n:Nat) (g:List fR) (M':Mem),n<=m->FI n g->O8 g->(∀h∈g,Up h.2/\h.2.length<=12)->Fl f c M M'->Q (iQ g) M'
section
variable {P:Program}{w:World}{K:PySem.W.Frag}{mg:Str->Option Value}{base:Heap}
theorem E7{n:Nat}{zs:List Str}{qF:List (List (List Int))}(hn:n<=12)(hz:zs.length=n)(ho:qF.length=n)(h:∀i os,qF[i]?=some os->os.length<=12/\∀r∈os,yz n i r):FI n (zs.zip qF):=by
 refine⟨by rw[length_zip];omega,hn,λ i hi=>?_⟩
 have e:(zs.zip qF).getD i ML=(zs[i]'(by omega),qF[i]'(by omega)):=by
  rw[c7,i4 (by rw[length_zip];omega)]
  simp
 rw[e]
 have:=h i _ (i4 (by omega))
 exact⟨by have:=this.1;show(qF[i]'_).length<=63;omega,this.2⟩
theorem dA:aI ["_law_flow_here","_law_most","_law_many","_law_names_here"] ["_law_flow_here","_law_most"] (aj (top 31)):=⟨rfl,rfl,rfl,by decide+kernel,rfl,by decide+kernel,by decide+kernel⟩
theorem jV{f:Addr}{fd:FuncData}(F:eN K "_law_any_game" "_law_any_game" (top 31) f fd)(T:iq K mg)(aD:cw P w K mg base 1 "_law_pick" ["_law_flow_here","_law_many"] h_)(sP:cw P w K mg base 3 "_law_names" ["_law_flow_here","_law_many"] qP)(mG:cw P w K mg base 5 "_law_any_sums" ["_law_flow_here","_law_ahead","_law_many"] vz):bh P w K mg base eO 6 f fd ["_law_flow_here","_law_most"] (cA K vA):=by
 refine jW F dA (λ ds M Q h=>?_) (λ bW A outer s H E ds M Q hr h=>?_)
 ·obtain⟨a,cc,b,rfl,_⟩:=h
  rfl
 ·obtain⟨a,cc,m,rfl,hF,hm,k⟩:=h
  refine⟨_,(af (aP (i:=2) dA.nd rfl (Or.inr rfl) (aQ aD (hr.mono (by decide)) (by rfl) (aa (ax 0) (aa (bu aX (ax 1) ak) ae))))
 (af (aP (i:=3) dA.nd rfl (Or.inr rfl) (aQ sP (hr.mono (by decide)) (by rfl) (aa (ax 0) (aa (ax 2) ae))))
 (ai (aG (tR kR jd (by rfl) T.tuple (by decide+kernel) (tgs:=["_law_h"]) (fr:=[3,0,2]) ⟨cv (by kernel_rfl),rfl,(λ _ _ h=>h),(bR rfl T.range (aa (ax 2) ae)),(bj (λ _ _ _ _ _=>(bG (i:=0) (show(["_law_h","_law_names_here","_law_flow_here","_law_many"]:List Str).Nodup by decide+kernel) rfl (Or.inl rfl))) (by decide)),(λ _ _ _ _ _=>bP),(λ _ _ _ _ _=>(cP (aa (cf bN (ax 1) (ax 0) (λ _ _=>rfl)) (aa (aQ mG (hr.mono (by decide)) (by rfl) (aa (ax 2) (aa (ax 0) (aa (ax 3) ae)))) ae))))⟩))))),?_⟩
  walk_at "rd"
  refine⟨a,cc,m+1,rfl,hF,by omega,by omega,λ d o h0 h1 BB=>?_⟩
  have F1:Fl a cc M _:=Fl.pick BB
  generalize aK M a o=M1 at*
  obtain⟨n,rfl⟩:∃n:Nat,d=(n:Int):=⟨d.toNat,by omega⟩
  walk_at "rd"
  refine⟨a,cc,n,rfl,F1.cq,by omega,λ p zs M2 hz hp Nj F2 JR JT=>?_⟩
  have F3:=F1.trans F2
  have Bl:=(F1.cq.ne hp).1
  walk_at "rd"
  refine⟨cS (by omega) (by omega),?_⟩
  rw[n5]
  refine qt (β:=Str×List (List Int)) (xs:=List.range n) (enc:=Ln) wg (λ g M'=>Fl a cc M M'/\M' p=some (.lst (zs.map D.str))/\∃qF:List (List (List Int)),qF.length=g.length/\g=(zs.take g.length).zip qF/\∀i os,qF[i]?=some os->(os.length<=12/\Up os)/\∀r∈os,yz n i r) (by simp;omega) ⟨F3,Nj,[],rfl,rfl,λ i os h=>by simp at h⟩ (λ i x g M' N hx hy h hN=>?_) (λ g M' hl h=>?_)
  ·obtain⟨F4,h3,qF,ho,hg,dJ⟩:=h
   have hi:=(g9.mp hx).1
   have TQ:x=i:=by rw[k9 (by simpa using hi)]at hx;exact(u7 hx).symm
   subst TQ
   rw[o9]at hi
   have R':zs[x]?=some (zs[x]'(by omega)):=i4 (by omega)
   have OZ:eV (zs.map D.str) (0+(x:Int))=some (.str (zs[x]'(by omega))):=by
    rw[Int.zero_add]
    refine cI ?_
    rw[n0,R']
    rfl
   walk_at "rd"
   refine eQ h3 OZ ?_
   walk_at "rd"
   rw[He]
   refine⟨a,cc,x,n,rfl,F4.cq,by omega,by omega,λ os M5 MN QR TV F5=>?_⟩
   walk_at "rd"
   refine⟨by show 2<=sizeLine;decide,hN (zs[x]'(by omega),os) _ ⟨F4.trans F5,F5.mv p _ Bl h3,qF++[os],by simp[ho],?_,λ i ur h=>?_⟩⟩
   ·rw[l8,j5,hy,take_one R']
    rw[hy]at hg ho
    rw[zip_append (by rw[r6];omega),<- hg]
    rfl
   ·by_cases mU:i < qF.length
    ·rw[c8 mU]at h
     exact dJ i ur h
    ·rw[c6 (by omega)]at h
     have Rb:i - qF.length=0:=by
      have:=(g9.mp h).1
      simp at this
      omega
     rw[Rb]at h
     have e:os=ur:=by simpa using h
     subst e
     have:i=x:=by omega
     subst this
     exact⟨⟨MN,TV⟩,QR⟩
  ·obtain⟨F4,h3,qF,ho,hg,dJ⟩:=h
   rw[o9]at hl
   rw[hl,i9 (by omega)]at hg
   refine ao (k n g M' (by omega) ?_ ?_ ?_ F4)
   ·rw[hg]
    exact E7 (by omega) hz (by omega) λ i os h=>⟨(dJ i os h).1.1,(dJ i os h).2⟩
   ·rw[hg]
    exact Ek (by omega) JR JT
   ·rw[hg]
    intro h hh
    obtain⟨i,hi⟩:=mem_iff_getElem?.mp (of_mem_zip (a:=h.1) (b:=h.2) hh).2
    exact⟨(dJ i _ hi).1.2,(dJ i _ hi).1.1⟩
end
def Kc:List Str:=[Str.ofString "1",Str.ofString "2",Str.ofString "3",Str.ofString "4",Str.ofString "5",Str.ofString "6",Str.ofString "7",Str.ofString "8",Str.ofString "9"]
def rP:Str:=Str.ofString "abcdefghijklmnopqrstuvwxyz"
def yE(c:Nat):Bool:=decide (c∈rP.cps.toList)
def isWord(z:Str):Bool:=decide (1<=z.length)&&decide (z.length<=5)&&!cQ.contains z&&(z.cps.toList.map yE).all id
def ou(z:Str):Bool:=Kc.contains z
def isName(z:Str):Bool:=isWord z||(ou (dm z (some (-1)) none)&&isWord (dm z none (some (-1))))
def eP(f:Str->Bool):gV:=λ ds M Q=>∃z,ds=[.str z]/\z.length<=1000/\Q (.bl (f z)) M
theorem signs_at{z:Str}{i:Nat}{d:D}(h:(dw z)[i]?=some d):∃c,z.cps.toList[i]?=some c/\d=.str ⟨#[c]⟩:=by
 unfold dw at h
 rw[n0]at h
 cases e:z.cps.toList[i]? with
 |none=>rw[e]at h;cases h
 |some c=>rw[e]at h;exact⟨c,rfl,(u7 h).symm⟩
theorem oV{z:Str}(p:Nat->Bool){g:gA}{te:bV}{δc:cZ}{M:Mem}{Q:br}(hz:z.length<=1000)
  (hs:∀c (A:Mem->Prop) (N:D->Mem->Prop),N (.bl (p c)) M->g (.str ⟨#[c]⟩) δc M λ δ2 M2=>qW δ2 M2 λ b M3=>if b=true then te δ2 M3 N else A M3)
  (hq:Q (.bl ((z.cps.toList.map p).all id)) M):
  ∃(B:Nat) (W:Nat->List D->Mem->Prop),W 0 [] M/\∀i acc M,W i acc M->i<=B/\acc.length<=sizeLine/\match items (.fix (dw z)) M with
   |none=>False
   |some ds=>match ds[i]? with
    |none=>i=ds.length/\jM acc M Q
    |some d=>g d δc M λ δ2 M2=>qW δ2 M2 λ b M3=>if b=true then te δ2 M3 λ y M4=>W (i+1) (acc++[y]) M4 else W (i+1) acc M3:=by
 have hl:(dw z).length=z.cps.toList.length:=by unfold dw;rw[w5]
 have Qs:z.cps.toList.length<=1000:=by rw[l4];exact hz
 refine fK (λ i acc M'=>M'=M/\acc=((z.cps.toList.take i).map p).map D.bl) ⟨rfl,by simp⟩ (λ i acc M' hi h=>?_) (λ i d acc M' hd h=>?_) (λ acc M' h=>?_)
 ·obtain⟨_,rfl⟩:=h
  rw[w5,w5,r6]
  exact small (by omega)
 ·obtain⟨rfl,rfl⟩:=h
  obtain⟨c,hc,rfl⟩:=signs_at hd
  refine hs c (λ M3=>M3=_/\_=_) _ ⟨rfl,?_⟩
  rw[take_add_one,hc]
  simp
 ·obtain⟨rfl,rfl⟩:=h
  rw[hl,take_length]
  unfold jM
  rw[eD]
  exact hq
section
variable {P:Program}{w:World}{K:PySem.W.Frag}{mg:Str->Option Value}{base:Heap}
theorem ua:aI ["text"] ["text"] (aj (top 10)):=⟨rfl,rfl,rfl,by decide+kernel,rfl,by decide+kernel,by decide+kernel⟩
theorem ux{f:Addr}{fd:FuncData}(F:eN K "is_word" "is_word" (top 10) f fd)(T:iq K mg):bh P w K mg base eO 1 f fd ["text"] (cA K (eP isWord)):=by
 refine jW F ua (λ ds M Q h=>?_) (λ bW A outer s H E ds M Q hr h=>?_)
 ·obtain⟨a,rfl,_⟩:=h
  rfl
 ·obtain⟨z,rfl,hz,k⟩:=h
  refine⟨_,(af (bw (jy (fz (yR Aw Aw ak (aE c_ (by rfl) T.len (by decide+kernel) (aa (ax 0) ae)) (pf T.ml (by rfl)))) (hV (aV (iJ hr.units) (ax 0) (pf T.E9 (by rfl)) rfl))).pt
 (ai (aG jR))
 aL)
 (ai (aG (hX (oP rfl) gE (by rfl) T.all (by decide+kernel) (tgs:=["sign"]) (fr:=[]) ⟨cv (by kernel_rfl),rfl,(λ _ _ h=>h),(du (ax 0)),(bj (λ _ _ _ _ _=>(bG (i:=0) (show(["sign"]:List Str).Nodup by decide+kernel) rfl (Or.inl rfl))) (by decide)),(λ _ _ _ _ _=>bP),(λ _ _ _ _ _=>(eX (iJ hr.units) (ax 0) (pf T.yc (by rfl)) rfl))⟩)))),?_⟩
  have Bh:z.length<=sizeLine:=small (by omega)
  walk_at "rd"
  refine km Bh ?_
  walk_at "rd"
  have no:isWord z=false->fin2 Q (.bl false) M:=λ e=>ao (by rw[e]at k;exact k)
  refine bz (λ h1=>?_) (λ h1=>?_)
  ·walk_at "rd"
   refine dG (λ h2=>?_) (λ h2=>?_)
   ·walk_at "rd"
    refine no ?_
    unfold isWord
    have:decide (z.length<=5)=false:=u4 (by omega)
    rw[this,Bool.and_false]
    rfl
   ·walk_at "rd"
    refine pL (ff z cQ) ?_
    refine eI (λ h3=>?_) (λ h3=>?_)
    ·walk_at "rd"
     refine no ?_
     unfold isWord
     rw[h3,Bool.not_true,Bool.and_false]
     rfl
    ·walk_at "rd"
     refine oV yE hz (λ c A N h=>?_) ?_
     ·walk_at "rd"
      rw[StrLaws.found_one]
      exact h
     ·refine ao ?_
      have e:isWord z=(z.cps.toList.map yE).all id:=by
       unfold isWord
       rw[h3,x3 (show 1<=z.length by omega),x3 (show z.length<=5 by omega)]
       rfl
      rw[<- e]
      exact k
  ·walk_at "rd"
   refine no ?_
   unfold isWord
   have:decide (1<=z.length)=false:=u4 (by omega)
   rw[this]
   rfl
theorem pG:aI ["text"] ["text"] (aj (top 11)):=⟨rfl,rfl,rfl,by decide+kernel,rfl,by decide+kernel,by decide+kernel⟩
theorem pT{f:Addr}{fd:FuncData}(F:eN K "is_figure" "is_figure" (top 11) f fd)(T:iq K mg):bh P w K mg base eO 1 f fd ["text"] (cA K (eP ou)):=by
 refine jW F pG (λ ds M Q h=>?_) (λ bW A outer s H E ds M Q hr h=>?_)
 ·obtain⟨a,rfl,_⟩:=h
  rfl
 ·obtain⟨z,rfl,hz,k⟩:=h
  refine⟨_,(ai (aG (eX (iJ hr.units) (ax 0) (pf T.yd (by rfl)) rfl))),?_⟩
  walk_at "rd"
  exact pL (ff z Kc) (ao k)
theorem ub:aI ["text"] ["text"] (aj (top 12)):=⟨rfl,rfl,rfl,by decide+kernel,rfl,by decide+kernel,by decide+kernel⟩
theorem uz{f:Addr}{fd:FuncData}(F:eN K "is_name" "is_name" (top 12) f fd)(T:iq K mg)(oM:cw P w K mg base 1 "is_word" ["text"] (eP isWord))(sQ:cw P w K mg base 1 "is_figure" ["text"] (eP ou)):bh P w K mg base eO 2 f fd ["text"] (cA K (eP isName)):=by
 refine jW F ub (λ ds M Q h=>?_) (λ bW A outer s H E ds M Q hr h=>?_)
 ·obtain⟨a,rfl,_⟩:=h
  rfl
 ·obtain⟨z,rfl,hz,k⟩:=h
  have Bh:z.length<=sizeLine:=small (by omega)
  have c1:=qp z (some (-1)) none
  have c2:=qp z none (some (-1))
  refine⟨_,(ai (aG (w_or (aQ oM (hr.mono (by decide)) (by rfl) (aa (ax 0) ae)) (gb (w_and (aQ sQ (hr.mono (by decide)) (by rfl) (aa (bg cC (ax 0) (bb (pe iA ak)) bc) ae)) (gb (aQ oM (hr.mono (by decide)) (by rfl) (aa (bg cC (ax 0) bc (bb (pe iA ak))) ae)))))))),?_⟩
  walk_at "rd"
  refine⟨z,rfl,hz,?_⟩
  refine eI (λ h1=>?_) (λ h1=>?_)
  ·refine ao ?_
   have e:isName z=true:=by unfold isName;rw[h1];rfl
   rw[<- e];exact k
  ·walk_at "rd"
   refine kj Bh ?_
   refine⟨_,rfl,by omega,?_⟩
   refine eI (λ h2=>?_) (λ h2=>?_)
   ·walk_at "rd"
    refine kj Bh ?_
    refine⟨_,rfl,by omega,ao ?_⟩
    have e:isName z=isWord (dm z none (some (-1))):=by unfold isName;rw[h1,h2];rfl
    rw[<- e];exact k
   ·refine ao ?_
    have e:isName z=false:=by unfold isName;rw[h1,h2];rfl
    rw[<- e];exact k
end
def nh(c:Nat):Bool:=(!decide ([c] < (Str.ofString "a").cps.toList))&&(!decide ((Str.ofString "z").cps.toList < [c]))
def bH(z:Str):Bool:=decide (1<=z.length)&&decide (z.length<=5)&&!cQ.contains z&&(z.cps.toList.map nh).all id
def dh(z:Str):Bool:=match z.cps.toList.getLast? with
 |some c=>if decide (1 < z.length)&&decide (c∈(Str.ofString "123456789").cps.toList)then bH (dm z none (some (-1)))else bH z
 |none=>bH z
theorem yu{z:Str}(h:1<=z.length):∃c,eV z.cps.toList (-1)=some c/\z.cps.toList.getLast?=some c:=by
 have hl:z.cps.toList.length=z.length:=by simp[Str.length]
 have eG:z.cps.toList≠[]:=by intro e;rw[e]at hl;simp at hl;omega
 refine⟨z.cps.toList.getLast eG,?_,getLast?_eq_some_getLast eG⟩
 have e:z.cps.toList=z.cps.toList.dropLast++[z.cps.toList.getLast eG]:=(dropLast_concat_getLast eG).symm
 have q:=B3 z.cps.toList.dropLast (z.cps.toList.getLast eG)
 rw[<- e]at q
 exact q
theorem eR:rP.cps.toList=[97,98,99,100,101,102,103,104,105,106,107,108,109,110,111,112,113,114,115,116,117,118,119,120,121,122]:=by decide+kernel
theorem JJ(c:Nat):yE c=nh c:=by
 have ea:(Str.ofString "a").cps.toList=[97]:=by decide+kernel
 have ez:(Str.ofString "z").cps.toList=[122]:=by decide+kernel
 unfold yE nh
 rw[eR,ea,ez,r9]
 simp only[n4,q9,Bool.not_eq_true',decide_eq_false_iff_not,cons_lt_cons_iff,List.lt_irrefl,and_false,or_false,y1,not_mem_nil]
 omega
theorem gM(z:Str):isWord z=bH z:=by
 unfold isWord bH
 rw[show yE=nh from funext JJ]
theorem sT(z:Str):dm z none (some (-1))=⟨z.cps.toList.dropLast.toArray⟩:=by
 unfold dm
 have hl:z.cps.toList.length=z.length:=by simp[Str.length]
 have e:HT.bQ z.length z.length (some (-1))=z.length - 1:=by
  show(if(-1:Int) < 0 then((-1:Int)+(z.length:Int)).toNat else min (-1:Int).toNat z.length)=_
  rw[A3 (by decide)]
  omega
 have e0:HT.bQ z.length 0 none=0:=rfl
 rw[e,e0,drop_zero,Nat.sub_zero,dropLast_eq_take,hl]
theorem mJ(z:Str):dm z (some (-1)) none=⟨(z.cps.toList.drop (z.length - 1)).toArray⟩:=by
 unfold dm
 have hl:z.cps.toList.length=z.length:=by simp[Str.length]
 have e:HT.bQ z.length 0 (some (-1))=z.length - 1:=by
  show(if(-1:Int) < 0 then((-1:Int)+(z.length:Int)).toNat else min (-1:Int).toNat z.length)=_
  rw[A3 (by decide)]
  omega
 have e0:HT.bQ z.length z.length none=z.length:=rfl
 rw[e,e0,i9 (by rw[p9];omega)]
theorem wu(c:Nat):ou ⟨#[c]⟩=decide (c∈(Str.ofString "123456789").cps.toList):=by
 have e:(Str.ofString "123456789").cps.toList=[49,50,51,52,53,54,55,56,57]:=by decide+kernel
 have ef:Kc=[⟨#[49]⟩,⟨#[50]⟩,⟨#[51]⟩,⟨#[52]⟩,⟨#[53]⟩,⟨#[54]⟩,⟨#[55]⟩,⟨#[56]⟩,⟨#[57]⟩]:=by decide+kernel
 unfold ou
 rw[e,ef,r9]
 simp
theorem BH:ou ⟨#[]⟩=false:=by decide+kernel
theorem wU{z:Str}(h:z.length=0):isWord z=false:=by
 unfold isWord
 rw[u4 (show ¬1<=z.length by omega)]
 rfl
theorem yT{z:Str}{c:Nat}(h:c∈z.cps.toList)(hc:yE c=false):isWord z=false:=by
 unfold isWord
 have:(z.cps.toList.map yE).all id=false:=by
  rw[List.all_eq_false]
  exact⟨false,by rw[<- hc];exact List.mem_map_of_mem h,by decide⟩
 rw[this,Bool.and_false]
theorem BG{c:Nat}(h:c∈(Str.ofString "123456789").cps.toList):yE c=false:=by
 have e:(Str.ofString "123456789").cps.toList=[49,50,51,52,53,54,55,56,57]:=by decide+kernel
 rw[e]at h
 unfold yE
 rw[eR]
 simp only[y1,not_mem_nil,or_false]at h
 rcases h with rfl|rfl|rfl|rfl|rfl|rfl|rfl|rfl|rfl <;> decide
theorem xX(z:Str):isName z=dh z:=by
 have hl:z.cps.toList.length=z.length:=by simp[Str.length]
 unfold isName dh
 cases hg:z.cps.toList.getLast? with
 |none=>
  have hn:z.cps.toList=[]:=getLast?_eq_none_iff.mp hg
  have h0:z.length=0:=by rw[<- hl,hn];rfl
  have e:dm z (some (-1)) none=⟨#[]⟩:=by rw[mJ,hn,drop_nil]
  rw[e,BH,Bool.false_and,Bool.or_false]
  exact gM z
 |some c=>
  obtain⟨init,hi⟩:=getLast?_eq_some_iff.mp hg
  have hlen:z.length=init.length+1:=by rw[<- hl,hi];simp
  have e1:dm z (some (-1)) none=⟨#[c]⟩:=by
   rw[mJ,hi,hlen]
   simp
  rw[e1,wu]
  show(isWord z||(decide (c∈(Str.ofString "123456789").cps.toList)&&isWord (dm z none (some (-1)))))=if(decide (1 < z.length)&&decide (c∈(Str.ofString "123456789").cps.toList))=true then bH (dm z none (some (-1)))else bH z
  by_cases hf:c∈(Str.ofString "123456789").cps.toList
  ·have hw:isWord z=false:=yT (by rw[hi];simp) (BG hf)
   rw[x3 hf,hw,Bool.false_or,Bool.true_and,Bool.and_true]
   by_cases h1:1 < z.length
   ·rw[x3 h1,A3 rfl]
    exact gM _
   ·rw[u4 h1,A4 l7,<- gM,hw]
    refine wU ?_
    rw[sT]
    show z.cps.toList.dropLast.toArray.size=0
    rw[p4,length_dropLast,hl]
    omega
  ·rw[u4 hf,Bool.false_and,Bool.or_false,Bool.and_false,A4 l7]
   exact gM z
section
variable {P:Program}{w:World}{K:PySem.W.Frag}{mg:Str->Option Value}{base:Heap}
theorem lF:aI ["_law_text"] ["_law_text"] (aj (top 28)):=⟨rfl,rfl,rfl,by decide+kernel,rfl,by decide+kernel,by decide+kernel⟩
theorem lU{f:Addr}{fd:FuncData}(F:eN K "_law_is_word" "_law_is_word" (top 28) f fd)(T:iq K mg):bh P w K mg base eO 1 f fd ["_law_text"] (cA K (eP bH)):=by
 refine jW F lF (λ ds M Q h=>?_) (λ bW A outer s H E ds M Q hr h=>?_)
 ·obtain⟨a,rfl,_⟩:=h
  rfl
 ·obtain⟨z,rfl,hz,k⟩:=h
  have Bh:z.length<=sizeLine:=small (by omega)
  refine⟨_,(af (bw (jy (aV Ji (aE c_ (by rfl) T.len (by decide+kernel) (aa (ax 0) ae)) ak (aR _)) (jy (aV xJ (aE c_ (by rfl) T.len (by decide+kernel) (aa (ax 0) ae)) ak (aR _)) (hV (aV (iJ hr.units) (ax 0) (gX (pb (zs:=[Str.ofString "row",Str.ofString "to",Str.ofString "take",Str.ofString "none",Str.ofString "one",Str.ofString "two",Str.ofString "as",Str.ofString "heap"]) (by kernel_rfl))) rfl)))).pt
 (ai (aG jR))
 aL)
 (ai (aG (hX (oP rfl) gE (by rfl) T.all (by decide+kernel) (tgs:=["_law_sign"]) (fr:=[]) ⟨cv (by kernel_rfl),rfl,(λ _ _ h=>h),(du (ax 0)),(bj (λ _ _ _ _ _=>(bG (i:=0) (show(["_law_sign"]:List Str).Nodup by decide+kernel) rfl (Or.inl rfl))) (by decide)),(λ _ _ _ _ _=>bP),(λ _ _ _ _ _=>(Cz Aw Aw bx (ax 0) bx))⟩)))),?_⟩
  have no:∀M',gB M M'->bH z=false->fin2 Q (.bl false) M':=λ M' hs e=>⟨M,hs,by rw[e]at k;exact k⟩
  walk_at "rd"
  refine km Bh ?_
  walk_at "rd"
  refine bz (λ h1=>?_) (λ h1=>?_)
  ·walk_at "rd"
   refine no M (gB.refl M) ?_
   unfold bH
   have:decide (1<=z.length)=false:=u4 (by omega)
   rw[this]
   rfl
  ·walk_at "rd"
   refine km Bh ?_
   walk_at "rd"
   refine bz (λ h2=>?_) (λ h2=>?_)
   ·walk_at "rd"
    refine no M (gB.refl M) ?_
    unfold bH
    have:decide (z.length<=5)=false:=u4 (by omega)
    rw[this,Bool.and_false]
    rfl
   ·walk_at "rd"
    refine⟨by decide,λ p hp=>?_⟩
    have hs:gB M (aK M p (.lst (cQ.map D.str))):=(gB.refl M).put hp
    refine pM (ds:=cQ.map D.str) ay (ff z cQ) ?_
    refine eI (λ h3=>?_) (λ h3=>?_)
    ·walk_at "rd"
     refine no _ hs ?_
     unfold bH
     rw[h3,Bool.not_true,Bool.and_false]
     rfl
    ·walk_at "rd"
     refine oV nh hz (λ c A N h=>?_) ?_
     ·walk_at "rd"
      refine eI (λ hb=>?_) (λ hb=>?_)
      ·walk_at "rd"
       have e:nh c=!decide ((Str.ofString "z").cps.toList < [c]):=by
        unfold nh
        rw[show(!decide ([c] < (Str.ofString "a").cps.toList))=true from hb]
        rfl
       rw[e]at h
       exact h
      ·have e:nh c=false:=by
        unfold nh
        rw[show(!decide ([c] < (Str.ofString "a").cps.toList))=false from hb]
        rfl
       rw[e]at h
       exact h
     ·refine⟨M,hs,?_⟩
      have e:bH z=(z.cps.toList.map nh).all id:=by
       unfold bH
       rw[h3,x3 (show 1<=z.length by omega),x3 (show z.length<=5 by omega)]
       rfl
      rw[<- e]
      exact k
theorem lG:aI ["_law_text"] ["_law_text"] (aj (top 29)):=⟨rfl,rfl,rfl,by decide+kernel,rfl,by decide+kernel,by decide+kernel⟩
theorem lV{f:Addr}{fd:FuncData}(F:eN K "_law_is_name" "_law_is_name" (top 29) f fd)(T:iq K mg)(hG:cw P w K mg base 1 "_law_is_word" ["_law_text"] (eP bH)):bh P w K mg base eO 2 f fd ["_law_text"] (cA K (eP dh)):=by
 refine jW F lG (λ ds M Q h=>?_) (λ bW A outer s H E ds M Q hr h=>?_)
 ·obtain⟨a,rfl,_⟩:=h
  rfl
 ·obtain⟨z,rfl,hz,k⟩:=h
  have Bh:z.length<=sizeLine:=small (by omega)
  have c2:=qp z none (some (-1))
  refine⟨_,(af (bw (kZ (aV xJ (aE c_ (by rfl) T.len (by decide+kernel) (aa (ax 0) ae)) ak (aR _)) (iy (aV (iJ hr.units) (cf bN (ax 0) (pe iA ak) (λ _ _=>rfl)) bx rfl))).pt
 (ai (aG (aQ hG (hr.mono (by decide)) (by rfl) (aa (bg cC (ax 0) bc (bb (pe iA ak))) ae))))
 aL)
 (ai (aG (aQ hG (hr.mono (by decide)) (by rfl) (aa (ax 0) ae))))),?_⟩
  walk_at "rd"
  refine km Bh ?_
  walk_at "rd"
  refine bz (λ h1=>?_) (λ h1=>?_)
  ·obtain⟨c,hc,By⟩:=yu (z:=z) (by omega)
   walk_at "rd"
   refine pJ Bh hc ?_
   walk_at "rd"
   rw[StrLaws.found_one]
   refine bz (λ h2=>?_) (λ h2=>?_)
   ·walk_at "rd"
    refine kj Bh ?_
    refine⟨_,rfl,by omega,ao ?_⟩
    have e:dh z=bH (dm z none (some (-1))):=by
     unfold dh
     rw[By]
     show(if(decide (1 < z.length)&&decide (c∈(Str.ofString "123456789").cps.toList))=true then _ else _)=_
     rw[x3 (show 1 < z.length by omega),x3 h2]
     rfl
    rw[<- e];exact k
   ·walk_at "rd"
    refine⟨_,rfl,hz,ao ?_⟩
    have e:dh z=bH z:=by
     unfold dh
     rw[By]
     show(if(decide (1 < z.length)&&decide (c∈(Str.ofString "123456789").cps.toList))=true then _ else _)=_
     rw[u4 h2,Bool.and_false]
     rfl
    rw[<- e];exact k
  ·walk_at "rd"
   refine⟨_,rfl,hz,ao ?_⟩
   have e:dh z=bH z:=by
    unfold dh
    rw[u4 (show ¬1 < z.length by omega)]
    cases z.cps.toList.getLast? <;> rfl
   rw[<- e];exact k
end
theorem mK{ds:List D}{g:gA}{te:bV}{δc:cZ}{M1:Mem}{Qe:List D->Mem->Prop}(out:D->D)(hn:ds.length<=10000)
  (hs:∀(i:Nat) (x:D) (N:D->Mem->Prop),ds[i]?=some x->N (out x) M1->g x δc M1 λ δ2 M2=>te δ2 M2 N)
  (hd:Qe (ds.map out) M1):
  ∃(B:Nat) (W:Nat->List D->Mem->Prop),W 0 [] M1/\∀i acc M,W i acc M->i<=B/\acc.length<=sizeLine/\match items (.fix ds) M with
   |none=>False
   |some ds=>match ds[i]? with
    |none=>i=ds.length/\Qe acc M
    |some d=>g d δc M λ δ2 M2=>qW δ2 M2 λ b M3=>if b=true then te δ2 M3 λ y M4=>W (i+1) (acc++[y]) M4 else W (i+1) acc M3:=by
 have z:=kN (xs:=ds) (enc:=λ d=>d) (g:=g) (te:=te) (δc:=δc) (M1:=M1) (Qe:=Qe) out hn hs hd
 rw[List.map_id']at z
 exact z
theorem eD{α:Type}(p:α->Bool):∀xs:List α,iX (xs.map λ x=>D.bl (p x))=some (xs.map p)
 |[]=>rfl
 |x::xs=>by rw[y0,y0];unfold iX;rw[eD p xs];rfl
theorem pN{α:Type}{xs:List α}{p:α->Bool}{M:Mem}{Q:br}(q:Q (.bl (xs.all p)) M):jM (xs.map λ x=>D.bl (p x)) M Q:=by
 unfold jM
 rw[eD]
 have e:(xs.map p).all id=xs.all p:=by rw[List.all_map];rfl
 rw[<- e]at q
 exact q
theorem Dt{α:Type}{xs:List α}{p:α->Bool}{M:Mem}{Q:br}(q:Q (.bl (xs.any p)) M):Gw (xs.map λ x=>D.bl (p x)) M Q:=
 ⟨xs.map p,by rw[y7];rfl,by rw[List.any_map];exact q⟩
def Kd:D->Prop
 | .aZ=>True| .int _=>True| .str _=>True| .tup _=>True|_=>False
def JH:D->Bool
 | .int _=>true|_=>false
def okN:D->Bool
 | .int i=>decide (0<=i)|_=>false
def cj(d:D)(n:Nat):Bool:=match d with
 | .tup ds=>decide (ds.length=n)&&ds.all okN
 |_=>false
def Od(d:D):Prop:=Kd d/\∀ds,d=.tup ds->ds.length<=1000/\∀e∈ds,Kd e
def gF:gV:=λ ds M Q=>∃d,ds=[d]/\Kd d/\Q (.bl (JH d)) M
def vw:gV:=λ ds M Q=>∃(d:D) (n:Nat),ds=[d,.int n]/\Od d/\Q (.bl (cj d n)) M
section
variable {P:Program}{w:World}{K:PySem.W.Frag}{mg:Str->Option Value}{base:Heap}
theorem qT:aI ["value"] ["value"] (aj (top 14)):=⟨rfl,rfl,rfl,by decide+kernel,rfl,by decide+kernel,by decide+kernel⟩
theorem rB{f:Addr}{fd:FuncData}(F:eN K "is_whole" "is_whole" (top 14) f fd)(T:iq K mg):bh P w K mg base eO 1 f fd ["value"] (cA K gF):=by
 refine jW F qT (λ ds M Q h=>?_) (λ bW A outer s H E ds M Q hr h=>?_)
 ·obtain⟨d,rfl,_⟩:=h
  rfl
 ·obtain⟨d,rfl,hk,k⟩:=h
  refine⟨_,(ai (aG (w_and (aE (cV T.wb) (by rfl) T.isinstance (by decide+kernel) (aa (ax 0) (aa (fB (n:="int") (by rfl) T.int (by decide+kernel)) ae))) (gb (w_not (aE (cV T.jo) (by rfl) T.isinstance (by decide+kernel) (aa (ax 0) (aa (fB (n:="bool") (by rfl) T.bool (by decide+kernel)) ae)))))))),?_⟩
  have alt:(∃i,d=.int i)\/∃n,jc M d=some n/\jX n "int"=false/\JH d=false:=by
   cases d with
   |int i=>exact .inl ⟨i,rfl⟩
   |aZ=>exact .inr ⟨"NoneType",rfl,by decide,rfl⟩
   |str z=>exact .inr ⟨"str",rfl,by decide,rfl⟩
   |tup z=>exact .inr ⟨"tuple",rfl,by decide,rfl⟩
   |_=>cases hk
  rcases alt with⟨i,rfl⟩|⟨n,h1,h2,h3⟩
  ·walk_at "rx"
   refine aO (n:="int") rfl (b:=true) (by decide) ?_
   walk_at "rx"
   refine aO (n:="int") rfl (b:=false) (by decide) ?_
   walk_at "rx"
   exact ao k
  ·walk_at "rx"
   refine aO h1 h2 ?_
   walk_at "rx"
   rw[h3]at k
   exact ao k
theorem xh:aI ["value","size"] ["value","size"] (aj (top 15)):=⟨rfl,rfl,rfl,by decide+kernel,rfl,by decide+kernel,by decide+kernel⟩
theorem xF{f:Addr}{fd:FuncData}(F:eN K "is_sum" "is_sum" (top 15) f fd)(T:iq K mg)(uV:cw P w K mg base 1 "is_whole" ["value"] gF):bh P w K mg base eO 2 f fd ["value","size"] (cA K vw):=by
 refine jW F xh (λ ds M Q h=>?_) (λ bW A outer s H E ds M Q hr h=>?_)
 ·obtain⟨d,n,rfl,_⟩:=h
  rfl
 ·obtain⟨d,n,rfl,⟨hk,hd⟩,k⟩:=h
  refine⟨_,(af (bw (jy (fz (cO (aE (cV T.iM) (by rfl) T.isinstance (by decide+kernel) (aa (ax 0) (aa (fB (n:="tuple") (by rfl) T.tuple (by decide+kernel)) ae))))) (hV (aV (lW hr.units) (aE c_ (by rfl) T.len (by decide+kernel) (aa (ax 0) ae)) (ax 1) (aR _)))).pt
 (ai (aG jR))
 aL)
 (ai (aG (hX (oP rfl) gE (by rfl) T.all (by decide+kernel) (tgs:=["many"]) (fr:=[]) ⟨cv (by kernel_rfl),rfl,(λ _ _ h=>h),(du (ax 0)),(bj (λ _ _ _ _ _=>(bG (i:=0) (show(["many"]:List Str).Nodup by decide+kernel) rfl (Or.inl rfl))) (by decide)),(λ _ _ _ _ _=>bP),(λ _ _ _ _ _=>(w_and (aQ uV (hr.mono (by decide)) (by rfl) (aa (ax 0) ae)) (gb (eX Jl (ax 0) ak (aR _)))))⟩)))),?_⟩
  have alt:(∃ds,d=.tup ds)\/∃s,jc M d=some s/\jX s "tuple"=false/\cj d n=false:=by
   cases d with
   |tup ds=>exact .inl ⟨ds,rfl⟩
   |aZ=>exact .inr ⟨"NoneType",rfl,by decide,rfl⟩
   |str z=>exact .inr ⟨"str",rfl,by decide,rfl⟩
   |int z=>exact .inr ⟨"int",rfl,by decide,rfl⟩
   |_=>cases hk
  rcases alt with⟨ds,rfl⟩|⟨s,h1,h2,h3⟩
  ·obtain⟨hl,he⟩:=hd ds rfl
   walk_at "rx"
   refine aO (n:="tuple") rfl (b:=true) (by decide) ?_
   walk_at "rx"
   refine dG (λ hn=>?_) (λ hn=>?_)
   ·walk_at "rx"
    have e:cj (.tup ds) n=false:=by unfold cj;simp only;rw[u4 (by omega)];rfl
    rw[e]at k
    exact ao k
   ·walk_at "rx"
    refine mK (λ d=>.bl (okN d)) (by omega) (λ i d N hi hN=>?_) ?_
    ·have OW:=he d (k4 hi)
     walk_at "rx"
     refine⟨d,rfl,OW,?_⟩
     cases d with
     |int j=>
      walk_at "rx"
      exact hN
     |aZ=>exact hN
     |str z=>exact hN
     |tup z=>exact hN
     |_=>cases OW
    ·refine pN ?_
     have e:cj (.tup ds) n=ds.all okN:=by unfold cj;simp only;rw[x3 (by omega)];rfl
     rw[e]at k
     exact ao k
  ·walk_at "rx"
   refine aO h1 h2 ?_
   walk_at "rx"
   rw[h3]at k
   exact ao k
end
def zc:gV:=λ ds M Q=>∃as:Row,ds=[row as]/\as.length<=1000/\∀m,M m=none->Q (.tup [.int as.sum,.ref m]) (aK M m (.lst ((as.map λ a=>0 - a).map D.int)))
section
variable {P:Program}{w:World}{K:PySem.W.Frag}{mg:Str->Option Value}{base:Heap}
theorem pB:aI ["counts"] ["counts"] (aj (top 4)):=⟨rfl,rfl,rfl,by decide+kernel,rfl,by decide+kernel,by decide+kernel⟩
theorem Ed{f:Addr}{fd:FuncData}(F:eN K "order_key" "order_key" (top 4) f fd)(T:iq K mg):bh P w K mg base eO 1 f fd ["counts"] (cA K zc):=by
 refine jW F pB (λ ds M Q h=>?_) (λ bW A outer s H E ds M Q hr h=>?_)
 ·obtain⟨a,rfl,_⟩:=h
  rfl
 ·obtain⟨as,rfl,hz,k⟩:=h
  refine⟨_,(ai (aG (cP (aa (aE (Gy rfl) (by rfl) T.sum (by decide+kernel) (aa (ax 0) ae)) (aa (pj (tgs:=["many"]) (fr:=[]) ⟨cv (by kernel_rfl),rfl,(λ _ _ h=>h),(du (ax 0)),(bj (λ _ _ _ _ _=>(bG (i:=0) (show(["many"]:List Str).Nodup by decide+kernel) rfl (Or.inl rfl))) (by decide)),(λ _ _ _ _ _=>bP),(λ _ _ _ _ _=>(pe iA (ax 0)))⟩) ae))))),?_⟩
  walk_at "rd"
  refine vC ?_
  walk_at "rd"
  refine fK (λ i acc M'=>M'=M/\acc=((as.map λ a=>0 - a).take i).map D.int) ⟨rfl,by simp⟩ (λ i acc M' hi h=>?_) (λ i d acc M' hd h=>?_) (λ acc M' h=>?_)
  ·obtain⟨_,rfl⟩:=h
   rw[w5,r6]
   rw[w5]at hi
   exact small (by omega)
  ·obtain⟨rfl,rfl⟩:=h
   rw[n0]at hd
   cases e:as[i]? with
   |none=>rw[e]at hd;cases hd
   |some a=>
    rw[e]at hd
    cases hd
    walk_at "rd"
    refine⟨rfl,?_⟩
    rw[take_snoc (a:=0 - a) (by simp[e]),w9,Int.zero_sub]
    rfl
  ·obtain⟨rfl,rfl⟩:=h
   intro p hp
   walk_at "rd"
   refine⟨by show 2<=sizeLine;decide,ao ?_⟩
   have e:(as.map λ a=>0 - a).take (as.map D.int).length=as.map λ a=>0 - a:=by rw[w5];exact i9 (by simp)
   rw[e]
   exact k p hp
end
def xK:D->Int
 | .int i=>i|_=>0
def rowOf:D->Row
 | .tup ds=>ds.map xK|_=>[]
theorem qZ:∀{ds:List D},ds.all okN=true->ds=(ds.map xK).map D.int/\∀x∈ds.map xK,0<=x
 |[],_=>⟨rfl,λ x z=>by cases z⟩
 |d::ds,h=>by
  rw[all_cons,q9]at h
  obtain⟨e,hp⟩:=qZ h.2
  cases d with
  |int i=>
   refine⟨by rw[y0,y0,<- e];rfl,λ x hx=>?_⟩
   rw[y0]at hx
   rcases y1.mp hx with z|z
   ·rw[z];exact of_decide_eq_true h.1
   ·exact hp x z
  |_=>cases h.1
theorem oq{d:D}{n:Nat}(h:cj d n=true):d=row (rowOf d)/\(rowOf d).length=n/\∀x∈rowOf d,0<=x:=by
 cases d with
 |tup ds=>
  unfold cj at h
  simp only[q9,n4]at h
  obtain⟨e,hp⟩:=qZ h.2
  refine⟨?_,by show(ds.map xK).length=n;rw[w5];exact h.1,hp⟩
  show D.tup ds=.tup ((ds.map xK).map D.int)
  rw[<- e]
 |_=>cases h
theorem A9{r:Row}{n:Nat}(hl:r.length=n)(hp:∀x∈r,0<=x):cj (row r) n=true:=by
 unfold row cj
 simp only[q9,n4,w5]
 refine⟨hl,?_⟩
 rw[List.all_eq_true]
 intro d hd
 obtain⟨x,hx,rfl⟩:=y6.mp hd
 exact x3 (hp x hx)
theorem xl(r:Row):rowOf (row r)=r:=by
 show(r.map D.int).map xK=r
 rw[y7]
 exact(map_congr_left (g:=id) λ x _=>rfl).trans (List.map_id _)
def fU(h n:Nat):Option Row->List D->Option Str
 |_,[]=>none
 |ah,o::os=>if cj o n=false then some (Str.ofString "sum")else if((rowOf o).drop h).any (λ x=>decide (0 < x))=true then some (Str.ofString "lesser")else
  if ah.any (λ a=>!klt (eS a) (eS (rowOf o)))=true then some (Str.ofString "order")else fU h n (some (rowOf o)) os
theorem gH(h n:Nat)(ah:Option Row)(o:D)(os:List D):fU h n ah (o::os)=if cj o n=false then some (Str.ofString "sum")else if((rowOf o).drop h).any (λ x=>decide (0 < x))=true then some (Str.ofString "lesser")else
  if ah.any (λ a=>!klt (eS a) (eS (rowOf o)))=true then some (Str.ofString "order")else fU h n (some (rowOf o)) os:=rfl
theorem nW{M:Mem}{Q:br}(q:Q (.bl false) M):ym true .aZ .aZ M Q:=q
theorem vG{ds:List D}{M:Mem}{Q:br}(q:Q (.bl true) M):ym true (.tup ds) .aZ M Q:=q
def SQ:Option Row->D
 |none=>.aZ|some r=>row r
def vq:tG:=λ ds M Q E=>∃(os:List D) (h n:Nat),ds=[.tup os,.int h,.int n]/\(∀o∈os,Od o)/\os.length<=1000/\n<=1000/\(fU h n none os=none->∀M',Ext M M'->Q .aZ M')/\
 ∀w,fU h n none os=some w->∀M',Ext M M'->E 44 [(Str.ofString "heap",.int h),(Str.ofString "word",.str w)] M'
def Cq(zs:List Str):List (D×D):=zs.map λ z=>(D.str z,D.bl true)
theorem vk(zs:List Str)(z:Str):(gp (Cq zs) (.str z)).isSome=decide (z∈zs):=by
 unfold gp Cq
 rw[p0]
 induction zs with
 |nil=>simp
 |cons x xs ih=>
  rw[y0,u3]
  by_cases e:x=z
  ·subst e
   simp
  ·have:¬D.str x=D.str z:=λ q=>e (D.str.inj q)
   simp only[u4 this]
   rw[ih]
   simp[y1,A2 e]
theorem GC{zs:List Str}{z:Str}(h:z∉zs):putD (Cq zs) (.str z) (.bl true)=Cq (zs++[z]):=by
 unfold putD
 rw[vk,A4 (by simp[h])]
 unfold Cq
 rw[w9]
 rfl
def vt:tG:=λ ds M Q E=>∃(z:Str) (h:Nat) (p:Addr) (zs:List Str),ds=[.str z,.int h,.ref p]/\z.length<=1000/\M p=some (.ir false (Cq zs))/\(isName z=true->z∉zs->Q .aZ M)/\
 (isName z=false->E 44 [(Str.ofString "heap",.int h),(Str.ofString "word",.str (Str.ofString "name"))] M)/\(isName z=true->z∈zs->E 44 [(Str.ofString "heap",.int h),(Str.ofString "word",.str (Str.ofString "twice"))] M)
def qG(h:Str×List D):D:=.tup [.str h.1,.tup h.2]
def sk(g:List (Str×List D)):D:=.tup (g.map qG)
def dZ(n:Nat):List Str->Nat->List (Str×List D)->Option (Str×Nat)
 |_,_,[]=>none
 |zs,h,x::g=>if isName x.1=false then some (Str.ofString "name",h)else if x.1∈zs then some (Str.ofString "twice",h)else match fU h n none x.2 with
  |some w=>some (w,h)
  |none=>dZ n (zs++[x.1]) (h+1) g
theorem ic(n:Nat)(zs:List Str)(h:Nat)(x:Str×List D)(g:List (Str×List D)):dZ n zs h (x::g)=if isName x.1=false then some (Str.ofString "name",h)else if x.1∈zs then some (Str.ofString "twice",h)else match fU h n none x.2 with
  |some w=>some (w,h)
  |none=>dZ n (zs++[x.1]) (h+1) g:=rfl
def kh:tG:=λ ds M Q E=>∃(g:List (Str×List D)),ds=[sk g]/\(∀x∈g,x.1.length<=1000/\x.2.length<=1000/\∀o∈x.2,Od o)/\g.length<=1000/\(dZ g.length [] 0 g=none->∀M',Ext M M'->Q (.bl true) M')/\
 ∀w h,dZ g.length [] 0 g=some (w,h)->∀M',Ext M M'->E 44 [(Str.ofString "heap",.int h),(Str.ofString "word",.str w)] M'
theorem Fc{M M':Mem}{p:Addr}{u:MO}(hp:M p=none)(h:Ext M M'):Ext M (aK M' p u):=λ b o e=>by
 rw[aM (λ z=>by subst z;rw[hp]at e;cases e)]
 exact h b o e
section
variable {P:Program}{w:World}{K:PySem.W.Frag}{mg:Str->Option Value}{base:Heap}
theorem xi:aI ["self","word","heap"] ["self","word","heap"] (aj (Ga 2)):=⟨rfl,rfl,rfl,by decide+kernel,rfl,by decide+kernel,by decide+kernel⟩
theorem xH{fd:FuncData}(F:eN K "__init__" "NoGame.__init__" (Ga 2) 41 fd)(T:iq K mg):bh P w K mg base eO 1 41 fd ["self","word","heap"] (Pw 44 [Str.ofString "word",Str.ofString "heap"]):=by
 refine F.ok xi (λ vs H Q E h=>?_) (λ bW A outer s H vs Q E hr h=>?_)
 ·obtain⟨e,t,us,rfl,hl,_⟩:=h
  rw[p8,hl]
  rfl
 ·obtain⟨e,t,us,rfl,hl,he,k⟩:=h
  obtain⟨u,v,rfl⟩:=SX hl
  refine⟨_,lN (vN (An (by rfl) T.jE T.qj (cH (pv 0) (cH (pv 1) (cH (pv 2) gn))))) (lN (FX (pv 0) (pv 1)) (kr (FX (pv 0) (pv 2)))),?_⟩
  refine⟨.ref e,rfl,u,rfl,v,rfl,e,_,_,t,[u,v],rfl,he,T.bU.ec,by simp,λ t1=>?_⟩
  refine⟨u,rfl,.ref e,rfl,e,_,_,t1,rfl,T.bU.ec,T.bU.Qi (by simp),.inl ⟨aS,λ dx hd ne=>?_⟩⟩
  refine⟨v,rfl,.ref e,rfl,e,_,_,t1,rfl,T.bU.ec,T.bU.Qi (by simp),.inr ⟨dx,_,by rw[az ne.symm];exact aS,aS,ne,by simp,?_⟩⟩
  rw[kg]
  have z:=k t1 dx (by rw[az ne]at hd;exact hd) ne
  rw[kg]
  exact z
theorem jq(T:iq K mg):GA P w K mg base 1 "NoGame" 44 [Str.ofString "word",Str.ofString "heap"]:=by
 obtain⟨fd,F⟩:=T.bU.F
 exact⟨T.bU.m,_,fd,_,T.bU.ec,xH F T,F.binds λ _ _ _ _ _ _=>Tv λ _ _ _=>rfl⟩
theorem pC:aI ["name","h","earlier"] ["name","h","earlier"] (aj (top 16)):=⟨rfl,rfl,rfl,by decide+kernel,rfl,by decide+kernel,by decide+kernel⟩
theorem pQ{f:Addr}{fd:FuncData}(F:eN K "look_name" "look_name" (top 16) f fd)(T:iq K mg)(yk:cw P w K mg base 2 "is_name" ["text"] (eP isName)):bh P w K mg base (nI P w) 3 f fd ["name","h","earlier"] (jz K vt):=by
 have eA:=jq (P:=P) (w:=w) (base:=base) T
 refine P' F pC (λ ds M Q E h=>?_) (λ bW A outer s H E ds M Q E2 hr h kx=>?_)
 ·obtain⟨z,h,p,zs,rfl,_⟩:=h
  rfl
 ·obtain⟨z,h,p,zs,rfl,hz,hp,kq,k1,k2⟩:=h
  have KP:bC 2 (A.deeper (PyProof.Rows.envOfC "look_name" (aj (top 16)) s.heap.objs.size f bW)):=hr.mono (by decide)
  refine⟨_,(af (bw (k_ (fz (cO (aQ yk (hr.mono (by decide)) (by rfl) (aa (ax 0) ae)))))
 (ai (f_ fj kx rfl (by rfl) eA KP (aa (cL bx) (aa (cL (ax 1)) ae))))
 aL)
 (ai (bw (k_ (aV (Mo hr.units) (ax 0) (ax 2) rfl))
 (ai (f_ fj kx rfl (by rfl) eA KP (aa (cL bx) (aa (cL (ax 1)) ae))))
 aL))),?_⟩
  walk_at "rx"
  refine⟨z,rfl,hz,?_⟩
  cases e:isName z with
  |false=>
   dsimp only
   rw[A3 (show(!false)=true from rfl)]
   refine gj ?_
   walk_at "rx"
   exact⟨rfl,by decide,k1 e⟩
  |true=>
   walk_at "rx"
   refine HH hp ⟨.inr z,rfl⟩ ?_
   rw[vk]
   refine bz (λ jH=>?_) (λ jH=>?_)
   ·refine gj ?_
    walk_at "rx"
    exact⟨rfl,by decide,k2 e jH⟩
   ·walk_at "rx"
    exact ao (kq e jH)
theorem cD:aI ["options","h","size","ahead","option"] ["options","h","size"] (aj (top 17)):=⟨rfl,rfl,rfl,by decide+kernel,rfl,by decide+kernel,by decide+kernel⟩
theorem jT{f:Addr}{fd:FuncData}(F:eN K "look_options" "look_options" (top 17) f fd)(T:iq K mg)(BQ:cw P w K mg base 2 "is_sum" ["value","size"] vw)(jK:cw P w K mg base 1 "order_key" ["counts"] zc):bh P w K mg base (nI P w) 3 f fd ["options","h","size"] (jz K vq):=by
 have eA:=jq (P:=P) (w:=w) (base:=base) T
 refine P' F cD (λ ds M Q E h=>?_) (λ bW A outer s H E ds M Q E2 hr h kx=>?_)
 ·obtain⟨os,h,n,rfl,_⟩:=h
  rfl
 ·obtain⟨os,h,n,rfl,Q1,QU,hn,kq,ke⟩:=h
  have KP:bC 2 (A.deeper (PyProof.Rows.envOfC "look_options" (aj (top 17)) s.heap.objs.size f bW)):=hr.mono (by decide)
  refine⟨_,(af (aP (i:=3) cD.nd rfl (Or.inl rfl) (cL lb))
 (ai (f' sR rfl (du (ax 0)) (cz (i:=4) cD.nd rfl (Or.inl rfl))
 (af (bw (k_ (fz (cO (aQ BQ (hr.mono (by decide)) (by rfl) (aa (ax 4) (aa (ax 2) ae))))))
 (ai (f_ fj kx rfl (by rfl) eA KP (aa (cL bx) (aa (cL (ax 1)) ae))))
 aL)
 (af (bw (k_ (cO (hX (NZ rfl) CA (by rfl) T.any (by decide+kernel) (tgs:=["many"]) (fr:=[]) ⟨cv (by kernel_rfl),rfl,(λ _ _ h=>h),(du (bg cC (ax 4) (bb (ax 1)) bc)),(bj (λ _ _ _ _ _=>(bG (i:=0) (show(["many"]:List Str).Nodup by decide+kernel) rfl (Or.inl rfl))) (by decide)),(λ _ _ _ _ _=>bP),(λ _ _ _ _ _=>(eX xJ (ax 0) ak (aR _)))⟩)))
 (ai (f_ fj kx rfl (by rfl) eA KP (aa (cL bx) (aa (cL (ax 1)) ae))))
 aL)
 (af (bw (k_ (kZ (aV Ax (ax 3) lb (aR _)) (iy (aV (Mm hr.units) (aQ jK (hr.mono (by decide)) (by rfl) (aa (ax 4) ae)) (aQ jK (hr.mono (by decide)) (by rfl) (aa (ax 3) ae)) (aR _)))).pt)
 (ai (f_ fj kx rfl (by rfl) eA KP (aa (cL bx) (aa (cL (ax 1)) ae))))
 aL)
 (ai (aP (i:=3) cD.nd rfl (Or.inl rfl) (cL (ax 4)))))))))),?_⟩
  walk_at "rx"
  refine gw (λ i δ M'=>∃(ah:Option Row) (v4:Option D),δ=[some (.tup os),some (.int h),some (.int n),some (SQ ah),v4]/\Ext M M'/\(∀r,ah=some r->r.length=n)/\fU h n none os=fU h n ah (os.drop i)) ⟨none,none,rfl,λ b o e=>e,(λ r z=>by cases z),rfl⟩ (λ i d δ M' hd h2=>?_) (λ δ M' h2=>?_)
  ·obtain⟨ah,v4,rfl,hE,MG,eF⟩:=h2
   obtain⟨hi,ed⟩:=g9.mp hd
   rw[g8 hi,ed]at eF
   have hO:=Q1 d (k4 hd)
   walk_at "rx"
   refine⟨d,n,rfl,hO,?_⟩
   rw[gH]at eF
   cases es:cj d n with
   |false=>
    rw[A3 es]at eF
    dsimp only
    rw[A3 (show(!false)=true from rfl)]
    refine gj ?_
    walk_at "rx"
    exact⟨rfl,by decide,ke _ eF M' hE⟩
   |true=>
    rw[A4 (by rw[es];decide)]at eF
    obtain⟨Ke,el,ep⟩:=oq es
    generalize rowOf d=r at*
    subst Ke
    unfold row
    walk_at "rx"
    refine cm (by omega) ?_
    rw[n5,<- map_drop]
    walk_at "rx"
    refine kN (xs:=r.drop h) (enc:=D.int) (λ x=>.bl (decide (0 < x))) (by rw[p9];omega) (λ j x N hj hN=>?_) ?_
    ·walk_at "rx"
     exact hN
    ·refine Dt ?_
     cases Nr:(r.drop h).any λ x=>decide (0 < x)with
     |true=>
      rw[A3 Nr]at eF
      dsimp only
      rw[A3 rfl]
      refine gj ?_
      walk_at "rx"
      exact⟨rfl,by decide,ke _ eF M' hE⟩
     |false=>
      rw[A4 (by rw[Nr];decide)]at eF
      cases ah with
      |none=>
       rw[A4 (λ z=>by cases z)]at eF
       walk_at "rx"
       refine nW ?_
       walk_at "rx"
       exact⟨some r,_,rfl,hE,(λ q e=>by cases e;exact el),eF⟩
      |some a=>
       have UG:=MG a rfl
       walk_at "rx"
       refine vG ?_
       walk_at "rx"
       refine⟨r,rfl,by omega,λ m hm=>?_⟩
       walk_at "rx"
       refine⟨a,rfl,by omega,λ m2 gS=>?_⟩
       have UN:=rG hE hm (.lst ((r.map λ a=>0 - a).map D.int))
       have BC:=rG UN gS (.lst ((a.map λ a=>0 - a).map D.int))
       have T_:m≠m2:=λ z=>by subst z;rw[ay]at gS;cases gS
       refine Df (by rw[aM T_];exact ay) ay ?_
       have ek:Option.any (λ a=>!klt (eS a) (eS r)) (some a)=!klt (eS a) (eS r):=rfl
       rw[ek]at eF
       show if(!klt (eS a) (eS r))=true then _ else _
       cases Nq:klt (eS a) (eS r)with
       |false=>
        rw[A3 (by rw[Nq];rfl)]at eF
        rw[A3 (show(!false)=true from rfl)]
        refine gj ?_
        walk_at "rx"
        exact⟨rfl,by decide,ke _ eF _ BC⟩
       |true=>
        rw[A4 (by rw[Nq];decide)]at eF
        walk_at "rx"
        exact⟨some r,_,rfl,BC,(λ q e=>by cases e;exact el),eF⟩
  ·obtain⟨ah,v4,rfl,hE,MG,eF⟩:=h2
   rw[drop_length]at eF
   walk_at "rx"
   exact ao (kq eF M' hE)
theorem dF:aI ["game","earlier","h","heap"] ["game"] (aj (top 18)):=⟨rfl,rfl,rfl,by decide+kernel,rfl,by decide+kernel,by decide+kernel⟩
theorem pR{f:Addr}{fd:FuncData}(F:eN K "look_game" "look_game" (top 18) f fd)(T:iq K mg)(sN:iZ P w K mg base 3 "look_name" ["name","h","earlier"] vt)(mE:iZ P w K mg base 3 "look_options" ["options","h","size"] vq):bh P w K mg base (nI P w) 4 f fd ["game"] (jz K kh):=by
 have eA:=jq (P:=P) (w:=w) (base:=base) T
 refine P' F dF (λ ds M Q E h=>?_) (λ bW A outer s H E ds M Q E2 hr h kx=>?_)
 ·obtain⟨g,rfl,_⟩:=h
  rfl
 ·obtain⟨g,rfl,hg,Bv,kq,ke⟩:=h
  refine⟨_,(af (aP (i:=1) dF.nd rfl (Or.inl rfl) (cL (GI false)))
 (af (f' sR rfl (Cw rfl T.enumerate (aa (ax 0) ae)) (tQ (n:=2) rfl (eW (cz (i:=2) dF.nd rfl (Or.inl rfl)) (eW (cz (i:=3) dF.nd rfl (Or.inl rfl)) o_)))
 (af (kf (tT sS kx sN (hr.mono (by decide)) (by rfl) (aa (cL (cf (yQ hr.units) (ax 3) ak (λ _ _=>rfl))) (aa (cL (ax 2)) (aa (cL (ax 1)) ae)))))
 (af (kf (tT sS kx mE (hr.mono (by decide)) (by rfl) (aa (cL (cf (yQ hr.units) (ax 3) ak (λ _ _=>rfl))) (aa (cL (ax 2)) (aa (cL (aE Kp (by rfl) T.len (by decide+kernel) (aa (ax 0) ae))) ae)))))
 (ai (fA jR (hW (ax 1) (cf (yQ hr.units) (ax 3) ak (λ _ _=>rfl)) (G4 hr.units)))))))
 (ai (aG (cL jR))))),?_⟩
  unfold sk
  walk_at "rx"
  intro p hp
  have e0:Ext M (aK M p (.ir false [])):=rG (λ b o e=>e) hp _
  have Nj:aK M p (.ir false []) p=some (.ir false (Cq [])):=ay
  generalize aK M p (.ir false [])=M0 at*
  walk_at "rx"
  refine gw (ds:=fh (g.map qG)) (λ i δ M'=>∃(v2 v3:Option D) (zs:List Str),δ=[some (sk g),some (.ref p),v2,v3]/\M' p=some (.ir false (Cq zs))/\zs.length=i/\Ext M M'/\dZ g.length [] 0 g=dZ g.length zs i (g.drop i)) ⟨none,none,[],rfl,Nj,rfl,e0,rfl⟩ (λ i d δ M' hd h2=>?_) (λ δ M' h2=>?_)
  ·obtain⟨v2,v3,zs,rfl,QQ,Qs,hE,eF⟩:=h2
   rw[sA,n0,getElem?_zipIdx]at hd
   cases e3:g[i]? with
   |none=>rw[e3]at hd;cases hd
   |some x=>
    rw[e3]at hd
    cases hd
    obtain⟨hi,ex⟩:=g9.mp e3
    rw[g8 hi,ex]at eF
    obtain⟨z,os⟩:=x
    obtain⟨h1,h2,h3⟩:=hg _ (k4 e3)
    rw[ic]at eF
    dsimp only
    unfold qG
    walk_at "rx"
    refine pK ?_
    walk_at "rx"
    rw[Nat.zero_add]
    refine⟨z,i,p,zs,rfl,h1,QQ,λ hn hz=>?_,λ hn=>?_,λ hn hz=>?_⟩
    ·rw[A4 (by rw[hn];decide),A4 hz]at eF
     walk_at "rx"
     refine pK ?_
     walk_at "rx"
     refine zA ?_
     unfold sk
     walk_at "rx"
     rw[w5]
     refine⟨os,i,g.length,rfl,h3,h2,Bv,λ ho M2 BC=>?_,λ w ho M2 BC=>?_⟩
     ·rw[ho]at eF
      walk_at "rx"
      refine pK ?_
      walk_at "rx"
      refine CY (BC _ _ QQ) ⟨.inr z,rfl⟩ (by unfold Cq;rw[w5];exact m6 (show _<=1000 by omega) (by decide)) ?_
      rw[GC hz]
      walk_at "rx"
      exact⟨_,_,zs++[z],rfl,ay,by simp[Qs],Fc hp (λ b o e=>BC _ _ (hE _ _ e)),eF⟩
     ·rw[ho]at eF
      exact ke _ _ eF M2 λ b o e=>BC _ _ (hE _ _ e)
    ·rw[A3 hn]at eF
     exact ke _ _ eF M' hE
    ·rw[A4 (by rw[hn];decide),A3 hz]at eF
     exact ke _ _ eF M' hE
  ·obtain⟨v2,v3,zs,rfl,QQ,Qs,hE,eF⟩:=h2
   have el:(fh (g.map qG)).length=g.length:=by rw[sA,w5,length_zipIdx]
   rw[el,drop_length]at eF
   walk_at "rx"
   exact ao (kq eF M' hE)
end
def Ej(e:D):Prop:=e=.aZ\/∃i,e=.int i
def Tj(B:Nat)(d:D):Prop:=∃ds,d=.tup ds/\ds.length<=B/\∀e∈ds,Ej e
def Oj(B:Nat)(d:D):Prop:=d=.str (Str.ofString "a")\/Tj B d
theorem Tj.mono {B B':Nat}{d:D}(h:Tj B d)(hB:B<=B'):Tj B' d:=let⟨ds,a,b,c⟩:=h;⟨ds,a,y8 b hB,c⟩
theorem Oj.mono {B B':Nat}{d:D}(h:Oj B d)(hB:B<=B'):Oj B' d:=h.imp id λ z=>z.mono hB
theorem Fq{ds:List D}{lo hi:Option Int}{e:D}(h:e∈cutD ds lo hi):e∈ds:=mem_of_mem_drop (mem_of_mem_take h)
theorem Fp(ds:List D)(lo hi:Option Int):(cutD ds lo hi).length<=ds.length:=by
 unfold cutD
 rw[r6,p9]
 omega
theorem zq(n:Nat){r:Row}(h:r.length<=n):Tj n (row r):=⟨_,rfl,by rw[w5];exact h,λ e he=>by
 obtain⟨x,_,rfl⟩:=y6.mp he
 exact .inr ⟨x,rfl⟩⟩
theorem Av{B:Nat}{os:List D}{a b:Nat}{x:D}(h:∀o∈os,Tj B o)(hx:Oj (B+1) x):∀o∈(os.take a++[x])++os.drop b,Oj (B+1) o:=λ o ho=>by
 rcases w6.mp ho with z|z
 ·rcases w6.mp z with z|z
  ·exact .inr ((h o (mem_of_mem_take z)).mono (by omega))
  ·rw[m8.mp z];exact hx
 ·exact .inr ((h o (mem_of_mem_drop z)).mono (by omega))
def FR:gV:=λ ds M Q=>∃(a c:Addr) (os:List D) (n B:Nat),ds=[.ref a,.tup os,.int n]/\Flow M a c/\1<=n/\n<=12/\n<=B/\B<=100/\os.length<=100/\(∀o∈os,Tj B o)/\∀(ur:List D) (M':Mem),ur.length<=os.length+1->(∀o∈ur,Oj (B+1) o)->Fl a c M M'->Q (.tup ur) M'
section
variable {P:Program}{w:World}{K:PySem.W.Frag}{mg:Str->Option Value}{base:Heap}
theorem aW:aI ["_law_flow_here","_law_options","_law_many","_law_form","_law_at","_law_one","_law_menu","_law_heaps"] ["_law_flow_here","_law_options","_law_many"] (aj (top 32)):=⟨rfl,rfl,rfl,by decide+kernel,rfl,by decide+kernel,by decide+kernel⟩
theorem Au{f:Addr}{fd:FuncData}(F:eN K "_law_changed_options" "_law_changed_options" (top 32) f fd)(T:iq K mg)(aD:cw P w K mg base 1 "_law_pick" ["_law_flow_here","_law_many"] h_)(fJ:cw P w K mg base 1 "_law_counts" ["_law_heaps","_law_many"] lB):bh P w K mg base eO 2 f fd ["_law_flow_here","_law_options","_law_many"] (cA K FR):=by
 refine jW F aW (λ ds M Q h=>?_) (λ bW A outer s H E ds M Q hr h=>?_)
 ·obtain⟨a,cc,os,n,B,rfl,_⟩:=h
  rfl
 ·obtain⟨a,cc,os,n,B,rfl,hF,Ci,hn,Wj,hB,QU,dJ,k⟩:=h
  refine⟨_,(af (aP (i:=3) aW.nd rfl (Or.inl rfl) (aQ aD (hr.mono (by decide)) (by rfl) (aa (ax 0) (aa ak ae))))
 (af (aP (i:=4) aW.nd rfl (Or.inl rfl) (aQ aD (hr.mono (by decide)) (by rfl) (aa (ax 0) (aa (bu aX (aE c_ (by rfl) T.len (by decide+kernel) (aa (ax 1) ae)) ak) ae))))
 (af (bw (aV Ji (ax 3) ak (aR _))
 (af (la (i:=7) aW.nd rfl (Or.inl rfl) (tgs:=["_law_k"]) (fr:=[0,2]) ⟨cv (by kernel_rfl),rfl,(λ _ _ h=>h),(bR rfl T.range (aa (aQ aD (hr.mono (by decide)) (by rfl) (aa (ax 0) (aa ak ae))) ae)),(bj (λ _ _ _ _ _=>(bG (i:=0) (show(["_law_k","_law_flow_here","_law_many"]:List Str).Nodup by decide+kernel) rfl (Or.inl rfl))) (by decide)),(λ _ _ _ _ _=>bP),(λ _ _ _ _ _=>(aQ aD (hr.mono (by decide)) (by rfl) (aa (ax 1) (aa (ax 2) ae))))⟩)
 (ai (aG (bu aX (bu aX (bg cC (ax 1) bc (bb (ax 4))) (cP (aa (aQ fJ (hr.mono (by decide)) (by rfl) (aa (ax 7) (aa (ax 2) ae))) ae))) (bg cC (ax 1) (bb (ax 4)) bc)))))
 aL)
 (af (bw (aV (gZ hr.units) (ax 4) (aE c_ (by rfl) T.len (by decide+kernel) (aa (ax 1) ae)) (aR _))
 (ai (aG (bu aX (ax 1) (bg cC (ax 1) bc (bb ak)))))
 aL)
 (af (bw (aV (gZ hr.units) (ax 3) ak (aR _))
 (ai (aG (bu aX (bg cC (ax 1) bc (bb (ax 4))) (bg cC (ax 1) (bb (bu aX (ax 4) ak)) bc))))
 aL)
 (af (bw (aV (gZ hr.units) (ax 3) ak (aR _))
 (ai (aG (bu aX (bg cC (ax 1) bc (bb (ax 4))) (w_rev (bg cC (ax 1) (bb (ax 4)) bc) (pe iA ak)))))
 aL)
 (af (aP (i:=5) aW.nd rfl (Or.inl rfl) (cf bN (ax 1) (ax 4) (λ _ _=>rfl)))
 (af (aP (i:=6) aW.nd rfl (Or.inl rfl) (gX (aa (bu aX (ax 5) (cP (aa ak ae))) (aa (bg cC (ax 5) (bb ak) bc) (aa (bu aX (bg cC (ax 5) bc (bb (pe iA ak))) (cP (aa (pe iA ak) ae))) (aa (bu aX (cP (aa lb ae)) (bg cC (ax 5) (bb ak) bc)) (aa (ax 5) (aa bx (aa (bu aX (bg cC (ax 5) bc (bb (pe iA ak))) (cP (aa ak ae))) ae)))))))))
 (ai (aG (bu aX (bu aX (bg cC (ax 1) bc (bb (ax 4))) (cP (aa (cf bN (ax 6) (aQ aD (hr.mono (by decide)) (by rfl) (aa (ax 0) (aa ak ae))) (λ _ _=>rfl)) ae))) (bg cC (ax 1) (bb (bu aX (ax 4) ak)) bc)))))))))))),?_⟩
  walk_at "rx"
  refine⟨a,cc,6,rfl,hF,by decide,by decide,λ d0 o0 h0 h1 BB=>?_⟩
  have F1:Fl a cc M _:=Fl.pick BB
  generalize aK M a o0=M1 at*
  walk_at "rx"
  refine⟨a,cc,(os.length:Int)+1,rfl,F1.cq,by omega,by omega,λ d1 o1 h2 h3 E4=>?_⟩
  have F2:=F1.trans (Fl.pick E4)
  generalize aK M1 a o1=M2 at*
  obtain⟨at',rfl⟩:∃m:Nat,d1=(m:Int):=⟨d1.toNat,by omega⟩
  walk_at "rx"
  refine bz (λ e1=>?_) (λ e1=>?_)
  ·walk_at "rx"
   refine⟨a,cc,4,rfl,F2.cq,by decide,by decide,λ d2 o2 h4 h5 BA=>?_⟩
   have F3:=F2.trans (Fl.pick BA)
   generalize aK M2 a o2=M3 at*
   walk_at "rx"
   refine⟨cS (by omega) (by omega),?_⟩
   refine qt (xs:=List.range d2.toNat) (enc:=Ln) D.int (λ ns M'=>Fl a cc M M'/\∀x∈ns,0<=x/\x < (n:Int)) (by simp;omega) ⟨F3,λ x h=>by cases h⟩ (λ jj x ys M' N hx hy h hN=>?_) (λ ns M' hl h=>?_)
   ·obtain⟨F4,h6⟩:=h
    walk_at "rx"
    refine⟨a,cc,n,rfl,F4.cq,by omega,by omega,λ d3 o3 h7 h8 Cn=>hN _ _ ⟨F4.trans (Fl.pick Cn),λ x hx=>?_⟩⟩
    rcases w6.mp hx with q|q
    ·exact h6 x q
    ·have:x=d3:=by simpa using q
     omega
   ·obtain⟨F4,h6⟩:=h
    rw[o9]at hl
    intro p2 oB
    have F5:=F4.trans (Fl.put (o:=.lst (ns.map D.int)) F4.cq oB)
    walk_at "rx"
    refine dX (by omega) ?_
    walk_at "rx"
    refine⟨p2,ns,n,rfl,ay,by omega,?_⟩
    walk_at "rx"
    rw[n5]
    refine bS (small (by rw[r6,j5];omega)) ?_
    walk_at "rx"
    refine cm (by omega) ?_
    rw[n5]
    refine bS (small (by rw[l8,r6,p9,j5];omega)) ?_
    refine ao (k _ _ ?_ (Av dJ (.inr ((zq n (Nat.le_of_eq (sZ ns n))).mono (by omega)))) F5)
    rw[l8,l8,r6,p9,j5]
    omega
  ·walk_at "rx"
   refine bz (λ e2=>?_) (λ e2=>?_)
   ·walk_at "rx"
    refine dX (by decide) ?_
    refine bS (small (by rw[r6];omega)) ?_
    refine ao (k _ _ (by rw[l8,r6];show _+min 1 _<=_;omega) (λ o ho=>?_) F2)
    rcases w6.mp ho with z|z
    ·exact .inr ((dJ o z).mono (by omega))
    ·exact .inr ((dJ o (mem_of_mem_take z)).mono (by omega))
   ·have OZ:at' < os.length:=by omega
    walk_at "rx"
    refine bz (λ e3=>?_) (λ e3=>?_)
    ·walk_at "rx"
     refine dX (by omega) ?_
     walk_at "rx"
     refine cm (by omega) ?_
     refine bS (small (by rw[r6,p9];omega)) ?_
     refine ao (k _ _ (by rw[l8,r6,p9];omega) (λ o ho=>?_) F2)
     rcases w6.mp ho with z|z
     ·exact .inr ((dJ o (mem_of_mem_take z)).mono (by omega))
     ·exact .inr ((dJ o (mem_of_mem_drop z)).mono (by omega))
    ·walk_at "rx"
     refine bz (λ e4=>?_) (λ e4=>?_)
     ·walk_at "rx"
      refine dX (by omega) ?_
      walk_at "rx"
      refine cm (by omega) ?_
      walk_at "rx"
      refine⟨rfl,?_⟩
      refine bS (small (by rw[r6,length_reverse,p9];omega)) ?_
      refine ao (k _ _ (by rw[l8,r6,length_reverse,p9];omega) (λ o ho=>?_) F2)
      rcases w6.mp ho with z|z
      ·exact .inr ((dJ o (mem_of_mem_take z)).mono (by omega))
      ·exact .inr ((dJ o (mem_of_mem_drop (mem_reverse.mp z))).mono (by omega))
     ·walk_at "rx"
      obtain⟨ds,eo,Uw,KS⟩:=dJ _ (getElem_mem OZ)
      refine gm (d:=.tup ds) (cI (by rw[i4 OZ,eo])) ?_
      have c1:=Fp ds none (some (-1))
      have sz:∀(l m:List D),l.length<=101->m.length<=101->l.length+m.length<=sizeLine:=λ l m a b=>small (by omega)
      walk_at "rx"
      refine bS (sz _ _ (by omega) (by show 1<=101;decide)) ?_
      walk_at "rx"
      refine cm (by decide) ?_
      walk_at "rx"
      refine vE ?_
      walk_at "rx"
      refine bS (sz _ _ (by omega) (by show 1<=101;decide)) ?_
      walk_at "rx"
      refine cm (by decide) ?_
      refine bS (sz _ _ (by show 1<=101;decide) (by rw[p9];omega)) ?_
      walk_at "rx"
      refine vE ?_
      walk_at "rx"
      refine bS (sz _ _ (by omega) (by show 1<=101;decide)) ?_
      walk_at "rx"
      intro p hp
      walk_at "rx"
      refine dX (by omega) ?_
      walk_at "rx"
      have F3:=F2.trans (Fl.put (o:=.lst [.tup (ds++[.int 0]),.tup (ds.drop (1:Int).toNat),.tup (cutD ds none (some (-1))++[.int (-1)]),.tup ([.aZ]++ds.drop (1:Int).toNat),.tup ds,.str (Str.ofString "a"),.tup (cutD ds none (some (-1))++[.int 3])]) F2.cq hp)
      refine⟨a,cc,7,rfl,F3.cq,by decide,by decide,λ d4 o4 h6 h7 J9=>?_⟩
      have Bl:=(F2.cq.ne hp).1
      have F4:=F3.trans (Fl.pick J9)
      obtain⟨y,hy⟩:=mO (xs:=[D.tup (ds++[.int 0]),.tup (ds.drop (1:Int).toNat),.tup (cutD ds none (some (-1))++[.int (-1)]),.tup ([.aZ]++ds.drop (1:Int).toNat),.tup ds,.str (Str.ofString "a"),.tup (cutD ds none (some (-1))++[.int 3])]) h6 (by show d4 < 7;exact h7)
      have tj:∀(l m:List D),l.length+m.length<=B+1->(∀e∈l,Ej e)->(∀e∈m,Ej e)->Oj (B+1) (.tup (l++m)):=λ l m a b c=>.inr ⟨_,rfl,by rw[l8];exact a,λ e he=>(w6.mp he).elim (b e) (c e)⟩
      have i1:∀i:Int,∀e∈[D.int i],Ej e:=λ i e he=>by rw[m8.mp he];exact .inr ⟨i,rfl⟩
      have dr:∀e∈ds.drop (1:Int).toNat,Ej e:=λ e he=>KS e (mem_of_mem_drop he)
      have cu:∀e∈cutD ds none (some (-1)),Ej e:=λ e he=>KS e (Fq he)
      have dl:(ds.drop (1:Int).toNat).length<=ds.length:=by rw[p9];omega
      have TL:Oj (B+1) y:=by
       have hm:=qy hy
       simp only[y1,not_mem_nil,or_false]at hm
       rcases hm with rfl|rfl|rfl|rfl|rfl|rfl|rfl
       ·exact tj _ _ (by show ds.length+1<=_;omega) KS (i1 0)
       ·exact .inr ⟨_,rfl,by omega,dr⟩
       ·exact tj _ _ (by show _+1<=_;omega) cu (i1 _)
       ·exact tj [.aZ] _ (by show 1+_<=_;omega) (λ e he=>by rw[m8.mp he];exact .inl rfl) dr
       ·exact .inr ⟨_,rfl,by omega,KS⟩
       ·exact .inl rfl
       ·exact tj _ _ (by show _+1<=_;omega) cu (i1 _)
      refine eQ (by rw[aM Bl];exact ay) hy ?_
      walk_at "rx"
      refine bS (small (by rw[r6,j5];omega)) ?_
      walk_at "rx"
      refine cm (by omega) ?_
      refine bS (small (by rw[l8,r6,p9,j5];omega)) ?_
      refine ao (k _ _ ?_ (Av dJ TL) F4)
      rw[l8,l8,r6,p9,j5]
      omega
end
structure Gj(n j:Nat)(g:List (Str×List D)):Prop where
 len:g.length=n
 nm:∀x∈g,x.1.length<=10
 qH:∀x∈g,x.2.length<=12+j
 opt:∀x∈g,∀o∈x.2,Oj (n+j) o
def isTup:D->Bool
 | .tup _=>true|_=>false
def Lj:gV:=λ ds M Q=>∃(a c:Addr) (n j:Nat) (g:List (Str×List D)),ds=[.ref a,sk g]/\Flow M a c/\1<=n/\n<=8/\j<=20/\Gj n j g/\∀(g':List (Str×List D)) (M':Mem),Gj n (j+1) g'->Fl a c M M'->Q (sk g') M'
theorem Ka{n j h:Nat}{g:List (Str×List D)}{z:Str}{os:List D}(G:Gj n j g)(hh:h < n)(hz:z.length<=10)(ho:os.length<=12+(j+1))(hj:∀o∈os,Oj (n+(j+1)) o):Gj n (j+1) ((g.take h++[(z,os)])++g.drop (h+1)):=by
 have hl:=G.len
 have mem:∀x∈(g.take h++[(z,os)])++g.drop (h+1),x∈g\/x=(z,os):=λ x hx=>by
  rcases w6.mp hx with q|q
  ·rcases w6.mp q with q|q
   ·exact .inl (mem_of_mem_take q)
   ·exact .inr (m8.mp q)
  ·exact .inl (mem_of_mem_drop q)
 refine⟨?_,λ x hx=>?_,λ x hx=>?_,λ x hx o Sb=>?_⟩
 ·rw[l8,l8,r6,p9,j5];omega
 ·rcases mem x hx with q|rfl
  ·exact G.nm x q
  ·exact hz
 ·rcases mem x hx with q|rfl
  ·have:=G.qH x q;omega
  ·exact ho
 ·rcases mem x hx with q|rfl
  ·exact(G.opt x q o Sb).mono (by omega)
  ·exact hj o Sb
section
variable {P:Program}{w:World}{K:PySem.W.Frag}{mg:Str->Option Value}{base:Heap}
theorem bo:aI ["_law_flow_here","_law_game","_law_h","_law_form","_law_name_here","_law_options","_law_menu"] ["_law_flow_here","_law_game"] (aj (top 33)):=⟨rfl,rfl,rfl,by decide+kernel,rfl,by decide+kernel,by decide+kernel⟩
theorem uA{f:Addr}{fd:FuncData}(F:eN K "_law_changed" "_law_changed" (top 33) f fd)(T:iq K mg)(aD:cw P w K mg base 1 "_law_pick" ["_law_flow_here","_law_many"] h_)(fW:cw P w K mg base 2 "_law_changed_options" ["_law_flow_here","_law_options","_law_many"] FR):bh P w K mg base eO 3 f fd ["_law_flow_here","_law_game"] (cA K Lj):=by
 refine jW F bo (λ ds M Q h=>?_) (λ bW A outer s H E ds M Q hr h=>?_)
 ·obtain⟨a,cc,n,j,g,rfl,_⟩:=h
  rfl
 ·obtain⟨a,cc,n,j,g,rfl,hF,Ci,hn,hj,G,k⟩:=h
  have Bv:=G.len
  have Cj:sk g=.tup (g.map qG):=rfl
  refine⟨_,(af (aP (i:=2) bo.nd rfl (Or.inl rfl) (aQ aD (hr.mono (by decide)) (by rfl) (aa (ax 0) (aa (aE c_ (by rfl) T.len (by decide+kernel) (aa (ax 1) ae)) ae))))
 (af (fA (cf bN (ax 1) (ax 2) (λ _ _=>rfl)) (tQ (n:=2) rfl (eW (cz (i:=4) bo.nd rfl (Or.inl rfl)) (eW (cz (i:=5) bo.nd rfl (Or.inl rfl)) o_))))
 (af (aP (i:=3) bo.nd rfl (Or.inl rfl) (aQ aD (hr.mono (by decide)) (by rfl) (aa (ax 0) (aa ak ae))))
 (af (bw (aV (gZ hr.units) (ax 3) ak (aR _))
 (af (aP (i:=6) bo.nd rfl (Or.inl rfl) (gX (aa bx (aa bx (aa bx (aa bx (aa bx (aa bx (aa bx (aa (cf bN (cf bN (ax 1) (aQ aD (hr.mono (by decide)) (by rfl) (aa (ax 0) (aa (aE c_ (by rfl) T.len (by decide+kernel) (aa (ax 1) ae)) ae))) (λ _ _=>rfl)) ak (λ _ _=>rfl)) ae))))))))))
 (ai (aP (i:=4) bo.nd rfl (Or.inl rfl) (cf bN (ax 6) (aQ aD (hr.mono (by decide)) (by rfl) (aa (ax 0) (aa ak ae))) (λ _ _=>rfl)))))
 aL)
 (af (bw (kZ (aV xJ (ax 3) ak (aR _)) (iy (cO (hX (oP rfl) gE (by rfl) T.all (by decide+kernel) (tgs:=["_law_option"]) (fr:=[]) ⟨cv (by kernel_rfl),rfl,(λ _ _ h=>h),(du (ax 5)),(bj (λ _ _ _ _ _=>(bG (i:=0) (show(["_law_option"]:List Str).Nodup by decide+kernel) rfl (Or.inl rfl))) (by decide)),(λ _ _ _ _ _=>bP),(λ _ _ _ _ _=>(aE (cV (by exact T.iM)) (by rfl) (by exact T.isinstance) (by decide+kernel) (aa (ax 0) (aa (fB (n:="tuple") (by rfl) (by exact T.tuple) (by decide+kernel)) ae))))⟩)))).pt
 (ai (aP (i:=5) bo.nd rfl (Or.inl rfl) (aQ fW (hr.mono (by decide)) (by rfl) (aa (ax 0) (aa (ax 5) (aa (aE c_ (by rfl) T.len (by decide+kernel) (aa (ax 1) ae)) ae))))))
 aL)
 (ai (aG (bu aX (bu aX (bg cC (ax 1) bc (bb (ax 2))) (cP (aa (cP (aa (ax 4) (aa (ax 5) ae))) ae))) (bg cC (ax 1) (bb (bu aX (ax 2) ak)) bc))))))))),?_⟩
  rw[Cj]
  walk_at "rx"
  rw[w5,Bv]
  refine⟨a,cc,n,rfl,hF,by omega,by omega,λ d0 o0 h0 h1 BB=>?_⟩
  have F1:Fl a cc M _:=Fl.pick BB
  generalize aK M a o0=M1 at*
  obtain⟨h,rfl⟩:∃m:Nat,d0=(m:Int):=⟨d0.toNat,by omega⟩
  have hh:h < g.length:=by omega
  obtain⟨x,hx⟩:∃x,g[h]?=some x:=⟨_,i4 hh⟩
  have JL:=k4 hx
  walk_at "rx"
  refine gm (d:=qG x) (cI (by rw[n0,hx];rfl)) ?_
  obtain⟨z,os⟩:=x
  unfold qG
  walk_at "rx"
  refine⟨a,cc,4,rfl,F1.cq,by decide,by decide,λ d1 o1 h2 h3 E4=>?_⟩
  have F2:=F1.trans (Fl.pick E4)
  generalize aK M1 a o1=M2 at*
  walk_at "rd1"
  with_reducible refine ib (λ δ' M'=>∃(z:Str) (v6:Option D),δ'=[some (.ref a),some (sk g),some (.int h),some (.int d1),some (.str z),some (.tup os),v6]/\z.length<=10/\Fl a cc M M') (λ N hN=>?_) ?_
  ·walk_at "rx"
   refine bz (λ e1=>?_) (λ e1=>?_)
   ·walk_at "rx"
    rw[w5,Bv]
    refine⟨a,cc,n,rfl,F2.cq,by omega,by omega,λ d2 o2 h4 h5 BA=>?_⟩
    have F3:=F2.trans (Fl.pick BA)
    generalize aK M2 a o2=M3 at*
    obtain⟨m,rfl⟩:∃m:Nat,d2=(m:Int):=⟨d2.toNat,by omega⟩
    have hm:m < g.length:=by omega
    obtain⟨y,hy⟩:∃x,g[m]?=some x:=⟨_,i4 hm⟩
    have Qy:=G.nm y (k4 hy)
    refine gm (d:=qG y) (cI (by rw[n0,hy];rfl)) ?_
    obtain⟨zy,oy⟩:=y
    unfold qG
    walk_at "rx"
    intro p hp
    have F4:=F3.trans (Fl.put (o:=.lst ([Str.ofString "",Str.ofString "to",Str.ofString "a1",Str.ofString "a",Str.ofString "abcdef",Str.ofString "A",Str.ofString "heap",zy].map D.str)) F3.cq hp)
    have Bl:=(F3.cq.ne hp).1
    walk_at "rx"
    refine⟨a,cc,8,rfl,F4.cq,by decide,by decide,λ d3 o3 h6 h7 Cn=>?_⟩
    obtain⟨u,hu,TY⟩:=mM (zs:=[Str.ofString "",Str.ofString "to",Str.ofString "a1",Str.ofString "a",Str.ofString "abcdef",Str.ofString "A",Str.ofString "heap",zy]) h6 (by show d3 < 8;exact h7)
    have TX:u.length<=10:=by
     have all:∀y∈[Str.ofString "",Str.ofString "to",Str.ofString "a1",Str.ofString "a",Str.ofString "abcdef",Str.ofString "A",Str.ofString "heap"],y.length<=10:=by decide+kernel
     rcases w6.mp (show u∈[Str.ofString "",Str.ofString "to",Str.ofString "a1",Str.ofString "a",Str.ofString "abcdef",Str.ofString "A",Str.ofString "heap"]++[zy]from hu)with q|q
     ·exact all u q
     ·rw[m8.mp q];exact Qy
    refine eQ (by rw[aM Bl];exact ay) TY ?_
    walk_at "rx"
    exact hN _ _ ⟨u,_,rfl,TX,F4.trans (Fl.pick Cn)⟩
   ·walk_at "rx"
    exact hN _ _ ⟨z,_,rfl,G.nm _ JL,F2⟩
  ·rintro δ' M3 ⟨z2,v6,rfl,Qt,F3⟩
   have ho:=G.opt _ JL
   have hf:=G.qH _ JL
   dsimp only at ho hf
   with_reducible refine ib (λ δ' M'=>∃(ur:List D),δ'=[some (.ref a),some (sk g),some (.int h),some (.int d1),some (.str z2),some (.tup ur),v6]/\ur.length<=12+(j+1)/\(∀o∈ur,Oj (n+(j+1)) o)/\Fl a cc M M') (λ N hN=>?_) ?_
   ·have same:N [some (.ref a),some (sk g),some (.int h),some (.int d1),some (.str z2),some (.tup os),v6] M3:=hN _ _ ⟨os,rfl,by omega,λ o q=>(ho o q).mono (by omega),F3⟩
    walk_at "rx"
    refine bz (λ e1=>?_) (λ e1=>?_)
    ·walk_at "rx"
     refine mK (λ d=>.bl (isTup d)) (by omega) (λ i d N2 hi Sw=>?_) ?_
     ·have Q1:=ho d (k4 hi)
      rcases Q1 with rfl|⟨ds,rfl,_⟩
      ·walk_at "rx"
       exact aO (n:="str") rfl (b:=false) (by decide) Sw
      ·walk_at "rx"
       exact aO (n:="tuple") rfl (b:=true) (by decide) Sw
     ·refine pN ?_
      cases ea:os.all λ x=>isTup x with
      |true=>
       rw[List.all_eq_true]at ea
       have Rc:sk g=.tup (g.map qG):=rfl
       walk_at "rx"
       rw[Rc]
       walk_at "rx"
       rw[w5,Bv]
       refine⟨a,cc,os,n,n+j,rfl,F3.cq,Ci,by omega,by omega,by omega,by omega,λ o q=>?_,λ ur M4 hl Q0 F4=>?_⟩
       ·rcases ho o q with rfl|z
        ·have:=ea _ q;cases this
        ·exact z
       ·walk_at "rx"
        exact hN _ _ ⟨ur,rfl,by omega,λ o q=>(Q0 o q).mono (by omega),F3.trans F4⟩
      |false=>
       walk_at "rx"
       exact same
    ·walk_at "rx"
     exact same
   ·rintro δ' M4 ⟨ur,rfl,Bq,QZ,F4⟩
    walk_at "rx"
    rw[Cj]
    refine dX (by omega) ?_
    walk_at "rx"
    rw[n5]
    refine bS (small (by rw[r6,w5,j5];omega)) ?_
    walk_at "rx"
    refine cm (by omega) ?_
    refine bS (small (by rw[l8,r6,p9,w5,j5];omega)) ?_
    have z:=k _ M4 (Ka (h:=h) G (by omega) Qt Bq QZ) F4
    refine ao ?_
    have e:((h:Int)+1).toNat=h+1:=by omega
    unfold sk at z
    rw[w9,w9,map_take,map_drop]at z
    rw[e]
    exact z
end
def FL(o:Option Str):D:=.str (o.getD (Str.ofString ""))
def Lh:gV:=λ ds M Q=>∃(os:List D) (h n:Nat),ds=[.tup os,.int h,.int n]/\(∀o∈os,Oj 1000 o)/\os.length<=1000/\n<=1000/\h<=n/\∀M',Ext M M'->Q (FL (fU h n none os)) M'
theorem Mf{B:Nat}{d:D}(h:Oj B d)(hB:B<=1000):Od d:=by
 rcases h with rfl|⟨ds,rfl,hl,he⟩
 ·exact⟨True.intro,λ ds z=>by cases z⟩
 ·refine⟨True.intro,λ es z=>?_⟩
  cases z
  exact⟨by omega,λ e q=>by rcases he e q with rfl|⟨i,rfl⟩ <;> exact True.intro⟩
def lS(r:Row)(g:Nat):Bool:=decide (0 < r.getD g 0)
theorem Ew(r:Row)(h:Nat):((List.range (r.length - h)).filter (λ j=>lS r (h+j))=[])↔(r.drop h).any (λ x=>decide (0 < x))=false:=by
 rw[filter_eq_nil_iff,List.any_eq_false]
 constructor
 ·intro q x hx
  obtain⟨i,hi⟩:=mem_iff_getElem?.mp hx
  rw[getElem?_drop]at hi
  have hl:=(g9.mp hi).1
  have z:=q i (by rw[mem_range];omega)
  unfold lS at z
  rw[c7,hi]at z
  exact z
 ·intro q i hi
  rw[mem_range]at hi
  have hl:h+i < r.length:=by omega
  unfold lS
  rw[c7,i4 hl]
  refine q _ (mem_iff_getElem?.mpr ⟨i,?_⟩)
  rw[getElem?_drop,i4 hl]
  rfl
section
variable {P:Program}{w:World}{K:PySem.W.Frag}{mg:Str->Option Value}{base:Heap}
theorem pE:aI ["_law_thing"] ["_law_thing"] (aj (top 34)):=⟨rfl,rfl,rfl,by decide+kernel,rfl,by decide+kernel,by decide+kernel⟩
theorem pS{f:Addr}{fd:FuncData}(F:eN K "_law_whole" "_law_whole" (top 34) f fd)(T:iq K mg):bh P w K mg base eO 1 f fd ["_law_thing"] (cA K gF):=by
 refine jW F pE (λ ds M Q h=>?_) (λ bW A outer s H E ds M Q hr h=>?_)
 ·obtain⟨d,rfl,_⟩:=h
  rfl
 ·obtain⟨d,rfl,hk,k⟩:=h
  refine⟨_,(ai (aG (w_and (aE (cV T.wb) (by rfl) T.isinstance (by decide+kernel) (aa (ax 0) (aa (fB (n:="int") (by rfl) T.int (by decide+kernel)) ae))) (gb (w_not (aE (cV T.jo) (by rfl) T.isinstance (by decide+kernel) (aa (ax 0) (aa (fB (n:="bool") (by rfl) T.bool (by decide+kernel)) ae)))))))),?_⟩
  have alt:(∃i,d=.int i)\/∃n,jc M d=some n/\jX n "int"=false/\JH d=false:=by
   cases d with
   |int i=>exact .inl ⟨i,rfl⟩
   |aZ=>exact .inr ⟨"NoneType",rfl,by decide,rfl⟩
   |str z=>exact .inr ⟨"str",rfl,by decide,rfl⟩
   |tup z=>exact .inr ⟨"tuple",rfl,by decide,rfl⟩
   |_=>cases hk
  rcases alt with⟨i,rfl⟩|⟨n,h1,h2,h3⟩
  ·walk_at "rx"
   refine aO (n:="int") rfl (b:=true) (by decide) ?_
   walk_at "rx"
   refine aO (n:="int") rfl (b:=false) (by decide) ?_
   walk_at "rx"
   exact ao k
  ·walk_at "rx"
   refine aO h1 h2 ?_
   walk_at "rx"
   rw[h3]at k
   exact ao k
theorem bX:aI ["_law_options","_law_h","_law_many","_law_ahead","_law_option"] ["_law_options","_law_h","_law_many"] (aj (top 35)):=⟨rfl,rfl,rfl,by decide+kernel,rfl,by decide+kernel,by decide+kernel⟩
theorem Ee{f:Addr}{fd:FuncData}(F:eN K "_law_options_due" "_law_options_due" (top 35) f fd)(T:iq K mg)(sO:cw P w K mg base 1 "_law_whole" ["_law_thing"] gF)(gN:cw P w K mg base 1 "_law_key" ["_law_counts_here"] vv):bh P w K mg base eO 2 f fd ["_law_options","_law_h","_law_many"] (cA K Lh):=by
 refine jW F bX (λ ds M Q h=>?_) (λ bW A outer s H E ds M Q hr h=>?_)
 ·obtain⟨os,h,n,rfl,_⟩:=h
  rfl
 ·obtain⟨os,h,n,rfl,Q0,QU,hn,Wo,k⟩:=h
  refine⟨_,(af (aP (i:=3) bX.nd rfl (Or.inl rfl) lb)
 (af (f' u9 rfl (du (ax 0)) (cz (i:=4) bX.nd rfl (Or.inr rfl))
 (af (bw (jy (fz (cO (aE (cV T.iM) (by rfl) T.isinstance (by decide+kernel) (aa (ax 4) (aa (fB (n:="tuple") (by rfl) T.tuple (by decide+kernel)) ae))))) (hV (aV (lW hr.units) (aE c_ (by rfl) T.len (by decide+kernel) (aa (ax 4) ae)) (ax 2) (aR _)))).pt
 (ai (aG bx))
 aL)
 (af (bw (fz (cO (hX (oP rfl) gE (by rfl) T.all (by decide+kernel) (tgs:=["_law_number"]) (fr:=[]) ⟨cv (by kernel_rfl),rfl,(λ _ _ h=>h),(du (ax 4)),(bj (λ _ _ _ _ _=>(bG (i:=0) (show(["_law_number"]:List Str).Nodup by decide+kernel) rfl (Or.inl rfl))) (by decide)),(λ _ _ _ _ _=>bP),(λ _ _ _ _ _=>(w_and (aQ sO (hr.mono (by decide)) (by rfl) (aa (ax 0) ae)) (gb (eX Jl (ax 0) ak (aR _)))))⟩)))
 (ai (aG bx))
 aL)
 (af (bw (aV (lW hr.units) (pj (tgs:=["_law_g"]) (fr:=[4]) ⟨cv (by kernel_rfl),rfl,(λ _ _ h=>h),(wV rfl T.range (aa (ax 1) (aa (ax 2) ae))),(bj (λ _ _ _ _ _=>(bG (i:=0) (show(["_law_g","_law_option"]:List Str).Nodup by decide+kernel) rfl (Or.inl rfl))) (by decide)),(λ _ _ _ _ _=>(Cv (aV xJ (cf bN (ax 1) (ax 0) (λ _ _=>rfl)) ak (aR _)))),(λ _ _ _ _ _=>(ax 0))⟩) (gX ae) (aR _))
 (ai (aG bx))
 aL)
 (af (bw (kZ (aV Ax (ax 3) lb (aR _)) (iy (aV (Mk hr.units) (aQ gN (hr.mono (by decide)) (by rfl) (aa (ax 4) ae)) (aQ gN (hr.mono (by decide)) (by rfl) (aa (ax 3) ae)) (aR _)))).pt
 (ai (aG bx))
 aL)
 (ai (aP (i:=3) bX.nd rfl (Or.inl rfl) (ax 4))))))))
 (ai (aG bx)))),?_⟩
  walk_at "rx"
  refine gw (λ i δ M'=>∃(ah:Option Row) (v4:Option D),δ=[some (.tup os),some (.int h),some (.int n),some (SQ ah),v4]/\Ext M M'/\(∀r,ah=some r->r.length=n)/\fU h n none os=fU h n ah (os.drop i)) ⟨none,none,rfl,λ b o e=>e,(λ r z=>by cases z),rfl⟩ (λ i d δ M' hd h2=>?_) (λ δ M' h2=>?_)
  ·obtain⟨ah,v4,rfl,hE,MG,eF⟩:=h2
   obtain⟨hi,ed⟩:=g9.mp hd
   rw[g8 hi,ed]at eF
   have hO:=Q0 d (k4 hd)
   rw[gH]at eF
   have fin:∀(w:Str) (M2:Mem),fU h n none os=some w->Ext M M2->fin2 Q (.str w) M2:=λ w M2 e x=>ao (by have z:=k M2 x;rw[e]at z;exact z)
   rcases hO with rfl|⟨ds,rfl,Uw,KS⟩
   ·rw[A3 (show cj (.str (Str.ofString "a")) n=false from rfl)]at eF
    walk_at "rx"
    refine aO (n:="str") rfl (b:=false) (by decide) ?_
    walk_at "rx"
    exact fin _ _ eF hE
   ·walk_at "rx"
    refine aO (n:="tuple") rfl (b:=true) (by decide) ?_
    walk_at "rx"
    refine dG (λ eG=>?_) (λ eG=>?_)
    ·have es:cj (.tup ds) n=false:=by unfold cj;simp only;rw[u4 (by omega)];rfl
     rw[A3 es]at eF
     walk_at "rx"
     exact fin _ _ eF hE
    ·have es:cj (.tup ds) n=ds.all okN:=by unfold cj;simp only;rw[x3 (by omega)];rfl
     walk_at "rx"
     refine mK (λ d=>.bl (okN d)) (by omega) (λ i d N hi hN=>?_) ?_
     ·have OW:=KS d (k4 hi)
      walk_at "rx"
      rcases OW with rfl|⟨j,rfl⟩
      ·refine⟨.aZ,rfl,True.intro,?_⟩
       exact hN
      ·refine⟨.int j,rfl,True.intro,?_⟩
       walk_at "rx"
       exact hN
     ·refine pN ?_
      cases ea:ds.all okN with
      |false=>
       rw[es,ea,A3 rfl]at eF
       walk_at "rx"
       exact fin _ _ eF hE
      |true=>
       rw[es,ea,A4 (by decide)]at eF
       obtain⟨Ke,el,ep⟩:=oq (d:=.tup ds) (n:=n) (by rw[es];exact ea)
       generalize rowOf (.tup ds)=r at*
       rw[Ke]
       unfold row
       walk_at "rx"
       refine⟨cS (by omega) (by omega),cS (by omega) (by omega),?_⟩
       rw[show((n:Int) - (h:Int)).toNat=r.length - h by omega]
       refine Fs (xs:=List.range (r.length - h)) (enc:=λ(j:Nat)=>D.int ((h:Int)+(j:Int))) (λ j=>lS r (h+j)) (λ(j:Nat)=>D.int ((h:Int)+(j:Int))) (by rw[o9];omega) (λ l j N1 N2 hj k1 k2=>?_) ?_
       ·have Sn:h+j < r.length:=by
         have:=(g9.mp hj).1
         rw[o9]at this
         rw[k9 this]at hj
         have:=u7 hj
         omega
        walk_at "rx"
        refine gm (d:=D.int (r.getD (h+j) 0)) (by rw[show(h:Int)+(j:Int)=((h+j:Nat):Int) by omega];exact cI (by rw[n0,i4 Sn,c7,i4 Sn];rfl)) ?_
        walk_at "rx"
        dsimp only
        refine bz (λ hx=>?_) (λ hx=>?_)
        ·exact k1 (x3 hx)
        ·exact k2 (u4 hx)
       ·intro p MK
        walk_at "rx"
        intro p2 QP
        have OU:p≠p2:=λ z=>by subst z;rw[ay]at QP;cases QP
        have J_:Ext M (aK M' p (.lst (((List.range (r.length - h)).filter λ j=>lS r (h+j)).map λ(j:Nat)=>D.int ((h:Int)+(j:Int))))):=rG hE MK _
        have KU:=rG J_ QP (.lst [])
        refine C8 (k:=0) (b:=!(r.drop h).any λ x=>decide (0 < x)) (by rw[aM OU];exact ay) ay (Iv λ x _=>Aa 0 _) (λ e z=>by cases z) (by decide) (by rw[map_eq_nil_iff,Ew];cases(r.drop h).any λ x=>decide (0 < x) <;> simp) ?_
        generalize aK (aK M' p (.lst (((List.range (r.length - h)).filter λ j=>lS r (h+j)).map λ(j:Nat)=>D.int ((h:Int)+(j:Int))))) p2 (.lst [])=M4 at*
        cases Nr:(r.drop h).any λ x=>decide (0 < x)with
        |true=>
         rw[A3 Nr]at eF
         walk_at "rx"
         exact fin _ _ eF KU
        |false=>
         rw[A4 (by rw[Nr];decide)]at eF
         dsimp only
         rw[A4 (show ¬(!!false)=true by decide)]
         cases ah with
         |none=>
          rw[A4 (λ z=>by cases z)]at eF
          walk_at "rx"
          refine nW ?_
          walk_at "rx"
          exact⟨some r,_,rfl,KU,(λ q e=>by cases e;exact el),eF⟩
         |some b=>
          have UG:=MG b rfl
          walk_at "rx"
          refine vG ?_
          walk_at "rx"
          refine⟨r,rfl,by omega,?_⟩
          walk_at "rx"
          refine⟨b,rfl,by omega,?_⟩
          refine Hz ?_
          have ek:Option.any (λ a=>!klt (eS a) (eS r)) (some b)=!klt (eS b) (eS r):=rfl
          rw[ek]at eF
          show if(!klt (eS b) (eS r))=true then _ else _
          cases Nq:klt (eS b) (eS r)with
          |false=>
           rw[A3 (by rw[Nq];rfl)]at eF
           rw[A3 (show(!false)=true from rfl)]
           walk_at "rx"
           exact fin _ _ eF KU
          |true=>
           rw[A4 (by rw[Nq];decide)]at eF
           walk_at "rx"
           exact⟨some r,_,rfl,KU,(λ q e=>by cases e;exact el),eF⟩
  ·obtain⟨ah,v4,rfl,hE,MG,eF⟩:=h2
   rw[drop_length]at eF
   walk_at "rx"
   have z:=k M' hE
   rw[eF]at z
   exact ao z
end
def Hf:Option (Str×Nat)->D
 |some (w,h)=>.tup [.str w,.int h]
 |none=>.tup [.str (Str.ofString "let by"),.int 0]
def vy:gV:=λ ds M Q=>∃(n j:Nat) (g:List (Str×List D)),ds=[sk g]/\n<=12/\j<=20/\Gj n j g/\∀M',Ext M M'->Q (Hf (dZ g.length [] 0 g)) M'
theorem C4{i j:Str}{M:Mem}{Q:br}(q:Q (.bl (!decide (i=j))) M):nu true (.str i) (.str j) M Q:=.inl (by
 show Q (.bl (xor true (decide (i=j)))) M
 simpa using q)
theorem vQ{h n:Nat}{w:Str}:∀(os:List D) (ah:Option Row),fU h n ah os=some w->w≠Str.ofString ""
 |[],_,e=>by cases e
 |o::os,ah,e=>by
  rw[gH]at e
  split at e
  ·rw[<- u7 e];decide+kernel
  ·split at e
   ·rw[<- u7 e];decide+kernel
   ·split at e
    ·rw[<- u7 e];decide+kernel
    ·exact vQ os _ e
def JQ(n:Nat)(zs:List Str)(h:Nat)(x:Str×List D):Str:=if isName x.1=false then Str.ofString "name" else if x.1∈zs then Str.ofString "twice" else(fU h n none x.2).getD (Str.ofString "")
theorem E8(n:Nat)(zs:List Str)(h:Nat)(x:Str×List D)(g:List (Str×List D)):dZ n zs h (x::g)=if JQ n zs h x=Str.ofString "" then dZ n (zs++[x.1]) (h+1) g else some (JQ n zs h x,h):=by
 have n1:Str.ofString "name"≠Str.ofString "":=by decide+kernel
 have n2:Str.ofString "twice"≠Str.ofString "":=by decide+kernel
 rw[ic]
 unfold JQ
 by_cases e1:isName x.1=false
 ·rw[A3 e1,A3 e1,A4 n1]
 ·rw[A4 e1,A4 e1]
  by_cases e2:x.1∈zs
  ·rw[A3 e2,A3 e2,A4 n2]
  ·rw[A4 e2,A4 e2]
   cases e3:fU h n none x.2 with
   |none=>exact(A3 (show(none:Option Str).getD (Str.ofString "")=Str.ofString "" from rfl)).symm
   |some w=>rw[A4 (show ¬(some w).getD (Str.ofString "")=Str.ofString "" from vQ _ _ e3)];rfl
section
variable {P:Program}{w:World}{K:PySem.W.Frag}{mg:Str->Option Value}{base:Heap}
theorem cJ:aI ["_law_game","_law_h","_law_word","_law_name_here","_law_options"] ["_law_game"] (aj (top 36)):=⟨rfl,rfl,rfl,by decide+kernel,rfl,by decide+kernel,by decide+kernel⟩
theorem Jf{f:Addr}{fd:FuncData}(F:eN K "_law_due" "_law_due" (top 36) f fd)(T:iq K mg)(iW:cw P w K mg base 2 "_law_options_due" ["_law_options","_law_h","_law_many"] Lh)(nk:cw P w K mg base 2 "_law_is_name" ["_law_text"] (eP dh)):bh P w K mg base eO 3 f fd ["_law_game"] (cA K vy):=by
 refine jW F cJ (λ ds M Q h=>?_) (λ bW A outer s H E ds M Q hr h=>?_)
 ·obtain⟨n,j,g,rfl,_⟩:=h
  rfl
 ·obtain⟨n,j,g,rfl,hn,hj,G,k⟩:=h
  have Bv:=G.len
  have Cj:sk g=.tup (g.map qG):=rfl
  refine⟨_,(af (f' u9 rfl (bR rfl T.range (aa (aE c_ (by rfl) T.len (by decide+kernel) (aa (ax 0) ae)) ae)) (cz (i:=1) cJ.nd rfl (Or.inl rfl))
 (af (fA (cf bN (ax 0) (ax 1) (λ _ _=>rfl)) (tQ (n:=2) rfl (eW (cz (i:=3) cJ.nd rfl (Or.inl rfl)) (eW (cz (i:=4) cJ.nd rfl (Or.inl rfl)) o_))))
 (af (aP (i:=2) cJ.nd rfl (Or.inl rfl) (aQ iW (hr.mono (by decide)) (by rfl) (aa (ax 4) (aa (ax 1) (aa (aE c_ (by rfl) T.len (by decide+kernel) (aa (ax 0) ae)) ae)))))
 (af (bw (aV (iJ hr.units) (ax 3) (pj (tgs:=["_law_heap"]) (fr:=[]) ⟨cv (by kernel_rfl),rfl,(λ _ _ h=>h),(du (bg cC (ax 0) bc (bb (ax 1)))),(bj (λ _ _ _ _ _=>(bG (i:=0) (show(["_law_heap"]:List Str).Nodup by decide+kernel) rfl (Or.inl rfl))) (by decide)),(λ _ _ _ _ _=>bP),(λ _ _ _ _ _=>(cf bN (ax 0) ak (λ _ _=>rfl)))⟩) rfl)
 (ai (aP (i:=2) cJ.nd rfl (Or.inl rfl) bx))
 aL)
 (af (bw (fz (cO (aQ nk (hr.mono (by decide)) (by rfl) (aa (ax 3) ae))))
 (ai (aP (i:=2) cJ.nd rfl (Or.inl rfl) bx))
 aL)
 (ai (bw (aV (lW hr.units) (ax 2) bx (aR _))
 (ai (aG (cP (aa (ax 2) (aa (ax 1) ae)))))
 aL)))))))
 (ai (aG (cP (aa bx (aa ak ae)))))),?_⟩
  rw[Cj]
  walk_at "rx"
  rw[w5]
  refine⟨cS (by omega) (by omega),?_⟩
  rw[n5]
  refine gw (λ i δ M'=>∃(v1 v2 v3 v4:Option D),δ=[some (.tup (g.map qG)),v1,v2,v3,v4]/\Ext M M'/\dZ g.length [] 0 g=dZ g.length ((g.take i).map (·.1)) i (g.drop i)) ⟨none,none,none,none,rfl,λ b o e=>e,rfl⟩ (λ i d δ M' hd h=>?_) (λ δ M' h=>?_)
  ·obtain⟨v1,v2,v3,v4,rfl,hE,eF⟩:=h
   obtain⟨hi,rfl⟩:=dP hd
   obtain⟨x,hx⟩:∃x,g[i]?=some x:=⟨_,i4 hi⟩
   have JL:=k4 hx
   rw[g8 hi,(g9.mp hx).2,E8]at eF
   walk_at "rx"
   rw[Int.zero_add]
   refine gm (d:=qG x) (cI (by rw[n0,hx];rfl)) ?_
   have JR:=G.nm x JL
   have Ut:=G.qH x JL
   have Si:=G.opt x JL
   obtain⟨z,os⟩:=x
   dsimp only at JR Ut Si
   unfold qG
   walk_at "rx"
   rw[w5]
   refine⟨os,i,g.length,rfl,λ o q=>(Si o q).mono (by omega),by omega,by omega,by omega,λ M2 BC=>?_⟩
   have BC:Ext M M2:=λ b o e=>BC _ _ (hE _ _ e)
   unfold FL
   walk_at "rd1"
   with_reducible refine ib (λ δ' M'=>δ'=[some (.tup (g.map qG)),some (.int i),some (.str (if z∈(g.take i).map (·.1)then Str.ofString "twice" else(fU i g.length none os).getD (Str.ofString ""))),some (.str z),some (.tup os)]/\Ext M M') (λ N hN=>?_) ?_
   ·walk_at "rx"
    refine dX (by omega) ?_
    rw[n5,<- map_take]
    walk_at "rx"
    refine kN (xs:=g.take i) (enc:=qG) (λ x=>.str x.1) (by rw[r6];omega) (λ l x N3 hl UI=>?_) ?_
    ·unfold qG
     walk_at "rx"
     exact UI
    ·intro p hp
     have J_:=rG BC hp (.lst ((g.take i).map λ x=>D.str x.1))
     have em:((g.take i).map λ x=>D.str x.1)=((g.take i).map (·.1)).map D.str:=by rw[y7];rfl
     refine pM (by rw[em];exact ay) (ff z _) ?_
     refine eI (λ jH=>?_) (λ jH=>?_)
     ·have jH:z∈(g.take i).map (·.1):=by simpa using jH
      walk_at "rx"
      exact hN _ _ ⟨by rw[A3 jH];rfl,J_⟩
     ·have jH:z∉(g.take i).map (·.1):=by simpa using jH
      walk_at "rx"
      exact hN _ _ ⟨by rw[A4 jH];rfl,J_⟩
   ·rintro δ' M3 ⟨rfl,J_⟩
    with_reducible refine ib (λ δ' M'=>δ'=[some (.tup (g.map qG)),some (.int i),some (.str (JQ g.length ((g.take i).map (·.1)) i (z,os))),some (.str z),some (.tup os)]/\M'=M3) (λ N hN=>?_) ?_
    ·walk_at "rx"
     refine⟨z,rfl,by omega,?_⟩
     rw[<- xX]
     cases en:isName z with
     |false=>
      dsimp only
      rw[A3 (show(!false)=true from rfl)]
      walk_at "rx"
      exact hN _ _ ⟨by unfold JQ;rw[A3 en];rfl,rfl⟩
     |true=>
      walk_at "rx"
      exact hN _ _ ⟨by unfold JQ;rw[A4 (show ¬isName (z,os).1=false from λ q=>by rw[en]at q;cases q)],rfl⟩
    ·rintro δ' M4 ⟨rfl,rfl⟩
     generalize JQ g.length ((g.take i).map (·.1)) i (z,os)=W at*
     walk_at "rx"
     refine C4 ?_
     dsimp only
     refine dG (λ hw=>?_) (λ hw=>?_)
     ·rw[A4 hw]at eF
      walk_at "rx"
      have q:=k M4 J_
      rw[eF]at q
      exact ao q
     ·rw[A3 hw]at eF
      walk_at "rx"
      refine⟨_,_,_,_,rfl,J_,?_⟩
      rw[eF,take_succ,hx,w9]
      rfl
  ·obtain⟨v1,v2,v3,v4,rfl,hE,eF⟩:=h
   rw[bL,drop_length]at eF
   walk_at "rx"
   have q:=k M' hE
   rw[eF]at q
   exact ao q
end
theorem wq{n j:Nat}{g:List (Str×List D)}(G:Gj n j g)(hn:n<=12)(hj:j<=20):∀x∈g,x.1.length<=1000/\x.2.length<=1000/\∀o∈x.2,Od o:=λ x hx=>by
 have h1:=G.nm x hx
 have h2:=G.qH x hx
 exact⟨by omega,by omega,λ o ho=>Mf (G.opt x hx o ho) (by omega)⟩
section
variable {P:Program}{w:World}{K:PySem.W.Frag}{mg:Str->Option Value}{base:Heap}
theorem cR:aI ["_law_game","_law_found","e"] ["_law_game"] (aj (top 37)):=⟨rfl,rfl,rfl,by decide+kernel,rfl,by decide+kernel,by decide+kernel⟩
theorem As{f:Addr}{fd:FuncData}(F:eN K "_law_heard" "_law_heard" (top 37) f fd)(T:iq K mg)(dj:iZ P w K mg base 4 "look_game" ["game"] kh):bh P w K mg base eO 5 f fd ["_law_game"] (cA K vy):=by
 refine jW F cR (λ ds M Q h=>?_) (λ bW A outer s H E ds M Q hr h=>?_)
 ·obtain⟨n,j,g,rfl,_⟩:=h
  rfl
 ·obtain⟨n,j,g,rfl,hn,hj,G,k⟩:=h
  have Bv:=G.len
  refine⟨_,af (aP (i:=1) cR.nd rfl (Or.inl rfl) (cP (aa bx (aa ak ae)))) (af (Cu (i:=2) (h2:=λ C fs D δ M=>∃v w,C=44/\fs=[(Str.ofString "heap",w),(Str.ofString "word",v)]/\D.nx (δ.set 1 (some (.tup [v,w]))) M) (λ _ _ z=>z) ⟨rfl,rfl⟩ cR.nd rfl rfl dj (hr.mono (by decide)) (by rfl) (aa (ax 0) ae)
    (ai (aP (i:=1) cR.nd rfl (Or.inl rfl) (cP (aa bx (aa ak ae))))) (by rfl) T.jE T.ny
    ⟨λ a=>R4 _ 2 1 (Str.ofString "word") (Str.ofString "heap") 44,λ a=>kr (FY (zV (lQ yq (by rfl) T.isinstance (by decide+kernel) (cH (pv 2) (cH (IJ (by rfl) T.bU.m) gn)))) (kr (zZ (i:=1) cR.nd rfl (Or.inl rfl) (Ai (cH (F6 (pv 2)) (cH (F6 (pv 2)) gn))))) vM),?suite⟩)
    (ai (aG (ax 1)))),?_⟩
  ·exact λ a C dx fs ds D D2 σ H' δ M' hσ h1 h2 fr sr rm hh ct=>GY (by decide) (by decide+kernel) T.bU.ei (T.bU.eg (by simp)) (T.bU.eg (by simp)) T.kG hσ h1 h2 fr sr rm hh ct
  ·walk_at "rx"
   refine CT (Nat.lt_succ_self 2) ?_
   walk_at "rx"
   refine⟨g,rfl,wq G hn hj,by omega,λ e M' hM=>⟨true,rfl,?_⟩,λ w h e M' hM=>⟨T.bU.cat,T.sG,.str w,.int h,rfl,rfl,?_⟩⟩
   ·rw[A3 rfl]
    walk_at "rx"
    have q:=k M' hM
    rw[e]at q
    exact ao q
   ·dsimp only[dq.but]
    walk_at "rx"
    have q:=k M' hM
    rw[e]at q
    exact ao q
end
theorem Ext.fl {M M':Mem}{f c:Addr}(h:Ext M M')(F:Flow M f c):Fl f c M M':=by
 obtain⟨ns,p,b,sd,ct,h1,h2,h3⟩:=F.ex
 exact⟨⟨ns,p,b,sd,ct,h _ _ h1,h _ _ h2,h3⟩,λ b o _ e=>h b o e⟩
def ya(g:List fR):List (Str×List D):=g.map λ h=>(h.1,h.2.map row)
theorem Gg(g:List fR):sk (ya g)=iQ g:=by
 unfold sk ya iQ
 rw[y7]
 rfl
theorem xN{z:Str}(h:Nm z):isName z=true:=by
 have wd:∀{w:Str},Wd w->isWord w=true:=λ{w} hw=>by
  unfold isWord
  have h1:cQ.contains w=false:=by simpa using hw.free
  have h2:(w.cps.toList.map yE).all id=true:=by
   rw[List.all_eq_true]
   intro b hb
   obtain⟨c,hc,rfl⟩:=y6.mp hb
   have:=hw.low c hc
   unfold yE
   rw[eR]
   simp only[id_eq,n4,y1,not_mem_nil,or_false]
   omega
  rw[h1,h2,x3 hw.pos,x3 hw.len]
  rfl
 rcases h with h|⟨w,c,h,h1,h2,rfl⟩
 ·unfold isName;rw[wd h];rfl
 ·have hl:(w++⟨#[c]⟩:Str).cps.toList=w.cps.toList++[c]:=wD _ _
  have e1:dm (w++⟨#[c]⟩) none (some (-1))=w:=by
   rw[sT,hl,dropLast_concat]
  have e2:dm (w++⟨#[c]⟩) (some (-1)) none=⟨#[c]⟩:=by
   have e:(w++⟨#[c]⟩:Str).length - 1=w.cps.toList.length:=by
    rw[len_app]
    show w.length+1 - 1=_
    simp[Str.length]
   rw[mJ,hl,e,drop_left]
  unfold isName
  rw[e1,e2,wd h,wu]
  have:c∈(Str.ofString "123456789").cps.toList:=by
   have e:(Str.ofString "123456789").cps.toList=[49,50,51,52,53,54,55,56,57]:=by decide+kernel
   rw[e]
   simp only[y1,not_mem_nil,or_false]
   omega
  rw[x3 this]
  simp
theorem rA{h n:Nat}:∀{os:List Row} {ah:Option Row},(∀r∈os,yz n h r)->Up os->(∀a,ah=some a->∀r∈os,klt (eS a) (eS r)=true)->fU h n ah (os.map row)=none
 |[],_,_,_,_=>rfl
 |r::os,ah,ho,hu,ha=>by
  have hr:=ho r l6
  rw[y0,gH,xl,A4 (by rw[A9 hr.len hr.pos];decide)]
  have e1:(r.drop h).any (λ x=>decide (0 < x))=false:=by
   rw[List.any_eq_false]
   intro x hx
   obtain⟨i,hi⟩:=mem_iff_getElem?.mp hx
   rw[getElem?_drop]at hi
   have:=hr.low (h+i) (by omega)
   rw[c7,hi]at this
   have e:x=0:=this
   simp[e]
  rw[A4 (by rw[e1];decide)]
  have e2:ah.any (λ a=>!klt (eS a) (eS r))=false:=by
   cases ah with
   |none=>rfl
   |some a=>show(!klt (eS a) (eS r))=false;rw[ha a rfl r l6];rfl
  rw[A4 (by rw[e2];decide)]
  have hu:=pairwise_cons.mp hu
  exact rA (λ q hq=>ho q (j9 _ hq)) hu.2 λ a e q hq=>by cases e;exact hu.1 q hq
set_option tactic.hygienic true in
theorem yb{n:Nat}{g:List fR}(G:FI n g)(NM:O8 g)(U:∀h∈g,Up h.2):dZ (ya g).length [] 0 (ya g)=none:=by
 have hl:(ya g).length=n:=by unfold ya;rw[w5];exact G.len
 rw[hl]
 have go:∀(m:Nat) (i:Nat),m=n - i->dZ n ((g.take i).map (·.1)) i (ya (g.drop i))=none:=by
  intro m
  induction m with
  |zero=>
   intro i hi
   rw[drop_eq_nil_of_le (by rw[G.len];omega)]
   rfl
  |succ m ih=>
   intro i hi
   have xZ:i < g.length:=by rw[G.len];omega
   rw[g8 xZ]
   show dZ n _ i ((g[i].1,g[i].2.map row)::ya (g.drop (i+1)))=none
   have hm:g[i]∈g:=getElem_mem xZ
   have ho:=(G.opts i (by omega)).2
   have eg:g.getD i ML=g[i]:=by rw[c7,i4 xZ];rfl
   rw[eg]at ho
   rw[ic,A4 (by rw[xN (NM.nm _ hm)];decide),A4 ?_]
   ·dsimp only
    rw[rA ho (U _ hm) (λ a e=>by cases e)]
    have z:=ih (i+1) (by omega)
    rw[take_succ,i4 xZ,w9]at z
    exact z
   ·dsimp only
    intro q
    obtain⟨x,hx,e⟩:=y6.mp q
    obtain⟨j,hj⟩:=mem_iff_getElem?.mp hx
    rw[getElem?_take]at hj
    split at hj
    ·rename_i Wn
     have nd:=NM.nd
     have a1:(g.map (·.1))[j]?=some x.1:=by rw[n0,hj];rfl
     have a2:(g.map (·.1))[i]?=some g[i].1:=by rw[n0,i4 xZ];rfl
     have:=(getElem?_inj (by rw[w5];omega) nd).mp (a1.trans ((A1 some e).trans a2.symm))
     omega
    ·cases hj
 exact go n 0 (by omega)
theorem so{n:Nat}{g:List fR}(G:FI n g)(NM:O8 g)(hf:∀h∈g,h.2.length<=12):Gj n 0 (ya g):=by
 refine⟨by unfold ya;rw[w5];exact G.len,λ x hx=>?_,λ x hx=>?_,λ x hx o ho=>?_⟩
 ·obtain⟨h,hh,rfl⟩:=y6.mp hx
  have:=(NM.nm h hh).len
  show h.1.length<=10
  omega
 ·obtain⟨h,hh,rfl⟩:=y6.mp hx
  show(h.2.map row).length<=12+0
  rw[w5]
  exact hf h hh
 ·obtain⟨h,hh,rfl⟩:=y6.mp hx
  obtain⟨r,hr,rfl⟩:=y6.mp ho
  obtain⟨i,hi⟩:=mem_iff_getElem?.mp hh
  have xZ:=(g9.mp hi).1
  have ho:=(G.opts i (by rw[<- G.len];exact xZ)).2
  have eg:g.getD i ML=h:=by rw[c7,hi];rfl
  rw[eg]at ho
  exact .inr (zq _ (Nat.le_of_eq (ho r hr).len))
theorem qV(M:Mem)(o:Option (Str×Nat)):yy M 5 (Hf o) (Hf o):=by
 cases o with
 |none=>
  refine qU (by show 2<=10000;decide) λ d hd=>?_
  rcases y1.mp hd with z|z
  ·subst z;exact .inl ⟨rfl,True.intro⟩
  ·rw[m8.mp z];exact .inl ⟨rfl,True.intro⟩
 |some p=>
  obtain⟨w,h⟩:=p
  refine qU (by show 2<=10000;decide) λ d hd=>?_
  rcases y1.mp hd with z|z
  ·subst z;exact .inl ⟨rfl,True.intro⟩
  ·rw[m8.mp z];exact .inl ⟨rfl,True.intro⟩
theorem DU(k:Nat){h:fR}(hn:Nm h.1):Pl (k+3) (wg h):=by
 unfold wg
 exact lO λ e he=>by
  rcases y1.mp he with z|z
  ·subst z;exact Iu _ hn.ok
  ·have z:=m8.mp z
   subst z
   exact lO λ e he=>by
    obtain⟨r,_,rfl⟩:=y6.mp he
    exact lO λ e he=>by
     obtain⟨x,_,rfl⟩:=y6.mp he
     exact Aa _ _
theorem DV(k:Nat){g:List fR}(hn:∀h∈g,Nm h.1):Pl (k+4) (iQ g):=by
 unfold iQ
 exact lO λ e he=>by
  obtain⟨h,hh,rfl⟩:=y6.mp he
  exact DU k (hn h hh)
section
variable {P:Program}{w:World}{K:PySem.W.Frag}{mg:Str->Option Value}{base:Heap}
theorem gg:aI ["_law_script","_law_flow_here","_law_game","_law_k","_law_other","_law_j","_law_due_here"] ["_law_script"] (aj (top 38)):=⟨rfl,rfl,rfl,by decide+kernel,rfl,by decide+kernel,by decide+kernel⟩
theorem Jd{f:Addr}{fd:FuncData}(F:eN K "law" "law" (top 38) f fd)(T:iq K mg)(uU:cw P w K mg base 1 "_law_flow" ["_law_script"] zd)(mH:cw P w K mg base 6 "_law_any_game" ["_law_flow_here","_law_most"] vA)(aD:cw P w K mg base 1 "_law_pick" ["_law_flow_here","_law_many"] h_)(nq:cw P w K mg base 3 "_law_changed" ["_law_flow_here","_law_game"] Lj)(yj:cw P w K mg base 3 "_law_due" ["_law_game"] vy)(jL:cw P w K mg base 5 "_law_heard" ["_law_game"] vy)(eK:cw P w K mg base 6 "_law_alike" ["_law_found","_law_due_here"] (ze 5))(dj:iZ P w K mg base 4 "look_game" ["game"] kh):bh P w K mg base eO 7 f fd ["_law_script"] (cA K qQ):=by
 refine jW F gg (λ ds M Q h=>?_) (λ bW A outer s H E ds M Q hr h=>?_)
 ·obtain⟨a,rfl,_⟩:=h
  rfl
 ·obtain⟨ns,rfl,k⟩:=h
  refine⟨_,(af (aP (i:=1) gg.nd rfl (Or.inl rfl) (aQ uU (hr.mono (by decide)) (by rfl) (aa (ax 0) ae)))
 (af (aP (i:=2) gg.nd rfl (Or.inl rfl) (aQ mH (hr.mono (by decide)) (by rfl) (aa (ax 1) (aa ak ae))))
 (af (f' u9 rfl (bR rfl T.range (aa (bu jh ak (pq Kq (by rfl) T.int (by decide+kernel) (aa (eX (lW hr.units) (ax 2) (cP ae) (aR _)) ae))) ae)) (cz (i:=3) gg.nd rfl (Or.inl rfl))
 (af (aP (i:=4) gg.nd rfl (Or.inl rfl) (ax 2))
 (af (f' u9 rfl (bR rfl T.range (aa (bu aX ak (aQ aD (hr.mono (by decide)) (by rfl) (aa (ax 1) (aa ak ae)))) ae)) (cz (i:=5) gg.nd rfl (Or.inl rfl))
 (ai (aP (i:=4) gg.nd rfl (Or.inl rfl) (aQ nq (hr.mono (by decide)) (by rfl) (aa (ax 1) (aa (ax 4) ae))))))
 (af (aP (i:=6) gg.nd rfl (Or.inl rfl) (aQ yj (hr.mono (by decide)) (by rfl) (aa (ax 4) ae)))
 (af (bw (jy (fz (cO (aQ eK (hr.mono (by decide)) (by rfl) (aa (aQ jL (hr.mono (by decide)) (by rfl) (aa (ax 4) ae)) (aa (ax 6) ae))))) (hV (aV Jj (ph dj (hr.mono (by decide)) (by rfl) (aa (ax 2) ae)) jR (aR _)))).pt
 (ai (aG jR))
 aL)
 (ai (bw (fz (cO (aQ eK (hr.mono (by decide)) (by rfl) (aa (aQ jL (hr.mono (by decide)) (by rfl) (aa (ax 4) ae)) (aa (ax 6) ae)))))
 (ai (aG jR))
 aL)))))))
 (ai (aG (w_and (eX F9 (ph dj (hr.mono (by decide)) (by rfl) (aa (ax 2) ae)) jR (aR _)) (gb (eX F9 (ph dj (hr.mono (by decide)) (by rfl) (aa (cP ae) ae)) jR (aR _))))))))),?_⟩
  walk_at "rx"
  refine⟨ns,rfl,λ a cc M0 UL=>?_⟩
  walk_at "rx"
  refine⟨a,cc,8,rfl,UL,by decide,λ n g M1 hn G NM U F1=>?_⟩
  have Bv:=G.len
  have look:∀(M:Mem) (Q:br),(∀M',Ext M M'->Q (.bl true) M')->kh [iQ g] M Q X0:=λ M Q h=>⟨ya g,by rw[Gg],wq (so G NM λ h hh=>(U h hh).2) (by omega) (by omega),by unfold ya;rw[w5];omega,λ _ M' hM=>h M' hM,λ w h e=>by rw[yb G NM λ h hh=>(U h hh).1]at e;cases e⟩
  have BB:=F1.cq
  walk_at "rx"
  refine C7 (k:=4) (b:=decide (g=[])) (DV 0 NM.nm) (lO λ e z=>by cases z) (by decide) (by
   rw[decide_eq_true_iff]
   unfold iQ
   constructor
   ·intro e;rw[e];rfl
   ·intro e;exact map_eq_nil_iff.mp (D.tup.inj e)) ?_
  walk_at "rx"
  obtain⟨m,em,Wk,Q7⟩:∃m:Nat,(6:Int)*(if(!decide (g=[]))=true then 1 else 0)=(m:Int)/\m<=6/\(m≠0->1<=n):=by
   by_cases e:g=[]
   ·exact⟨0,by rw[x3 e];rfl,by decide,λ z=>absurd rfl z⟩
   ·refine⟨6,by rw[u4 e];rfl,by decide,λ _=>?_⟩
    rw[<- Bv]
    cases g with
    |nil=>exact absurd rfl e
    |cons x g=>simp
  refine iG (uX (by decide) (by decide)) ?_
  rw[em]
  walk_at "rx"
  refine⟨cS (by omega) (by omega),?_⟩
  rw[n5]
  refine gw (λ i δ M'=>∃(v0 v3 v4 v5 v6:Option D),δ=[v0,some (.ref a),some (iQ g),v3,v4,v5,v6]/\Flow M' a cc) ⟨_,_,_,_,_,rfl,BB⟩ (λ i d δ M' hd h=>?_) (λ δ M' h=>?_)
  ·obtain⟨v0,v3,v4,v5,v6,rfl,hF⟩:=h
   have Ci:1<=n:=Q7 (λ z=>by subst z;cases hd)
   walk_at "rx"
   refine⟨a,cc,4,rfl,hF,by decide,by decide,λ d1 o1 h0 h1 E4=>?_⟩
   generalize aK M' a o1=M2 at*
   walk_at "rx"
   refine⟨cS (by omega) (by omega),?_⟩
   refine gw (ds:=dY 0 (1+d1).toNat) (λ j δ M'=>∃(v0 v3 v5 v6:Option D) (o:List (Str×List D)),δ=[v0,some (.ref a),some (iQ g),v3,some (sk o),v5,v6]/\Flow M' a cc/\Gj n j o) ⟨_,_,_,_,ya g,by rw[Gg];rfl,E4,so G NM λ h hh=>(U h hh).2⟩ (λ j d2 δ M3 hd2 h2=>?_) (λ δ M3 h2=>?_)
   ·obtain⟨v0,v3,v5,v6,o,rfl,BA,GO⟩:=h2
    obtain⟨hj,rfl⟩:=dP hd2
    walk_at "rx"
    refine⟨a,cc,n,j,o,rfl,BA,Ci,by omega,by omega,GO,λ o2 M4 V6 F4=>?_⟩
    walk_at "rx"
    exact⟨_,_,_,_,o2,rfl,F4.cq,V6⟩
   ·obtain⟨v0,v3,v5,v6,o,rfl,BA,GO⟩:=h2
    rw[bL]at GO
    walk_at "rx"
    refine⟨n,_,o,rfl,by omega,by omega,GO,λ M4 KU=>?_⟩
    have J9:=(KU.fl BA).cq
    walk_at "rx"
    refine⟨n,_,o,rfl,by omega,by omega,GO,λ M5 UM=>?_⟩
    have Cn:=(UM.fl J9).cq
    walk_at "rx"
    refine⟨_,_,rfl,qV _ _,?_⟩
    walk_at "rx"
    refine look _ _ λ M6 Sz=>?_
    have Rn:=(Sz.fl Cn).cq
    walk_at "rx"
    refine dG (λ z=>absurd rfl z) (λ _=>?_)
    walk_at "rx"
    refine⟨n,_,o,rfl,by omega,by omega,GO,λ M7 Sy=>?_⟩
    have UK:=(Sy.fl Rn).cq
    walk_at "rx"
    refine⟨_,_,rfl,qV _ _,?_⟩
    walk_at "rx"
    exact⟨_,_,_,_,_,rfl,UK⟩
  ·obtain⟨v0,v3,v4,v5,v6,rfl,hF⟩:=h
   walk_at "rx"
   refine look _ _ λ M6 Sz=>?_
   walk_at "rx"
   dsimp only
   rw[x3 (rfl:true=true),A3 rfl]
   walk_at "rx"
   refine⟨[],rfl,(λ x z=>by cases z),by decide,λ _ M7 Sy=>?_,λ w h e=>by cases e⟩
   walk_at "rx"
   exact ao (k _)
end
theorem A8(K:PySem.W.Frag):fQ K "bool":=⟨by kernel_rfl,by kernel_rfl,by kernel_rfl,by kernel_rfl,by kernel_rfl,by kernel_rfl⟩
theorem EL(K:PySem.W.Frag):fQ K "int":=⟨by kernel_rfl,by kernel_rfl,by kernel_rfl,by kernel_rfl,by kernel_rfl,by kernel_rfl⟩
theorem A7(K:PySem.W.Frag):fQ K "list":=⟨by kernel_rfl,by kernel_rfl,by kernel_rfl,by kernel_rfl,by kernel_rfl,by kernel_rfl⟩
theorem EK(K:PySem.W.Frag):fQ K "str":=⟨by kernel_rfl,by kernel_rfl,by kernel_rfl,by kernel_rfl,by kernel_rfl,by kernel_rfl⟩
theorem xW(K:PySem.W.Frag):fQ K "tuple":=⟨by kernel_rfl,by kernel_rfl,by kernel_rfl,by kernel_rfl,by kernel_rfl,by kernel_rfl⟩
theorem Js{K:PySem.W.Frag}{H:Hp}{a:Addr}{ns:List Int}(hO:FG H)(hS:dN K H a (ns.map V.int)):cA K qQ [.ref a] H (λ v _=>v=.bl true) λ _ _ _=>False:=by
 have E3:Gz K H a (ns.map V.int):=by
  rcases hS with(h|⟨o,h⟩)|h
  ·rcases hO a with z|⟨o,xs,z⟩
   ·rw[z]at h;cases h
   ·rw[z]at h;cases h
  ·exact .inl ⟨o,h⟩
  ·exact .inr h
 refine⟨[.fl (ns.map D.int)],λ _=>none,λ d _=>d=.bl true,aA.one (ie.mpr ⟨a,_,rfl,E3,jr ns⟩),λ a o e=>(by cases e),⟨ns,rfl,λ _=>rfl⟩,λ v H' d M' hd hm t e=>?_⟩
 subst e
 exact aB.mp hd
theorem Jr{A:Type}{P:List A->Prop}{n:Nat}(h:∀a t,t.length=n->P (a::t)):∀us:List A,us.length=n+1->P us
 |[],e=>nomatch e
 |a::t,e=>h a t (Nat.succ.inj e)
theorem gP{A:Type}{P:List A->Prop}(h:∀a,P [a]):∀us:List A,us.length=1->P us:=Jr λ a t e=>by rw[eq_nil_of_length_eq_zero e];exact h a
theorem rQ{A:Type}{P:List A->Prop}(h:∀a b,P [a,b]):∀us:List A,us.length=2->P us:=Jr λ a=>gP (P:=λ t=>P (a::t)) (h a)
theorem AJ{A:Type}{P:List A->Prop}(h:∀a b c,P [a,b,c]):∀us:List A,us.length=3->P us:=Jr λ a=>rQ (P:=λ t=>P (a::t)) (h a)
structure cW(K:PySem.W.Frag)(mg:Str->Option Value)(x:Str)(i:Nat)(f:Addr)(d:FuncData):Prop where
 m:mg x=some (.ref f)
 F:eN K x x (top i) f d
theorem all_mk{l:PySem.W.OpenLaw}{w:World}{K:PySem.W.Frag}{mg:Str->Option Value}{f0 f1 f2 f3 f4 f5 f6 f7 f8 f9 Vc Vb Va U' U_ U9 U8 U7 U6 U5 U4 U3 U2 U1 U0 UZ UY SE:Addr}{d0 d1 d2 d3 d4 d5 d6 d7 d8 d9 VD VC VB VA Vz Vy Vx Vw Vv Vu Vt Vs Vr Vq Vp Vo Vn:FuncData}{kV dc pm cd ct:Value}{an:Option Addr}
  (T:iq K mg)
  (t0:cW K mg "order_key" 4 f0 d0)
  (t1:cW K mg "is_word" 10 f1 d1)
  (t2:cW K mg "is_figure" 11 f2 d2)
  (t3:cW K mg "is_name" 12 f3 d3)
  (t4:cW K mg "is_whole" 14 f4 d4)
  (t5:cW K mg "is_sum" 15 f5 d5)
  (t6:cW K mg "look_name" 16 f6 d6)
  (t7:cW K mg "look_options" 17 f7 d7)
  (t8:cW K mg "look_game" 18 f8 d8)
  (t9:cW K mg "_law_flow" 20 f9 d9)
  (OH:cW K mg "_law_pick" 21 Vc VD)
  (Ld:cW K mg "_law_alike" 22 Vb VC)
  (OG:cW K mg "_law_name" 23 Va VB)
  (OF:cW K mg "_law_names" 24 U' VA)
  (OE:cW K mg "_law_key" 25 U_ Vz)
  (OD:cW K mg "_law_counts" 26 U9 Vy)
  (OC:cW K mg "_law_in_order" 27 U8 Vx)
  (OB:cW K mg "_law_is_word" 28 U7 Vw)
  (OA:cW K mg "_law_is_name" 29 U6 Vv)
  (Oz:cW K mg "_law_any_sums" 30 U5 Vu)
  (Oy:cW K mg "_law_any_game" 31 U4 Vt)
  (Ox:cW K mg "_law_changed_options" 32 U3 Vs)
  (Ow:cW K mg "_law_changed" 33 U2 Vr)
  (Ov:cW K mg "_law_whole" 34 U1 Vq)
  (Ou:cW K mg "_law_options_due" 35 U0 Vp)
  (Ot:cW K mg "_law_due" 36 UZ Vo)
  (Oq:cW K mg "_law_heard" 37 UY Vn)
  (S':cW K mg "law" 38 SE (PySem.W.fnOf "law" "law" (dM (top 38)) (cb (top 38)) (aj (top 38)) .none kV dc pm an cd ct)):
  ∃fd:FuncData,(∀(s:Shared) (v:Value),BindsTo s fd ⟨[v],[]⟩ [("_law_script",v)])/\∀base:Heap,K.In base->base.Ns mainGlobals mg->bh l.prog w K mg base eO 7 SE fd ["_law_script"] (cA K qQ):=by
 refine⟨PySem.W.fnOf "law" "law" (dM (top 38)) (cb (top 38)) (aj (top 38)) .none kV dc pm an cd ct,λ s v=>.of_eq rfl,λ base _ _=>?_⟩
 have b0:=t0.F.binds (ps:=["counts"]) λ _ _ _ _ _ _=>gP λ _=>rfl
 have b1:=t1.F.binds (ps:=["text"]) λ _ _ _ _ _ _=>gP λ _=>rfl
 have b2:=t2.F.binds (ps:=["text"]) λ _ _ _ _ _ _=>gP λ _=>rfl
 have b3:=t3.F.binds (ps:=["text"]) λ _ _ _ _ _ _=>gP λ _=>rfl
 have b4:=t4.F.binds (ps:=["value"]) λ _ _ _ _ _ _=>gP λ _=>rfl
 have b5:=t5.F.binds (ps:=["value","size"]) λ _ _ _ _ _ _=>rQ λ _ _=>rfl
 have b6:=t6.F.binds (ps:=["name","h","earlier"]) λ _ _ _ _ _ _=>AJ λ _ _ _=>rfl
 have b7:=t7.F.binds (ps:=["options","h","size"]) λ _ _ _ _ _ _=>AJ λ _ _ _=>rfl
 have b8:=t8.F.binds (ps:=["game"]) λ _ _ _ _ _ _=>gP λ _=>rfl
 have b9:=t9.F.binds (ps:=["_law_script"]) λ _ _ _ _ _ _=>gP λ _=>rfl
 have V0:=OH.F.binds (ps:=["_law_flow_here","_law_many"]) λ _ _ _ _ _ _=>rQ λ _ _=>rfl
 have SO:=Ld.F.binds (ps:=["_law_found","_law_due_here"]) λ _ _ _ _ _ _=>rQ λ _ _=>rfl
 have VZ:=OG.F.binds (ps:=["_law_flow_here"]) λ _ _ _ _ _ _=>gP λ _=>rfl
 have VY:=OF.F.binds (ps:=["_law_flow_here","_law_many"]) λ _ _ _ _ _ _=>rQ λ _ _=>rfl
 have VX:=OE.F.binds (ps:=["_law_counts_here"]) λ _ _ _ _ _ _=>gP λ _=>rfl
 have VW:=OD.F.binds (ps:=["_law_heaps","_law_many"]) λ _ _ _ _ _ _=>rQ λ _ _=>rfl
 have VV:=OC.F.binds (ps:=["_law_sums"]) λ _ _ _ _ _ _=>gP λ _=>rfl
 have VU:=OB.F.binds (ps:=["_law_text"]) λ _ _ _ _ _ _=>gP λ _=>rfl
 have VT:=OA.F.binds (ps:=["_law_text"]) λ _ _ _ _ _ _=>gP λ _=>rfl
 have VS:=Oz.F.binds (ps:=["_law_flow_here","_law_ahead","_law_many"]) λ _ _ _ _ _ _=>AJ λ _ _ _=>rfl
 have VR:=Oy.F.binds (ps:=["_law_flow_here","_law_most"]) λ _ _ _ _ _ _=>rQ λ _ _=>rfl
 have VQ:=Ox.F.binds (ps:=["_law_flow_here","_law_options","_law_many"]) λ _ _ _ _ _ _=>AJ λ _ _ _=>rfl
 have VP:=Ow.F.binds (ps:=["_law_flow_here","_law_game"]) λ _ _ _ _ _ _=>rQ λ _ _=>rfl
 have VO:=Ov.F.binds (ps:=["_law_thing"]) λ _ _ _ _ _ _=>gP λ _=>rfl
 have VN:=Ou.F.binds (ps:=["_law_options","_law_h","_law_many"]) λ _ _ _ _ _ _=>AJ λ _ _ _=>rfl
 have VM:=Ot.F.binds (ps:=["_law_game"]) λ _ _ _ _ _ _=>gP λ _=>rfl
 have VL:=Oq.F.binds (ps:=["_law_game"]) λ _ _ _ _ _ _=>gP λ _=>rfl
 have dO:=bI.of OH.F (Ec OH.F T (P:=l.prog) (w:=w) (base:=base)) OH.m V0
 have wR:=bI.of t9.F (Eg t9.F T (P:=l.prog) (w:=w) (base:=base)) t9.m b9
 have wQ:=bI.of OG.F (Ef OG.F T dO (P:=l.prog) (w:=w) (base:=base)) OG.m VZ
 have qI:=bI.of OE.F (Je OE.F T (P:=l.prog) (w:=w) (base:=base)) OE.m VX
 have tN:=bI.of OC.F (Ar OC.F T qI (P:=l.prog) (w:=w) (base:=base)) OC.m VV
 have jw:=bI.of OD.F (xG OD.F T (P:=l.prog) (w:=w) (base:=base)) OD.m VW
 have tM:=bI.of OF.F (Aq OF.F T wQ (P:=l.prog) (w:=w) (base:=base)) OF.m VY
 have yP:=bI.of Ld.F (Jg Ld.F T Ld.m SO (P:=l.prog) (w:=w) (base:=base) 5) Ld.m SO
 have iw:=bI.of Oz.F (jU Oz.F T dO jw tN (P:=l.prog) (w:=w) (base:=base)) Oz.m VS
 have ix:=bI.of Oy.F (jV Oy.F T dO tM iw (P:=l.prog) (w:=w) (base:=base)) Oy.m VR
 have oX:=bI.of t1.F (ux t1.F T (P:=l.prog) (w:=w) (base:=base)) t1.m b1
 have kY:=bI.of t2.F (pT t2.F T (P:=l.prog) (w:=w) (base:=base)) t2.m b2
 have oY:=bI.of t3.F (uz t3.F T oX kY (P:=l.prog) (w:=w) (base:=base)) t3.m b3
 have ja:=bI.of OB.F (lU OB.F T (P:=l.prog) (w:=w) (base:=base)) OB.m VU
 have jb:=bI.of OA.F (lV OA.F T ja (P:=l.prog) (w:=w) (base:=base)) OA.m VT
 have mV:=bI.of t4.F (rB t4.F T (P:=l.prog) (w:=w) (base:=base)) t4.m b4
 have qJ:=bI.of t5.F (xF t5.F T mV (P:=l.prog) (w:=w) (base:=base)) t5.m b5
 have wN:=bI.of t0.F (Ed t0.F T (P:=l.prog) (w:=w) (base:=base)) t0.m b0
 have kW:=iZ.of t6.F (pQ t6.F T oY (P:=l.prog) (w:=w) (base:=base)) t6.m b6
 have iu:=iZ.of t7.F (jT t7.F T qJ wN (P:=l.prog) (w:=w) (base:=base)) t7.m b7
 have fZ:=iZ.of t8.F (pR t8.F T kW iu (P:=l.prog) (w:=w) (base:=base)) t8.m b8
 have tP:=bI.of Ox.F (Au Ox.F T dO jw (P:=l.prog) (w:=w) (base:=base)) Ox.m VQ
 have oZ:=bI.of Ow.F (uA Ow.F T dO tP (P:=l.prog) (w:=w) (base:=base)) Ow.m VP
 have kX:=bI.of Ov.F (pS Ov.F T (P:=l.prog) (w:=w) (base:=base)) Ov.m VO
 have wO:=bI.of Ou.F (Ee Ou.F T kX qI (P:=l.prog) (w:=w) (base:=base)) Ou.m VN
 have yO:=bI.of Ot.F (Jf Ot.F T wO jb (P:=l.prog) (w:=w) (base:=base)) Ot.m VM
 have tO:=bI.of Oq.F (As Oq.F T fZ (P:=l.prog) (w:=w) (base:=base)) Oq.m VL
 exact Jd S'.F T wR ix dO oZ yO tO yP fZ
theorem walk{l:PySem.W.OpenLaw}{q:Program}{loose:List Str}{XP:(Str->Option Value)->Heap->Prop}{YP:World->Heap->Prop}{d:DefRec}{K:Params->PySem.W.Frag}(hn:l.most=some 63)(Bw:d.params.defaults=[])
  (hY:∀(w:World) (h:Heap),YP w h->(K w.params).In h)
  (F:∀(w:World) (mg:Str->Option Value) (fa:Addr) (h:Heap),(K w.params).In h->h.Ns mainGlobals mg->mg d.name=some (.ref fa)->
   ∃fd:FuncData,(∀(s:Shared) (u:Value),BindsTo s fd ⟨[u],[]⟩ [("_law_script",u)])/\∀base:Heap,(K w.params).In base->base.Ns mainGlobals mg->bh l.prog w (K w.params) mg base eO 7 fa fd ["_law_script"] (cA (K w.params) qQ)):
  PySem.W.WalkO q loose XP YP l.row.toRowW d [] (λ f vs=>PySem.call f vs):=
 L2.Cy (n:=63) (k:=7) (x:="_law_script") (CX:=λ _=>eO) (sp:=λ w=>cA (K w.params) qQ) hn (by decide) Bw ⟨rfl,by decide,by decide⟩ hY F (λ _ _ a ns hl hO hS=>Js hO hS) λ _ _ _ _ _ z=>z
end KK
open PySem PySem.W PyProof.Rows
def PySem.W.Fast.tw17662905903623982255:Program:=PySem.Challenge.pw_lastloser_k03_the_first_fault_of_several
theorem PySem.W.Fast.te17662905903623982255 : PySem.Challenge.pw_lastloser_k03_the_first_fault_of_several = PySem.W.Fast.tw17662905903623982255 := rfl
def PySem.W.Fast.tw11238782224807507081:Nat:=0
def PySem.W.Fast.tw2035885645244354282:Nat:=0
def PySem.W.Fast.tw17389258389358423757:Nat:=0
def PySem.W.Fast.tw11721045275460943057:Nat:=0
def PySem.W.Fast.tw17193501545268065466:Nat:=0
def PySem.W.Fast.tw14737930230525245435:Nat:=0
def PySem.W.Fast.tw340943301801174815:Nat:=0
namespace KK
open L2
noncomputable def kE (P:Params)(x:Str)(t:Nat)(v:Value):DictEntry:={hash:=PyData.keyHash P x,key:=.str x t,val:=v}
noncomputable def kO (x:Str)(t l n r s u:Nat)(v w:Value):Obj:={cls:=.type "code",data:=.fields #[.str x t,.str x (t+1),.str "/claim/cut.py" (t+2),.int l 0,.int n 0,.int 0 0,.int 0 0,.int 3 0,.ref r,.bool true,.int 181 0,.ref (r+1),.none,v,w,.ref s,.int u 0,.int l 0,.str "/claim/cut.py" (u+1)]}
noncomputable def kF (x:Str)(i:Nat)(m:Str×Nat)(c:Nat):Obj:={cls:=.type "function",data:=.func (PySem.W.fnOf x x (dM (top i)) (cb (top i)) (aj (top i)) .none .none .none (.str m.1 m.2) none (.ref c) .none)}
noncomputable def Tx (q:Str)(c t l n u:Nat):Obj:={cls:=.type "code",data:=.fields #[.str "__init__" t,.str q (t+1),.str "/claim/cut.py" (t+2),.int l 0,.int n 0,.int 0 0,.int 0 0,.int 3 0,.ref (c - 5),.bool true,.int 181 0,.ref (c - 4),.none,.ref (c - 3),.ref (c - 2),.ref (c - 1),.int u 0,.int l 0,.str "/claim/cut.py" (u+1)]}
noncomputable def R9 (q:Str)(i:Nat)(m:Str×Nat)(c:Nat):Obj:={cls:=.type "function",data:=.func (PySem.W.fnOf "__init__" q (dM (Ga i)) (cb (Ga i)) (aj (Ga i)) .none .none .none (.str m.1 m.2) none (.ref c) .none)}
abbrev kC(x:Str)(a:Nat)(bs bm sub:List Value)(s t u:Nat):Obj:=excClassObj x x a (a - 1) bs bm true [] sub false none none (some (.ref s)) none (some (.str x t)) (some (.str x u)) (some (.bool true)) "ValueError.__new__"
noncomputable def kP (x:Str)(a i:Nat)(m:Str×Nat)(t l n u q:Nat):List (Nat×Obj):=[(a,if q=0 then kO x t l n (a - 3) (a - 1) u .none .none else kO x t l n (a - 5) (a - 1) u (.ref (a - 3)) (.ref (a - 2))),(a+1,kF x i m a)]
noncomputable def m4:Str×Nat:=("lastloser.errors",187)
noncomputable def m0:Str×Nat:=("lastloser.games",287)
noncomputable def m1:Str×Nat:=("lastloser.sums",234)
noncomputable def m2:Str×Nat:=("lastloser.words",242)
noncomputable def m3:Str×Nat:=("law_lastloser_k03_the_first_fault_of_several",327)
noncomputable def kD (P:Params):Obj:={cls:=.type "dict",data:=.dict #[kE P "__name__" 165 (.str "law_lastloser_k03_the_first_fault_of_several" 327),kE P "__doc__" 166 .none,kE P "__package__" 167 .none,kE P "__loader__" 168 (.builtin "__main__.__loader__#opaque"),kE P "__spec__" 169 .none,kE P "__annotations__" 170 (.ref 6),kE P "__builtins__" 171 (.ref 4),kE P "__file__" 173 (.str "/claim/cut.py" 172),kE P "__cached__" 174 .none,kE P "HeapError" 206 (.ref 24),kE P "NoGame" 233 (.ref 44),kE P "order_key" 241 (.ref 51),kE P "LETTERS" 245 (.str "abcdefghijklmnopqrstuvwxyz" 244),kE P "FIGURES" 255 (.ref 52),kE P "TAKEN" 264 (.ref 53),kE P "LONGEST_WORD" 266 (.int 5 265),kE P "is_word" 272 (.ref 58),kE P "is_figure" 279 (.ref 65),kE P "is_name" 286 (.ref 72),kE P "is_whole" 295 (.ref 79),kE P "is_sum" 301 (.ref 84),kE P "look_name" 310 (.ref 91),kE P "look_options" 316 (.ref 96),kE P "look_game" 326 (.ref 103),kE P "_law_flow" 335 (.ref 110),kE P "_law_pick" 345 (.ref 117),kE P "_law_alike" 351 (.ref 122),kE P "_law_name" 357 (.ref 127),kE P "_law_names" 369 (.ref 134),kE P "_law_key" 375 (.ref 139),kE P "_law_counts" 381 (.ref 144),kE P "_law_in_order" 387 (.ref 149),kE P "_law_is_word" 393 (.ref 154),kE P "_law_is_name" 400 (.ref 161),kE P "_law_any_sums" 406 (.ref 166),kE P "_law_any_game" 412 (.ref 171),kE P "_law_changed_options" 418 (.ref 176),kE P "_law_changed" 424 (.ref 181),kE P "_law_whole" 431 (.ref 188),kE P "_law_options_due" 437 (.ref 193),kE P "_law_due" 443 (.ref 198),kE P "_law_heard" 452 (.ref 205),kE P "law" 465 (.ref 212)] 43}
noncomputable def Tt (P:Params):Obj:={cls:=.type "dict",data:=.dict #[kE P "__module__" 196 (.str "lastloser.errors" 187),kE P "__firstlineno__" 200 (.int 2 199),kE P "__static_attributes__" 201 (.ref 22),kE P "__weakref__" 203 (.ref 25),kE P "__doc__" 204 .none] 3}
noncomputable def Ts (P:Params):Obj:={cls:=.type "dict",data:=.dict #[kE P "__module__" 214 (.str "lastloser.errors" 187),kE P "__firstlineno__" 218 (.int 4 217),kE P "__init__" 227 (.ref 41),kE P "__static_attributes__" 230 (.ref 42),kE P "__doc__" 231 .none] 2}
noncomputable def kT (vs:List Value)(n:Nat):Obj:={cls:=.type "tuple",data:=.seq vs.toArray n}
noncomputable def kK (P:Params):PySem.W.Frag:=(3,kD P)::[(2,{cls:=.none,data:=.dict #[]}),(23,Tt P),(24,kC "HeapError" 24 [.type "ValueError"] [.type "ValueError",.type "Exception",.type "BaseException",.type "object"] [.ref 44] 15 189 197),(43,Ts P),(44,kC "NoGame" 44 [.ref 24] [.ref 24,.type "ValueError",.type "Exception",.type "BaseException",.type "object"] [] 28 207 215),(40,Tx "NoGame.__init__" 40 219 6 3 225),(41,R9 "NoGame.__init__" 2 m4 40),(52,kT [.str "1" 246,.str "2" 247,.str "3" 248,.str "4" 249,.str "5" 250,.str "6" 251,.str "7" 252,.str "8" 253,.str "9" 254] 0),(53,kT [.str "row" 256,.str "to" 257,.str "take" 258,.str "none" 259,.str "one" 260,.str "two" 261,.str "as" 262,.str "heap" 263] 0)]++[kP "order_key" 50 4 m1 236 11 1 239 0,kP "is_word" 57 10 m2 267 18 1 270 0,kP "is_figure" 64 11 m2 273 22 1 277 1,kP "is_name" 71 12 m2 280 24 1 284 1,kP "is_whole" 78 14 m0 289 27 1 293 1,kP "is_sum" 83 15 m0 296 29 2 299 0,kP "look_name" 90 16 m0 302 33 3 308 1,kP "look_options" 95 17 m0 311 38 3 314 0,kP "look_game" 102 18 m0 317 48 1 324 1,kP "_law_flow" 109 20 m3 329 56 1 333 1,kP "_law_pick" 116 21 m3 336 58 2 343 1,kP "_law_alike" 121 22 m3 346 73 2 349 0,kP "_law_name" 126 23 m3 352 85 1 355 0,kP "_law_names" 133 24 m3 358 94 2 367 1,kP "_law_key" 138 25 m3 370 104 1 373 0,kP "_law_counts" 143 26 m3 376 106 2 379 0,kP "_law_in_order" 148 27 m3 382 108 1 385 0,kP "_law_is_word" 153 28 m3 388 110 1 391 0,kP "_law_is_name" 160 29 m3 394 114 1 398 1,kP "_law_any_sums" 165 30 m3 401 118 3 404 0,kP "_law_any_game" 170 31 m3 407 124 2 410 0,kP "_law_changed_options" 175 32 m3 413 128 3 416 0,kP "_law_changed" 180 33 m3 419 143 2 422 0,kP "_law_whole" 187 34 m3 425 153 1 429 1,kP "_law_options_due" 192 35 m3 432 155 3 435 0,kP "_law_due" 197 36 m3 438 168 1 441 0,kP "_law_heard" 204 37 m3 444 179 1 450 1,kP "law" 211 38 m3 453 188 1 463 1].flatten
noncomputable def kA:List Addr:=[3,2,23,24,43,44,40,41,52,53,50,51,57,58,64,65,71,72,78,79,83,84,90,91,95,96,102,103,109,110,116,117,121,122,126,127,133,134,138,139,143,144,148,149,153,154,160,161,165,166,170,171,175,176,180,181,187,188,192,193,197,198,204,205,211,212]
theorem tF{K:PySem.W.Frag}{h:Heap}{mg:Str->Option Value}{x:Str}{i:Nat}(X:K.In h)(G:h.Ns mainGlobals mg)(m:Str×Nat)(c:Nat)(a:PySem.W.nsIn K mainGlobals x=some (some (.ref (c+1))):=by kernel_rfl)(l:K.lookup (c+1)=some (kF x i m c):=by kernel_rfl)(e:PySem.W.codeIn K (.ref c) x=true:=by kernel_rfl):cW K mg x i (c+1) (PySem.W.fnOf x x (dM (top i)) (cb (top i)) (aj (top i)) .none .none .none (.str m.1 m.2) none (.ref c) .none):=
 ⟨PySem.W.mg_of X G a,BE (st:=top i) l e (by unfold PySem.W.keepIn;dsimp only;rw[l];rfl)⟩
theorem kn{K:PySem.W.Frag}{h:Heap}{mg:Str->Option Value}{x:Str}(X:K.In h)(G:h.Ns mainGlobals mg)(e:PySem.W.nsIn K mainGlobals x=some none:=by kernel_rfl):mg x=none:=PySem.W.mg_none_of X G e
theorem cB{K:PySem.W.Frag}(x:Str)(a:Nat)(bs bm sub:List Value)(s t u:Nat)(l:K.lookup a=some (kC x a bs bm sub s t u):=by kernel_rfl)(e:bm.contains (.type "BaseException")=true:=by kernel_rfl):kb K a:=⟨⟨_,_,_,_,_,_,_,_,_,_,_,_,_,_,_,_,_,l,e⟩⟩
theorem cF{K:PySem.W.Frag}{h:Heap}{mg:Str->Option Value}{q:Str}{ps ns:List Str}(X:K.In h)(G:h.Ns mainGlobals mg)(m:Str×Nat)(i:Nat)(x:Str)(a:Nat)(bs bm sub:List Value)(s t u:Nat)(e1:PySem.W.nsIn K mainGlobals x=some (some (.ref a)):=by kernel_rfl)(l:K.lookup a=some (kC x a bs bm sub s t u):=by kernel_rfl)(l2:K.lookup (a - 3)=some (R9 q i m (a - 4)):=by kernel_rfl)(e2:PySem.W.codeIn K (.ref (a - 4)) q=true:=by kernel_rfl)(e3:PySem.W.tailIn K RH bm=true:=by kernel_rfl)(e4:PySem.W.nsOkIn K (a - 1)=true:=by kernel_rfl)(e5:PySem.W.nsIn K (a - 1) "__init__"=some (some (.ref (a - 3))):=by kernel_rfl)(e6:PySem.W.isFn K (.ref (a - 3))=true:=by kernel_rfl)(e7:PySem.W.keepIn K (.ref a)=true:=by kernel_rfl)(e8:PySem.W.findIn K (.ref a) "__setattr__"=some (some (.builtin "object.__setattr__")):=by kernel_rfl)
  (f1:PySem.W.findIn K (.ref a) "__getattribute__"=some (some (.builtin "BaseException.__getattribute__")):=by kernel_rfl) (f2:PySem.W.findIn K (.ref a) "__getattr__"=some none:=by kernel_rfl) (f3:PySem.W.mroIn K a (.type "BaseException")=some true:=by kernel_rfl) (f4:PySem.W.mroIn K a (.type "object")=some true:=by kernel_rfl) (f5:(PySem.W.clsIn K a).any (·.hasDict)=true:=by kernel_rfl) (f6:PySem.W.findIn K (.ref a) "__class__"=some (some (.builtin "object.__class__")):=by kernel_rfl) (f7:PySem.W.specialIn K (.builtin "object.__class__") "__get__"=some (some (.builtin "getset_descriptor.__get__")):=by kernel_rfl) (f8:PySem.W.takesIn K (.builtin "object.__class__")=some true:=by kernel_rfl)
  (Vj:(ns.all λ f=>L4.JI (PySem.W.findIn K (.ref a) f))=true:=by kernel_rfl) (Vi:bm.contains (.type "BaseException")=true:=by kernel_rfl):L4.yC K mg x q (Ga i) a (a - 3) ps ns:=
 ⟨PySem.W.mg_of X G e1,⟨_,BE (st:=Ga i) l2 e2 (by unfold PySem.W.keepIn;dsimp only;rw[l2];rfl)⟩,⟨⟨_,_,_,_,_,_,_,_,_,_,_,_,_,_,_,l,e3,e4,e5⟩,e6,e7,e8⟩,⟨f1,f2,f3,f4,f5,f6,f7,f8⟩,⟨⟨_,_,_,_,_,_,_,_,_,_,_,_,_,_,_,_,_,l,Vi⟩⟩,Vj⟩
theorem gT{K:PySem.W.Frag}{h:Heap}{mg:Str->Option Value}{zs:List Str}(X:K.In h)(G:h.Ns mainGlobals mg)(x:Str)(a:Nat)(vs:List Value)(n:Nat)(e:PySem.W.nsIn K mainGlobals x=some (some (.ref a)):=by kernel_rfl)(l:K.lookup a=some (kT vs n):=by kernel_rfl)(v:L3.fF vs=some zs:=by kernel_rfl)(z:vs.length<=sizeLine:=by decide):L3.jP K mg x (.tup (zs.map L3.D.str)):=
 L3.BD (PySem.W.mg_of X G e) l (by simpa using v) (by simpa using z)
def pg:Program:={PySem.Challenge.pw_lastloser_k03_the_first_fault_of_several with main:={PySem.Challenge.pw_lastloser_k03_the_first_fault_of_several.main with body:=[top 0,top 1,top 2,top 3,top 4,top 5,top 6,top 7,top 8,top 9,top 10,top 11,top 12,top 13,top 14,top 15,top 16,top 17,top 18,top 19,top 20,top 21,top 22,top 23,top 24,top 25,top 26,top 27,top 28,top 29,top 30,top 31,top 32,top 33,top 34,top 35,top 36,top 37,top 38]}}
def lw:PySem.W.OpenLaw:={PySem.Challenge.rw_lastloser_k03_the_first_fault_of_several with prog:=pg}
end KK
set_option maxRecDepth 100000 in
set_option maxHeartbeats 0 in
theorem KK.pre:KK.lw.Holds:=by
 w_on;o_law;o_head (PySem.W.kHook KK.kK KK.kA (λ _=>by kernel_rfl));(case hw=>w_witness2)
 refine KK.walk (l:=KK.lw) rfl rfl (λ w h Y=>PySem.W.kIn_of Y) ?F
 case F=>
  intro w mg fa h KX G MT
  have hm:mg "law"=some (.ref fa):=MT
  have e:=hm.symm.trans (PySem.W.mg_of KX G (v:=.ref (211+1)) (by kernel_rfl))
  cases e
  exact KK.all_mk ⟨KK.kn KX G,KK.kn KX G,KK.kn KX G,KK.kn KX G,KK.kn KX G,KK.kn KX G,KK.kn KX G,KK.kn KX G,KK.kn KX G,KK.kn KX G,KK.kn KX G,KK.kn KX G,KK.kn KX G,KK.kn KX G,KK.kn KX G,KK.kn KX G,KK.A8 _,KK.EL _,KK.A7 _,KK.EK _,KK.xW _,⟨_,.str _,PySem.W.mg_of KX G (v:=.str "abcdefghijklmnopqrstuvwxyz" 244) (by kernel_rfl),⟨_,rfl⟩,λ H=>L3.aN.mpr rfl⟩,KK.gT KX G "FIGURES" 52 [.str "1" 246,.str "2" 247,.str "3" 248,.str "4" 249,.str "5" 250,.str "6" 251,.str "7" 252,.str "8" 253,.str "9" 254] 0,KK.gT KX G "TAKEN" 53 [.str "row" 256,.str "to" 257,.str "take" 258,.str "none" 259,.str "one" 260,.str "two" 261,.str "as" 262,.str "heap" 263] 0,⟨_,.int _,PySem.W.mg_of KX G (v:=.int 5 265) (by kernel_rfl),⟨_,rfl⟩,λ H=>L3.av.mpr rfl⟩,PySem.W.mg_of KX G (by kernel_rfl),⟨by kernel_rfl,by kernel_rfl,by kernel_rfl⟩,KK.cB "HeapError" 24 [.type "ValueError"] [.type "ValueError",.type "Exception",.type "BaseException",.type "object"] [.ref 44] 15 189 197,KK.cF KX G KK.m4 2 "NoGame" 44 [.ref 24] [.ref 24,.type "ValueError",.type "Exception",.type "BaseException",.type "object"] [] 28 207 215,by kernel_rfl,by kernel_rfl⟩ (KK.tF KX G KK.m1 50) (KK.tF KX G KK.m2 57) (KK.tF KX G KK.m2 64) (KK.tF KX G KK.m2 71) (KK.tF KX G KK.m0 78) (KK.tF KX G KK.m0 83) (KK.tF KX G KK.m0 90) (KK.tF KX G KK.m0 95) (KK.tF KX G KK.m0 102) (KK.tF KX G KK.m3 109) (KK.tF KX G KK.m3 116) (KK.tF KX G KK.m3 121) (KK.tF KX G KK.m3 126) (KK.tF KX G KK.m3 133) (KK.tF KX G KK.m3 138) (KK.tF KX G KK.m3 143) (KK.tF KX G KK.m3 148) (KK.tF KX G KK.m3 153) (KK.tF KX G KK.m3 160) (KK.tF KX G KK.m3 165) (KK.tF KX G KK.m3 170) (KK.tF KX G KK.m3 175) (KK.tF KX G KK.m3 180) (KK.tF KX G KK.m3 187) (KK.tF KX G KK.m3 192) (KK.tF KX G KK.m3 197) (KK.tF KX G KK.m3 204) (KK.tF KX G KK.m3 211)
theorem PySem.Challenge.cw_lastloser_k03_the_first_fault_of_several_holds : PySem.Challenge.rw_lastloser_k03_the_first_fault_of_several.Holds :=
 KK.pre
