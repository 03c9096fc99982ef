import PyProof.Rows.All
import Wide.All
import OpenK.AllK
import Wide.FinOn
import Lean
import PyProof.EqAt
import PyProof.EqKinds
import PyProof.TupleCall
import PyProof.StrWalks
import PyProof.ConsumeWalk
import PyProof.TupleKey
import PyProof.DictFindH
import PyProof.P3Eq
import PyProof.DictRoadsH
import PyProof.Rows.TupTab
import KE.KLam
import KE.KSortTup
import PyProof.ZipIter
import PyProof.Draws
import PyProof.WalksMore
import PyProof.ListMulRoad
import PyProof.AutoListH
import PyProof.FactsAll.tuple_2
import PyProof.FactsAll.tuple
import PyProof.TupleIter
import PyProof.AttrMissHeap
import PyProof.DictIter
import PyProof.DictWalks
import KE.KDictSum
import KE.KDictOf
import PyProof.EnumMake
import KE.BitLaws
import PyProof.RaisesMany
import PyProof.ExcInit
import PyProof.ExcClass3
import PyProof.ExcArgsOwn
import PyProof.RulesTry
import PyProof.RulesAs
import PyProof.NsDelKeeps
import KE.KIsAll
import PyProof.Rows.SortWalk
import PyProof.Rows.Range3
import PyProof.ListRange
import PySem.Challenge.RW_lastloser_k29_first_sums
set_option tactic.hygienic false
local macro_rules|`(tactic|omega)=>`(tactic|lia)
local macro_rules|`(tactic|obtain $p:rcasesPatMed:=$t:term)=>`(tactic|first|(refine Classical.byContradiction fun k=>?_;rcases $t:term with $p:rcasesPatMed<;>(refine k ?_;clear k))|rcases $t:term with $p:rcasesPatMed)
set_option Elab.async false
set_option linter.all false
set_option maxRecDepth 100000
set_option maxHeartbeats 4000000
open List
def a0:=@PyProof.Rows.slot_tuple_getitem
def a6:=@eq_nil_of_length_eq_zero
def a7:=@PyProof.Rows.callWith_type1
def a8:=@PySem.F.slot_tuple_iterator_next
def a9:=@getElem?_append_right
def c3:=@getD_eq_getElem?_getD
def c4:=@getElem?_append_left
def c5:=@Array.getElem?_eq_getElem
def c6:=@List.getElem?_eq_some_iff
def c7:=@List.getElem?_eq_none_iff
def c8:=@PySem.F.slot_list_append
def c9:=@getElem?_eq_getElem
def g0:=@PySem.F.type_list_append
def g9:=@PySem.F.plainAttrs_list
def i0:=@getElem?_replicate
def i3:=@PySem.wpAny_callSpecial?_slot
def i4:=@length_eq_zero_iff
def i5:=@PySem.Heap.get?_push_of_some
def i6:=@PySem.Heap.get?_update_other
def i7:=@getElem?_set_self
def i8:=@PySem.Heap.get?_update_self
def i9:=@mem_append_right
def j0:=@length_singleton
def j2:=@length_replicate
def j3:=@mem_cons_of_mem
def j4:=@mem_of_getElem?
def j5:=@getElem?_set_ne
def j6:=@PySem.Heap.SameBut.update
def j7:=@PySem.mem_of_lookup
def j8:=@replicate_succ
def j9:=@Array.length_toList
def k4:=@PySem.Heap.get?_push_size
def k5:=@PySem.F.plain_extend_loop
def k7:=@mem_cons_self
def k8:=@Bool.false_ne_true
def k9:=@length_append
def l0:=@Bool.false_eq_true
def l4:=@Int.emod_lt_of_pos
def l5:=@PySem.wpAny_setField_rec
def l6:=@Nat.lt_of_le_of_lt
def l7:=@Nat.lt_of_lt_of_le
def l8:=@mem_singleton
def l9:=@PySem.wpAny_Call_Name_kw
def m6:=@Int.lt_of_le_of_lt
def m7:=@PySem.tupleKind_room_in1
def m8:=@getElem?_map
def m9:=@Int.toNat_natCast
def n5:=@PySem.wpAny_newObj_type
def n6:=@flatten_cons
def n9:=@length_range
def o6:=@Option.isSome_map
def o7:=@List.size_toArray
def o8:=@Nat.lt_succ_of_lt
def p4:=@lookup_cons
def p5:=@length_cons
def p6:=@PySem.wpAny_call_entry
def p7:=@Bool.and_eq_true
def p8:=@getElem_mem
def p9:=@Nat.le_add_right
def q8:=@Bool.eq_iff_iff
def q9:=@append_nil
def r6:=@find?_cons
def r9:=@decide_eq_false
def s9:=@Int.emod_nonneg
def u6:=@Option.some.inj
def u7:=@PySem.PassesOwn.never
def u9:=@PySem.wpAny_passesOwn
def w5:=@PySem.W.kia_one
def w6:=@length_map
def w9:=@mem_append
def x3:=@map_append
def x4:=@Nat.le_antisymm
def x5:=@PySem.wpAny_updateSeq
def x6:=@PySem.wpAny_specialOf
def x8:=@decide_eq_true
def x9:=@PySem.wpAny_seqItems
def y0:=@PySem.Heap.size_push
def y3:=@PySem.wpAny_holding
def y4:=@PySem.Paired.length
def y6:=@Nat.lt_irrefl
def y7:=@map_cons
def y8:=@mem_cons
def y9:=@Int.zero_add
def z9:=@Nat.ne_of_lt
def A0:=@PySem.Heap.lt_size
def A1:=@mem_map
def A2:=@Nat.le_trans
def A3:=@Nat.le_of_eq
def A4:=@Nat.ne_of_gt
def A5:=@Nat.le_of_lt
def A6:=@Nat.le_refl
def A7:=@PySem.sizeLine_eq
def A8:=@Nat.zero_le
def A9:=@PySem.wpAny_field
def B0:=@PySem.wpAny_bind
def B1:=@PySem.wpAny_pure
def B2:=@PySem.wpAny_rule
def B3:=@PySem.call_meets
def B4:=@PySem.wpAny_mono
def B5:=@if_false
def B6:=@congrArg
def B7:=@Ne.symm
def B8:=@if_pos
def B9:=@if_neg
abbrev C0:=PySem.W.Frag
namespace L2
open PySem PySem.Spec PyProof.Rows
abbrev Key:=Sum Int Str
def lN:Key->Value->Bool
 | .inl k,v=>Value.isInt k v
 | .inr x,v=>Value.isStrOf x v
def NI(w:World):Key->Int
 | .inl k=>hashInt k
 | .inr x=>hashStr w x
theorem bG:∀{k:Key} {v:Value},lN k v=true->(∃i t,k=Sum.inl i/\v=Value.int i t)\/(∃x t,k=Sum.inr x/\v=Value.str x t)
 | .inl i,v,h=>by obtain⟨t,e⟩:=Value.isInt_shape (k:=i) (v:=v) h;exact .inl ⟨i,t,rfl,e⟩
 | .inr x,v,h=>by obtain⟨t,e⟩:=Value.isStrOf_shape (x:=x) (v:=v) h;exact .inr ⟨x,t,rfl,e⟩
theorem wO(i:Int)(t:Tok):lN (.inl i) (.int i t)=true:=by simp[lN,Value.isInt]
theorem wN(x:Str)(t:Tok):lN (.inr x) (.str x t)=true:=by simp[lN,Value.isStrOf]
theorem Hw(a b:Int):decide ((Sum.inl a:Key)=Sum.inl b)=(a==b):=by
 by_cases e:a=b
 ·subst e;simp
 ·have h:¬(Sum.inl a:Key)=Sum.inl b:=λ q=>e (Sum.inl.inj q);rw[r9 h];exact(beq_eq_false_iff_ne.mpr e).symm
theorem Ht(a b:Str):decide ((Sum.inr a:Key)=Sum.inr b)=decide (a=b):=by
 by_cases e:a=b
 ·subst e;simp
 ·have h:¬(Sum.inr a:Key)=Sum.inr b:=λ q=>e (Sum.inr.inj q);rw[r9 h,r9 e]
theorem Hv(a:Int)(b:Str):decide ((Sum.inl a:Key)=Sum.inr b)=false:=r9 (λ q=>nomatch q)
theorem Hu(a:Str)(b:Int):decide ((Sum.inr a:Key)=Sum.inl b)=false:=r9 (λ q=>nomatch q)
def cj(prog:Program)(w:World):PySem.KeyKind prog w Key where
 is:=lN
 hash:=NI w
 inj:=λ v a b ha hb=>by
  rcases bG ha with⟨i,t,rfl,rfl⟩|⟨x,t,rfl,rfl⟩
  ·rcases bG hb with⟨j,u,rfl,e⟩|⟨y,u,rfl,e⟩
   ·injection e with e1 _;rw[e1]
   ·exact nomatch e
  ·rcases bG hb with⟨j,u,rfl,e⟩|⟨y,u,rfl,e⟩
   ·exact nomatch e
   ·injection e with e1 _;rw[e1]
 byValue:=λ k v h=>by rcases bG h with⟨i,t,rfl,rfl⟩|⟨x,t,rfl,rfl⟩ <;> rfl
 pyHash:=λ hv h=>by
  rcases bG hv with⟨i,t,rfl,rfl⟩|⟨x,t,rfl,rfl⟩
  ·exact wpAny_pyHash_int h
  ·exact wpAny_pyHash_str h
 eqBool:=λ hu hv h=>by
  rcases bG hu with⟨i,t,rfl,rfl⟩|⟨x,t,rfl,rfl⟩
  ·rcases bG hv with⟨j,u,rfl,rfl⟩|⟨y,u,rfl,rfl⟩
   ·rw[Hw]at h;exact wpAny_eqBool_int h
   ·rw[Hv]at h;exact SeqAt.EqAt.int_str i t y u _ _ _ _ h
  ·rcases bG hv with⟨j,u,rfl,rfl⟩|⟨y,u,rfl,rfl⟩
   ·rw[Hu]at h;exact SeqAt.EqAt.str_int x t j u _ _ _ _ h
   ·rw[Ht]at h;exact wpAny_eqBool_str h
 «strs»:=λ k x t v h=>by
  rcases bG h with⟨i,u,rfl,e⟩|⟨y,u,rfl,e⟩
  ·exact nomatch e
  ·injection e with e1 _
   subst e1;cases v <;> rfl
theorem qH(prog:Program)(w:World)(i:Int)(t:Tok):(cj prog w).is (.inl i) (.int i t)=true:=wO i t
theorem qG(prog:Program)(w:World)(x:Str)(t:Tok):(cj prog w).is (.inr x) (.str x t)=true:=wN x t
inductive V where
 |bf|bl (b:Bool)|int (i:Int)|str (x:Str)|AQ (b:Array UInt8)|Jh (b:UInt64)|ref (a:Addr)|ty (n:String)
 deriving DecidableEq
def RelV:V->Value->Prop
 | .bf,u=>u=Value.none
 | .bl b,u=>u=Value.bool b
 | .int i,u=>∃t,u=Value.int i t
 | .str x,u=>∃t,u=Value.str x t
 | .AQ b,u=>∃t,u=Value.bytes b t
 | .Jh b,u=>∃t,u=Value.float b t
 | .ref a,u=>u=Value.ref a
 | .ty n,u=>u=Value.type n
abbrev Vals:List V->List Value->Prop:=Paired RelV
theorem Vals.length {xs:List V}{us:List Value}(r:Vals xs us):xs.length=us.length:=y4 r
theorem Vals.get:∀{xs:List V} {us:List Value} {i:Nat} {x:V},Vals xs us->xs[i]?=some x->∃u,us[i]?=some u/\RelV x u
 |_,_,_,_,.nil,e=>by simp at e
 |_,_,0,_,.cons r _,e=>by simp at e;subst e;exact⟨_,rfl,r⟩
 |_,_,i+1,x,.cons _ t,e=>by obtain⟨u,h1,h2⟩:=Vals.get (i:=i) (x:=x) t (by simpa using e);exact⟨u,by simpa using h1,h2⟩
theorem Vals.set {x:V}{u:Value}(r:RelV x u):∀{xs:List V} {us:List Value} (i:Nat),Vals xs us->Vals (xs.set i x) (us.set i u)
 |_,_,_,.nil=>.nil
 |_,_,0,.cons _ t=>.cons r t
 |_,_,i+1,.cons q t=>.cons q (Vals.set r i t)
theorem Vals.append:∀{xs ys:List V} {us ws:List Value},Vals xs us->Vals ys ws->Vals (xs++ys) (us++ws)
 |_,_,_,_,.nil,s=>s
 |_,_,_,_,.cons r t,s=>.cons r (Vals.append t s)
theorem Vals.take:∀{xs:List V} {us:List Value} (n:Nat),Vals xs us->Vals (xs.take n) (us.take n)
 |_,_,0,_=>.nil
 |_,_,_+1,.nil=>.nil
 |_,_,n+1,.cons r t=>.cons r (Vals.take n t)
theorem Vals.drop:∀{xs:List V} {us:List Value} (n:Nat),Vals xs us->Vals (xs.drop n) (us.drop n)
 |_,_,0,r=>r
 |_,_,_+1,.nil=>.nil
 |_,_,n+1,.cons _ t=>Vals.drop n t
def iM:Option V->Option Value->Prop
 |some v,some u=>RelV v u
 |none,none=>True
 |_,_=>False
def KV{κ:Type}:List (κ×V)->List (κ×Value)->Prop:=Paired λ(p:κ×V) (q:κ×Value)=>p.1=q.1/\RelV p.2 q.2
def kV:Key->V
 | .inl i=>.int i
 | .inr x=>.str x
inductive HO where
  |lst (xs:List V)
  |tup (xs:List V)
  |dK (kvs:List (Key×V))|dT (kvs:List (List Key×V))
  |set (S:Int->Bool) (n:Nat)
  |ins (C dx:Addr) (fs:List (Str×V))
  |own (x:Addr)
  |xd (fs:List (Str×V))
  |met (f x:Addr)
  |Ft (lo hi:Int)
  |cD (o:Obj) (u:HO)
  |j_ (ps:Array Value)
  |ext (φ:Heap->Prop)
abbrev Hp:=Addr->Option HO
def upd(H:Hp)(a:Addr)(o:HO):Hp:=λ b=>if b=a then some o else H b
theorem aG{H:Hp}{a:Addr}{o:HO}:upd H a o a=some o:=by unfold upd;rw[B8 rfl]
theorem aF{H:Hp}{a b:Addr}{o:HO}(h:b≠a):upd H a o b=H b:=by unfold upd;rw[B9 h]
theorem bJ{H:Hp}{a b:Addr}{o u:HO}(h:H a=some o)(h':H b=some u)(d:o≠u):a≠b:=by intro e;subst e;rw[h]at h';exact d (u6 h')
theorem bB{H:Hp}{a b:Addr}{o:HO}(h:H a=some o)(h':H b=none):a≠b:=by intro e;subst e;rw[h]at h';cases h'
section
variable (P:Program)(w:World)
def bp(H:Hp)(h:Heap)(a:Addr):HO->Prop
 | .lst xs=>xs.length<=sizeLine/\∃(aw:List Value) (n:Nat),Vals xs aw/\h.get? a=some {cls:=.type "list",data:=.seq aw.toArray n}
 | .tup xs=>xs.length<=sizeLine/\∃aw:List Value,Vals xs aw/\IsTup h a aw.toArray
 | .dK kvs=>kvs.length<=sizeLine/\(a==sysModules)=false/\∃vs,KV kvs vs/\h.DictOf (cj P w) a vs
 | .dT kvs=>kvs.length<=sizeLine/\(a==sysModules)=false/\∃xs:List (List Key×Addr×Value),
   Paired (λ(p:List Key×V) (q:List Key×Addr×Value)=>p.1=q.1/\H q.2.1=some (.tup (p.1.map kV))/\RelV p.2 q.2.2) kvs xs/\
   ∃o es ep,h.get? a=some o/\o.ExactDict/\o.data=.dict es ep/\es.toList=xs.map (entryOfKey (tupleKind (cj P w)))/\(xs.map (·.1)).Nodup
 | .set S n=>h.SetOf (intKind P w) a S n
 | .ins C dx fs=>H dx=some (.own a)/\fs.length<=1000/\dx≠a/\h.get? a=some (PySem.W.instObj C dx)/\
   ∃mA,h.Ns1 dx mA/\(∀f,iM (fs.lookup f) (mA f))/\PySem.Within mA (fs.map (·.1))
 | .own _=>∃o,h.get? a=some o
 | .xd fs=>∃mA,h.Ns1 a mA/\∀f,iM (fs.lookup f) (mA f)
 | .Ft lo hi=>∃t u v,h.get? a=some {cls:=.type "range",data:=.fields #[.int lo t,.int hi u,.int 1 v]}
 | .cD o u=>h.get? a=some o/\bp H h a u
 | .j_ ps=>h.get? a=some {cls:=.none,data:=.fields ps}
 | .met f x=>h.get? a=some (PySem.W.methodObj (.ref f) (.ref x))
 | .ext φ=>φ h/\(∃o,h.get? a=some o)/\∀h1 h2:Heap,φ h1->(∀o,h1.get? a=some o->h2.get? a=some o)->φ h2
def fg(H:Hp)(h:Heap):Prop:=∀a o,H a=some o->bp P w H h a o
end
section
variable {P:Program}{w:World}{H H':Hp}{h h':Heap}{a:Addr}{o:HO}
theorem bp.lt (x:bp P w H h a o):a < h.objs.size:=by
 cases o with
 |lst xs=>obtain⟨_,_,_,_,e⟩:=x;exact A0 e
 |tup xs=>obtain⟨_,_,_,p⟩:=x;exact p.lt
 |dK kvs=>obtain⟨_,_,_,_,o,_,_,e,_⟩:=x;exact A0 e
 |dT kvs=>obtain⟨_,_,_,_,o,_,_,e,_⟩:=x;exact A0 e
 |set S n=>obtain⟨o,_,_,_,e,_⟩:=x;exact A0 e
 |ins C dx fs=>obtain⟨_,_,_,e,_⟩:=x;exact A0 e
 |own y=>obtain⟨_,e⟩:=x;exact A0 e
 |xd fs=>obtain⟨_,⟨_,_,_,e,_⟩,_⟩:=x;exact A0 e
 |Ft lo hi=>obtain⟨_,_,_,e⟩:=x;exact A0 e
 |cD ob u=>obtain⟨e,_⟩:=x;exact A0 e
 |j_ ps=>exact A0 (show h.get? a=some _ from x)
 |met f y=>exact A0 (show h.get? a=some _ from x)
 |ext φ=>obtain⟨_,⟨_,e⟩,_⟩:=x;exact A0 e
theorem Paired.qI {α β:Type}{F G:α->β->Prop}:∀{l₁:List α} {l₂:List β},Paired F l₁ l₂->(∀a b,F a b->G a b)->Paired G l₁ l₂
 |_,_,.nil,_=>.nil
 |_,_,.cons r t,f=>.cons (f _ _ r) (Paired.qI t f)
theorem bp.my (x:bp P w H h a o)(k:∀b u,(b=a\/H b=some (.own a))->h.get? b=some u->h'.get? b=some u) (ho:∀b,H b=some (.own a)->H' b=some (.own a)) (ht:∀b xs,H b=some (.tup xs)->H' b=some (.tup xs)):bp P w H' h' a o:=by
 induction o with
 |lst xs=>obtain⟨z,aw,n,r,e⟩:=x;exact⟨z,aw,n,r,k _ _ (.inl rfl) e⟩
 |tup xs=>obtain⟨z,aw,r,ob,e,c⟩:=x;exact⟨z,aw,r,ob,k _ _ (.inl rfl) e,c⟩
 |dK kvs=>obtain⟨z,y,vs,r,ob,es,ep,e,c⟩:=x;exact⟨z,y,vs,r,ob,es,ep,k _ _ (.inl rfl) e,c⟩
 |dT kvs=>obtain⟨z,y,xs,r,ob,es,ep,e,c⟩:=x;exact⟨z,y,xs,Paired.qI r λ p q z=>⟨z.1,ht _ _ z.2.1,z.2.2⟩,ob,es,ep,k _ _ (.inl rfl) e,c⟩
 |set S n=>obtain⟨ob,es,ep,t,e,c⟩:=x;exact⟨ob,es,ep,t,k _ _ (.inl rfl) e,c⟩
 |ins C dx fs=>obtain⟨d,z,ne,e,mA,⟨od,es,ep,e2,c⟩,r⟩:=x;exact⟨ho _ d,z,ne,k _ _ (.inl rfl) e,mA,⟨od,es,ep,k _ _ (.inr d) e2,c⟩,r⟩
 |own y=>obtain⟨ob,e⟩:=x;exact⟨ob,k _ _ (.inl rfl) e⟩
 |xd fs=>obtain⟨mA,⟨od,es,ep,e,c⟩,r⟩:=x;exact⟨mA,⟨od,es,ep,k _ _ (.inl rfl) e,c⟩,r⟩
 |Ft lo hi=>obtain⟨t,u,v,e⟩:=x;exact⟨t,u,v,k _ _ (.inl rfl) e⟩
 |cD ob u ih=>obtain⟨e,q⟩:=x;exact⟨k _ _ (.inl rfl) e,ih q⟩
 |j_ ps=>have e:h.get? a=some {cls:=.none,data:=.fields ps}:=x;show h'.get? a=some {cls:=.none,data:=.fields ps};exact k a _ (.inl rfl) e
 |met f y=>have e:h.get? a=some (PySem.W.methodObj (.ref f) (.ref y)):=x;show h'.get? a=some (PySem.W.methodObj (.ref f) (.ref y));exact k a _ (.inl rfl) e
 |ext φ=>obtain⟨p,⟨o,e⟩,st⟩:=x;exact⟨st _ _ p λ o q=>k _ _ (.inl rfl) q,⟨o,k _ _ (.inl rfl) e⟩,st⟩
theorem fg.lt (x:fg P w H h)(e:H a=some o):a < h.objs.size:=(x a o e).lt
theorem fg.fresh (x:fg P w H h)(e:h.objs.size<=a):H a=none:=by
 cases q:H a with
 |none=>rfl
 |some u=>exact absurd (l7 (x.lt q) e) (y6 _)
theorem fg.kept (x:fg P w H h)(k:∀b u,h.get? b=some u->h'.get? b=some u):fg P w H h':=λ a o e=>
 (x a o e).my (λ b u _ q=>k b u q) (λ _ q=>q) λ _ _ q=>q
theorem fg.laid (x:fg P w H h)(k:∀b u,h.get? b=some u->h'.get? b=some u)(hp:h.objs.size<=a)(new:bp P w (upd H a o) h' a o):fg P w (upd H a o) h':=λ b u e=>by
 have hn:=x.fresh hp;by_cases hb:b=a
 ·subst hb;rw[aG]at e;cases e;exact new
 ·rw[aF hb]at e;exact(x b u e).my (λ c v _ q=>k c v q) (λ c q=>by rw[aF (bB q hn)];exact q) λ c xs q=>by rw[aF (bB q hn)];exact q
end
def Rd(H:Hp)(a:Addr)(u:HO):Prop:=H a=some u\/∃o,H a=some (.cD o u)
theorem Rd.ok {P:Program}{w:World}{H:Hp}{h:Heap}{a:Addr}{u:HO}(r:Rd H a u)(x:fg P w H h):bp P w H h a u:=by
 rcases r with r|⟨o,r⟩
 ·exact x a u r
 ·obtain⟨_,q⟩:=x a _ r;exact q
def LA:Option HO->Prop
 |some (.lst _)=>True
 |some (.dK _)=>True
 |some (.dT _)=>True
 |some (.set _ _)=>True
 |some (.ins _ _ _)=>True
 |some (.ext _)=>True
 |_=>False
section
variable {P:Program}{w:World}{H:Hp}{h h':Heap}{x e:Addr}{o':HO}
theorem fg.write (ok:fg P w H h)(mu:LA (H x))(he:e=x\/H e=some (.own x))(k:∀b u,b≠e->h.get? b=some u->h'.get? b=some u)(Jd:∃u,h'.get? e=some u) (new:bp P w (upd H x o') h' x o'):fg P w (upd H x o') h':=λ b u q=>by
 have Ku:∀c y,H c=some (.own y)->c≠x:=λ c y r z=>by subst z;rw[r]at mu;exact mu
 have Nw:∀c xs,H c=some (.tup xs)->c≠x:=λ c xs r z=>by subst z;rw[r]at mu;exact mu
 by_cases hb:b=x
 ·subst hb;rw[aG]at q;cases q;exact new
 ·rw[aF hb]at q;by_cases HW:b=e
  ·have q':H b=some (.own x):=by
    rcases he with z|z
    ·exact absurd (HW.trans z) hb
    ·rw[HW];exact z
   rw[q]at q';cases q';obtain⟨v,hv⟩:=Jd;exact⟨v,by rw[HW];exact hv⟩
  ·refine(ok b u q).my (λ c v hc r=>k c v ?_ r) (λ c r=>by rw[aF (Ku c b r)];exact r) λ c xs r=>by rw[aF (Nw c xs r)];exact r
   rcases hc with rfl|hc
   ·exact HW
   ·rintro rfl;rcases he with z|z
    ·exact Ku c b hc z
    ·rw[hc]at z;cases z;exact hb rfl
end
structure Un(fs ex:List Addr)(H H':Hp)(h h':Heap):Prop where
 keep:∀b o,h.get? b=some o->H b=none->b∉fs->b∉ex->h'.get? b=some o
 slot:∀b o,h.get? b=some o->H b=none->b∈fs->b∉ex->∃sl,h'.get? b=some {o with slots:=sl}
 free:∀b o,h.get? b=some o->H b=none->b∉ex->H' b=none
 there:∀b o,h.get? b=some o->b∉ex->∃o',h'.get? b=some o'
 kZ:∀b xs,H b=some (.tup xs)->H' b=some (.tup xs)
 jj:∀b o u,H b=some (.cD o u)->H' b=some (.cD o u)
 jM:∀b ps,H b=some (.j_ ps)->∃more,H' b=some (.j_ (ps++more))
section
variable {fs Si ex Tr:List Addr}{H H1 H2:Hp}{h h1 h2 h':Heap}{a x e:Addr}{o:HO}
theorem Un.any (u:Un fs ex H H1 h h1){b:Addr}{ob:Obj}(q:h.get? b=some ob)(n:H b=none)(hx:b∉ex):∃sl,h1.get? b=some {ob with slots:=sl}:=by
 by_cases hb:b∈fs
 ·exact u.slot b ob q n hb hx
 ·exact⟨ob.slots,u.keep b ob q n hb hx⟩
theorem Un.kept (k:∀b u,h.get? b=some u->h'.get? b=some u):Un fs ex H H h h':=
 ⟨λ b ob q _ _ _=>k b ob q,λ b ob q _ _ _=>⟨ob.slots,k b ob q⟩,λ _ _ _ n _=>n,λ b ob q _=>⟨ob,k b ob q⟩,λ _ _ q=>q,λ _ _ _ q=>q,λ _ ps q=>⟨#[],by rw[q];simp⟩⟩
theorem Un.refl:Un fs ex H H h h:=Un.kept λ _ _ q=>q
theorem Un.laid (k:∀b u,h.get? b=some u->h'.get? b=some u)(hp:h.objs.size<=a)(hn:H a=none):Un fs ex H (upd H a o) h h' where
 keep:=λ b u q _ _ _=>k b u q
 slot:=λ b u q _ _ _=>⟨u.slots,k b u q⟩
 free:=λ b u q n _=>by rw[aF (z9 (l7 (A0 q) hp))];exact n
 there:=λ b u q _=>⟨u,k b u q⟩
 kZ:=λ b xs q=>by rw[aF (bB q hn)];exact q
 jj:=λ b u xs q=>by rw[aF (bB q hn)];exact q
 jM:=λ b ps q=>⟨#[],by rw[aF (bB q hn),q];simp⟩
theorem Un.write (mu:LA (H x))(he:e=x\/H e=some (.own x))(k:∀b u,b≠e->h.get? b=some u->h'.get? b=some u)(Jd:∃u,h'.get? e=some u):Un fs ex H (upd H x o) h h':=by
 have hx:∀b,H b=none->b≠x:=λ b n z=>by subst z;rw[n]at mu;exact mu
 have hb:∀b,H b=none->b≠e:=λ b n z=>by
  subst z;rcases he with r|r
  ·exact hx b n r
  ·rw[n]at r;cases r
 have hm:∀b u,H b=some u->¬LA (some u)->b≠x:=λ b u q nm z=>by subst z;rw[q]at mu;exact nm mu
 refine⟨λ b u q n _ _=>k b u (hb b n) q,λ b u q n _ _=>⟨u.slots,k b u (hb b n) q⟩,λ b u q n _=>by rw[aF (hx b n)];exact n,λ b u q _=>?_,
  λ b xs q=>by rw[aF (hm b _ q λ z=>z)];exact q,λ b u xs q=>by rw[aF (hm b _ q λ z=>z)];exact q,λ b ps q=>⟨#[],by rw[aF (hm b _ q λ z=>z),q];simp⟩⟩
 by_cases HW:b=e
 ·subst HW;exact Jd
 ·exact⟨u,k b u HW q⟩
end
def LP(h:Heap)(H:Hp):List Addr:=(List.range h.objs.size).filter λ a=>(H a).isSome
def mG(h:Heap)(H:Hp):Heap:=PySem.W.hideAll h (LP h H)
theorem wZ(h:Heap)(H:Hp):(mG h H).objs.size=h.objs.size:=PySem.W.hideAll_size _ _
theorem Ae{h:Heap}{H:Hp}{b:Addr}{o:Obj}(e:h.get? b=some o)(n:H b=none):(mG h H).get? b=some o:=
 PySem.W.hideAll_get _ e λ hm=>by have q:(H b).isSome=true:=(mem_filter.mp hm).2;rw[n]at q;simp at q
theorem Dp{h:Heap}{H:Hp}{b:Addr}{o:Obj}(e:(mG h H).get? b=some o):h.get? b=some o/\H b=none:=by
 have e':h.get? b=some o:=PySem.W.of_hideAll (LP h H) e;refine⟨e',?_⟩;cases q:H b with
 |none=>rfl
 |some x=>have hm:b∈LP h H:=mem_filter.mpr ⟨mem_range.mpr (A0 e'),by simp[q]⟩;have z:(mG h H).get? b=none:=PySem.W.hideAll_none (LP h H) hm;rw[z]at e;cases e
structure Mod(K:C0)(mg:Str->Option Value)(base:Heap):Prop where
 KA:K.In base
 glob:base.Ns mainGlobals mg
 blt:∃mb,base.Ns builtinsNs mb/\∀x:Str,x≠"__name__"->mb x=bootBuiltins x
 nolimit:base.NoLimit
structure Cx where
 prog:Program
 w:World
 K:C0
 mg:Str->Option Value
 base:Heap
 A:Around
 N:List Str
 s₀:Shared
 H₀:Hp
 env:Env
 outer:List Env
 stack:List Env
 ex:List Addr
 fn:Str->Bool
 calm:Bool
 pn:List (Addr×Obj)
 xe:Value->Shared->Prop
def pT(l:List Env):List Addr:=l.filterMap (·.frame)
abbrev Cx.fs (X:Cx):List Addr:=pT X.outer
def EN(sc:Scope)(x:Str):Prop:=sc.names.lookup x=some .local\/sc.names.lookup x=some .cell\/sc.names.lookup x=some .free
def Loc(sc:Scope)(x:Str):Prop:=sc.names.lookup x=some .local\/sc.names.lookup x=some .cell
def Look(env:Env)(h:Heap)(m:Str->Option Value)(x:Str)(u:Value):Prop:=
 (env.kindOf x=some .local/\m x=some u)\/((env.kindOf x=some .cell\/env.kindOf x=some .free)/\∃c,env.cells.lookup x=some c/\h.IsCell c (some u))
structure Cx.Ok (X:Cx):Prop where
 mod:Mod X.K X.mg X.base
 kind:X.env.scope.kind=.function
 glob:X.env.globals=mainGlobals
 blt:X.env.builtins=builtinsNs
 above:X.s₀.heap.objs.size<=X.env.locals
 inj:∀x y c,X.env.cells.lookup x=some c->X.env.cells.lookup y=some c->x=y
 has:∀x,(X.env.kindOf x=some .cell\/X.env.kindOf x=some .free)->∃c,X.env.cells.lookup x=some c
 Jj:∀x c,X.fn x=true->X.env.cells.lookup x=some c->X.s₀.heap.objs.size<=c
 hd:X.calm=true->X.A.handled=none
 frames:X.A.frames=some X.stack
 L1:X.stack=X.outer\/(X.stack=X.env::X.outer/\X.env.frame=some X.env.locals)
 Qb:∀b∈X.ex,b≠X.env.locals/\∀x c,X.env.cells.lookup x=some c->c≠b
 bs:∀b o,X.base.get? b=some o->X.s₀.heap.get? b=some o/\X.H₀ b=none
 xo:X.base.objs.size<=X.s₀.heap.objs.size
 wD:∀b o,X.base.get? b=some o->b∉X.ex
 DN:∀b∈X.ex,b∉X.fs
 gR:X.s₀.heap.FunFrames X.base X.outer
 DK:∀b∈X.fs,X.H₀ b=none
structure Inv(X:Cx)(pins:List (Addr×Obj))(σ:List (Option V))(H:Hp)(s:Shared):Prop where
 ok:X.Ok
 os:s.os=X.s₀.os
 bare:AllBare s.gens
 base:Un X.fs X.ex X.H₀ H X.s₀.heap s.heap
 loc:∃m,s.heap.Ns X.env.locals m/\∀(i:Nat) (x:Str) (v:V),X.N[i]?=some x->σ[i]?=some (some v)->EN X.env.scope x->∃u,RelV v u/\Look X.env s.heap m x u
 cell:∀x c,X.env.cells.lookup x=some c->∃v,s.heap.IsCell c v
 free:H X.env.locals=none
 eJ:∀x c,X.env.cells.lookup x=some c->H c=none
 pin:∀p∈X.pn++pins,s.heap.get? p.1=some p.2/\H p.1=none/\p.1≠X.env.locals/\p.1∉X.fs/\∀v,p.2.data≠.cell v
 aZ:fg X.prog X.w H s.heap
 len:σ.length=X.N.length
section
variable {X:Cx}{pins:List (Addr×Obj)}{σ:List (Option V)}{H H':Hp}{s:Shared}{h':Heap}
theorem Cx.Ok.Nz (ok:X.Ok){b:Addr}{o:Obj}(e:X.base.get? b=some o):b∉X.fs:=λ hb=>by have:=(ok.gR.mem hb).1;rw[e]at this;cases this
theorem Inv.bs (I:Inv X pins σ H s):∀b o,X.base.get? b=some o->s.heap.get? b=some o/\H b=none:=λ b o e=>
 ⟨I.base.keep b o (I.ok.bs b o e).1 (I.ok.bs b o e).2 (I.ok.Nz e) (I.ok.wD b o e),I.base.free b o (I.ok.bs b o e).1 (I.ok.bs b o e).2 (I.ok.wD b o e)⟩
theorem Inv.bk (I:Inv X pins σ H s):∀b o,X.base.get? b=some o->s.heap.get? b=some o:=λ b o e=>(I.bs b o e).1
theorem Inv.mod (I:Inv X pins σ H s):Mod X.K X.mg X.base:=I.ok.mod
theorem Inv.mD (I:Inv X pins σ H s):X.K.In s.heap:=I.ok.mod.KA.keeps I.bk
theorem Inv.lt (I:Inv X pins σ H s):X.env.locals < s.heap.objs.size:=let⟨_,hn,_⟩:=I.loc;hn.lt
theorem Inv.sz (I:Inv X pins σ H s):X.s₀.heap.objs.size<=s.heap.objs.size:=A2 I.ok.above (A5 I.lt)
theorem Inv.Ny (I:Inv X pins σ H s){a:Addr}(h:s.heap.objs.size<=a):a∉X.fs:=λ hb=>by obtain⟨_,o,ho,_⟩:=I.ok.gR.mem hb;exact absurd (l7 (A0 ho) (A2 I.sz h)) (y6 _)
theorem Inv.EL (I:Inv X pins σ H s):∀x c,X.env.cells.lookup x=some c->c≠X.env.locals:=λ x c e z=>by obtain⟨v,o,ho,hd⟩:=I.cell x c e;obtain⟨m,⟨o',es,ep,wY,mw,_⟩,_⟩:=I.loc;rw[z,wY]at ho;cases ho;rw[mw]at hd;cases hd
theorem Inv.gR (I:Inv X pins σ H s):s.heap.FunFrames X.base X.outer:=by
 have all:∀(l:List Env),(∀b∈pT l,b∈X.fs)->X.s₀.heap.FunFrames X.base l->s.heap.FunFrames X.base l:=by
  intro l
  induction l with
  |nil=>intro _ _;trivial
  |cons env r ih=>intro hs hl;obtain⟨hk,⟨L,o,hf,hn,ho,hd⟩,hr⟩:=hl;have hL:L∈X.fs:=hs L (by unfold pT;rw[filterMap_cons,hf];exact k7);obtain⟨sl,e⟩:=I.base.slot L o ho (I.ok.DK L hL) hL λ z=>I.ok.DN L z hL;exact⟨hk,⟨L,_,hf,hn,e,hd⟩,ih (λ b hb=>hs b (by unfold pT;rw[filterMap_cons,hf];exact j3 _ hb)) hr⟩
 exact all X.outer (λ _ hb=>hb) I.ok.gR
theorem Inv.stack (I:Inv X pins σ H s):s.heap.FunFrames X.base X.stack:=by
 rcases I.ok.L1 with e|⟨e,hf⟩
 ·rw[e];exact I.gR
 ·rw[e];obtain⟨m,hn,_⟩:=I.loc;refine .cons (by rw[I.ok.kind];decide) hf hn ?_ I.gR;exact Heap.get?_none_of_le (A2 I.ok.xo I.ok.above)
theorem Inv.ll (I:Inv X pins σ H s):∀b∈pT X.stack,b∈X.env.locals::X.fs:=λ b hb=>by
 rcases I.ok.L1 with e|⟨e,hf⟩
 ·rw[e]at hb;exact j3 _ hb
 ·rw[e]at hb;unfold pT at hb;rw[filterMap_cons,hf]at hb;exact hb
theorem Inv.oq (I:Inv X pins σ H s):∀b∈pT X.stack,H b=none:=λ b hb=>by
 rcases y8.mp (I.ll b hb)with e|hb
 ·rw[e];exact I.free
 ·obtain⟨_,o,ho,_⟩:=I.ok.gR.mem hb;exact I.base.free b o ho (I.ok.DK b hb) λ z=>I.ok.DN b z hb
theorem Inv.step {g':Array GenState}{t':Nat}{d':Drawn}{ch:List Addr}(I:Inv X pins σ H s) (Bj:∀b∈ch,(b∈X.ex\/X.s₀.heap.objs.size<=b)/\b≠X.env.locals/\(∀x c,X.env.cells.lookup x=some c->c≠b)/\∀p∈X.pn++pins,p.1≠b) (keep:∀b o,b≠X.env.locals->b∉X.fs->b∉ch->s.heap.get? b=some o->H b=none->h'.get? b=some o) (slot:∀b o,b≠X.env.locals->b∈X.fs->b∉ch->s.heap.get? b=some o->H b=none->∃sl,h'.get? b=some {o with slots:=sl}) (free:∀b o,b∉ch->s.heap.get? b=some o->H b=none->H' b=none) (there:∀b o,b∉ch->s.heap.get? b=some o->∃o',h'.get? b=some o') (kZ:∀b xs,H b=some (.tup xs)->H' b=some (.tup xs)) (jj:∀b o u,H b=some (.cD o u)->H' b=some (.cD o u)) (jM:∀b ps,H b=some (.j_ ps)->∃more,H' b=some (.j_ (ps++more))) (ns:∀m,s.heap.Ns X.env.locals m->h'.Ns X.env.locals m) (aZ:fg X.prog X.w H' h') (hg:AllBare g'):Inv X pins σ H' {s with heap:=h',gens:=g',drawn:=d',toks:=t'}:=by
 have Pa:∀b o,X.s₀.heap.get? b=some o->b≠X.env.locals:=λ b o e=>z9 (l7 (A0 e) I.ok.above);have L9:∀b o,X.s₀.heap.get? b=some o->b∉X.ex->b∉ch:=λ b o e hx hb=>by
  rcases(Bj b hb).1 with z|z
  ·exact hx z
  ·exact absurd (l7 (A0 e) z) (y6 _)
 have cellK:∀x c,X.env.cells.lookup x=some c->∀v,s.heap.IsCell c v->h'.IsCell c v:=λ x c e v ⟨o,ho,hd⟩=>by
  have Kw:c∉ch:=λ z=>(Bj c z).2.2.1 x c e rfl;by_cases hc:c∈X.fs
  ·obtain⟨sl,q⟩:=slot c o (I.EL x c e) hc Kw ho (I.eJ x c e);exact⟨_,q,hd⟩
  ·exact⟨o,keep c o (I.EL x c e) hc Kw ho (I.eJ x c e),hd⟩
 refine⟨I.ok,I.os,hg,⟨λ b o e n hb hx=>?_,λ b o e n hb hx=>?_,λ b o e n hx=>?_,λ b o e hx=>?_,λ b xs e=>kZ b xs (I.base.kZ b xs e),λ b o xs e=>jj b o xs (I.base.jj b o xs e),λ b ps e=>?_⟩,?_,λ x c e=>?_,?_,λ x c e=>?_,λ p hp=>?_,aZ,I.len⟩
 ·exact keep b o (Pa b o e) hb (L9 b o e hx) (I.base.keep b o e n hb hx) (I.base.free b o e n hx)
 ·obtain⟨sl,e1⟩:=I.base.slot b o e n hb hx;obtain⟨QM,e2⟩:=slot b _ (Pa b o e) hb (L9 b o e hx) e1 (I.base.free b o e n hx);exact⟨QM,e2⟩
 ·obtain⟨o',e1⟩:=I.base.there b o e hx;exact free b o' (L9 b o e hx) e1 (I.base.free b o e n hx)
 ·obtain⟨o',e1⟩:=I.base.there b o e hx;exact there b o' (L9 b o e hx) e1
 ·obtain⟨m1,e1⟩:=I.base.jM b ps e;obtain⟨m2,e2⟩:=jM b _ e1;exact⟨m1++m2,by rw[e2,Array.append_assoc]⟩
 ·obtain⟨m,hn,hl⟩:=I.loc;refine⟨m,ns m hn,λ i x v e1 e2 e3=>?_⟩;obtain⟨u,r,l⟩:=hl i x v e1 e2 e3;refine⟨u,r,?_⟩;rcases l with l|⟨k,c,e,z⟩
  ·exact .inl l
  ·exact .inr ⟨k,c,e,cellK x c e _ z⟩
 ·obtain⟨v,z⟩:=I.cell x c e;exact⟨v,cellK x c e v z⟩
 ·obtain⟨m,⟨o,_,_,ho,_⟩,_⟩:=I.loc;exact free _ o (λ z=>(Bj _ z).2.1 rfl) ho I.free
 ·obtain⟨v,o,ho,hd⟩:=I.cell x c e;exact free c o (λ z=>(Bj c z).2.2.1 x c e rfl) ho (I.eJ x c e)
 ·obtain⟨e,n,ne,nf,d⟩:=I.pin p hp;have Kw:p.1∉ch:=λ z=>(Bj p.1 z).2.2.2 p hp rfl;exact⟨keep p.1 p.2 ne nf Kw e n,free p.1 p.2 Kw e n,ne,nf,d⟩
theorem Inv.un {t':Nat}(I:Inv X pins σ H s)(u:Un X.fs [] H H' s.heap h')(aZ:fg X.prog X.w H' h'):Inv X pins σ H' {s with heap:=h',toks:=t'}:=by
 obtain⟨m,⟨o,es,ep,ho,r⟩,_⟩:=id I.loc;obtain⟨sl,hL⟩:=u.any ho I.free (by simp);exact I.step (g':=s.gens) (d':=s.drawn) (ch:=[]) (λ _ z=>nomatch z) (λ b o _ hb _ e n=>u.keep b o e n hb (by simp)) (λ b o _ hb _ e n=>u.slot b o e n hb (by simp)) (λ b o _ e n=>u.free b o e n (by simp)) (λ b o _ e=>u.there b o e (by simp)) u.kZ u.jj u.jM (λ m' hm=>by
  obtain⟨o',OF,OG,wY,r'⟩:=hm;rw[ho]at wY;cases wY;exact⟨_,OF,OG,hL,r'⟩) aZ I.bare
theorem Inv.call {g':Array GenState}{t':Nat}{d':Drawn}{ch:List Addr}(I:Inv X pins σ H s)(u:Un (pT X.stack) ch H H' s.heap h')(aZ:fg X.prog X.w H' h')(hg:AllBare g') (Bj:∀b∈ch,(b∈X.ex\/X.s₀.heap.objs.size<=b)/\b≠X.env.locals/\(∀x c,X.env.cells.lookup x=some c->c≠b)/\∀p∈X.pn++pins,p.1≠b):Inv X pins σ H' {s with heap:=h',gens:=g',drawn:=d',toks:=t'}:=by
 obtain⟨m,⟨o,es,ep,ho,r⟩,_⟩:=id I.loc;obtain⟨sl,hL⟩:=u.any ho I.free λ z=>(Bj _ z).2.1 rfl;exact I.step (ch:=ch) Bj (λ b o hL hb hc e n=>u.keep b o e n (λ z=>(y8.mp (I.ll b z)).elim hL hb) hc) (λ b o _ _ hc e n=>u.any e n hc) (λ b o hc e n=>u.free b o e n hc) (λ b o hc e=>u.there b o e hc) u.kZ u.jj u.jM (λ m' hm=>by
  obtain⟨o',OF,OG,wY,r'⟩:=hm;rw[ho]at wY;cases wY;exact⟨_,OF,OG,hL,r'⟩) aZ hg
theorem Inv.turned {t':Nat}{it:Addr}(I:Inv X pins σ H s)(k:∀b o,b≠it->s.heap.get? b=some o->h'.get? b=some o)(hn:H it=none)(hL:it≠X.env.locals) (h1:it∈X.ex\/X.s₀.heap.objs.size<=it) (h2:∀x c,X.env.cells.lookup x=some c->c≠it) (h3:∀p∈X.pn++pins,p.1≠it):Inv X pins σ H {s with heap:=h',toks:=t'}:=by
 have Kv:∀b u,H b=some u->b≠it:=λ b u e z=>by rw[z,hn]at e;cases e
 refine I.step (g':=s.gens) (d':=s.drawn) (ch:=[it]) (λ b hb=>?_) (λ b o _ _ hc e _=>k b o (λ z=>hc (by simp[z])) e) (λ b o _ _ hc e _=>⟨o.slots,k b o (λ z=>hc (by simp[z])) e⟩) (λ _ _ _ _ n=>n)
  (λ b o hc e=>⟨o,k b o (λ z=>hc (by simp[z])) e⟩) (λ _ _ e=>e) (λ _ _ _ e=>e) (λ b ps e=>⟨#[],by rw[e];simp⟩) (λ m hm=>?_) (λ b u e=>?_) I.bare
 ·have e:b=it:=by simpa using hb
  subst e;exact⟨h1,hL,h2,h3⟩
 ·obtain⟨o,es,ep,ho,r⟩:=hm;exact⟨o,es,ep,k _ o (B7 hL) ho,r⟩
 ·refine(I.aZ b u e).my (λ c v hc q=>k c v ?_ q) (λ _ q=>q) λ _ _ q=>q;rcases hc with z|z
  ·rw[z];exact Kv b u e
  ·exact Kv c _ z
theorem Inv.tok (I:Inv X pins σ H s)(t:Nat):Inv X pins σ H {s with toks:=t}:=I.un (h':=s.heap) (t':=t) Un.refl I.aZ
theorem Inv.kept {t':Nat}(I:Inv X pins σ H s)(k:∀b u,s.heap.get? b=some u->h'.get? b=some u):Inv X pins σ H {s with heap:=h',toks:=t'}:=I.un (Un.kept k) (I.aZ.kept k)
theorem Inv.laid {a:Addr}{o:HO}{t':Nat}(I:Inv X pins σ H s)(k:∀b u,s.heap.get? b=some u->h'.get? b=some u)(hp:s.heap.objs.size<=a)(new:bp X.prog X.w (upd H a o) h' a o):Inv X pins σ (upd H a o) {s with heap:=h',toks:=t'}:=I.un (Un.laid k hp (I.aZ.fresh hp)) (I.aZ.laid k hp new)
theorem Inv.write {x e:Addr}{o:HO}{t':Nat}(I:Inv X pins σ H s)(mu:LA (H x))(he:e=x\/H e=some (.own x))(k:∀b u,b≠e->s.heap.get? b=some u->h'.get? b=some u)(Jd:∃u,h'.get? e=some u) (new:bp X.prog X.w (upd H x o) h' x o):Inv X pins σ (upd H x o) {s with heap:=h',toks:=t'}:=I.un (Un.write mu he k Jd) (I.aZ.write mu he k Jd new)
theorem Inv.weak {σ':List (Option V)}(I:Inv X pins σ H s)(hl:σ'.length=σ.length)(w:∀(i:Nat) v,σ'[i]?=some (some v)->σ[i]?=some (some v)):Inv X pins σ' H s:=
 ⟨I.ok,I.os,I.bare,I.base,let⟨m,hn,rM⟩:=I.loc;⟨m,hn,λ i x v e1 e2 e3=>rM i x v e1 (w i v e2) e3⟩,I.cell,I.free,I.eJ,I.pin,I.aZ,hl.trans I.len⟩
theorem Inv.ir {pins':List (Addr×Obj)}(I:Inv X pins σ H s)(h:∀p∈pins',s.heap.get? p.1=some p.2/\H p.1=none/\p.1≠X.env.locals/\p.1∉X.fs/\∀v,p.2.data≠.cell v):Inv X pins' σ H s:=
 ⟨I.ok,I.os,I.bare,I.base,I.loc,I.cell,I.free,I.eJ,λ p hp=>(w9.mp hp).elim (λ z=>I.pin p (mem_append_left _ z)) (h p),I.aZ,I.len⟩
theorem fQ{N:List Str}(hN:N.Nodup){i j:Nat}{x:Str}(a:N[i]?=some x)(b:N[j]?=some x):i=j:=by obtain⟨h1,e1⟩:=c6.mp a;obtain⟨h2,e2⟩:=c6.mp b;exact(getElem_inj hN).mp (e1.trans e2.symm)
theorem nh{M:Model}{A:Around}{E:Value->Shared->Prop}{i:Nat}{x:Str}{v:V}{u:Value}{Q:Unit->Shared->Prop}(I:Inv X pins σ H s)(hN:X.N.Nodup)(hi:X.N[i]?=some x)(hx:Loc X.env.scope x)(r:RelV v u) (h:∀s',Inv X pins (σ.set i (some v)) H s'->(∃a,Heap.SameBut a s.heap s'.heap/\(a=X.env.locals\/X.env.cells.lookup x=some a))->Q () s') (hf:X.fn x=true\/X.env.scope.names.lookup x=some .local:=by first|exact .inl rfl|exact .inr rfl|assumption):wpAny M A (storeName X.env x u) Q E s:=by
 obtain⟨m,hn,hl⟩:=id I.loc;have Oj:(X.env.scope.kind==.class||(X.env.scope.kind==.module&&X.env.locals != X.env.globals))=false:=by rw[I.ok.kind];rfl
 have PB:i < σ.length:=by rw[I.len];exact(c6.mp hi).1
 have EL:=I.EL;have tracked:∀{a:Addr} {h':Heap},(∃o,s.heap.get? a=some o/\H a=none)->Heap.SameBut a s.heap h'->fg X.prog X.w H h':=λ{a h'} ha hs b ob e=>by
  obtain⟨_,_,EA⟩:=ha;refine(I.aZ b ob e).my (λ c w' hc q=>(hs.2 c ?_).trans q) (λ _ q=>q) λ _ _ q=>q;rintro rfl;rcases hc with rfl|hc
  ·rw[EA]at e;cases e
  ·rw[EA]at hc;cases hc
 rcases hx with hk|hk
 ·refine wpAny_storeName_local hk hn (λ h' RA hs=>?_) Oj;obtain⟨oL,_,_,KR,_⟩:=id hn;refine h _ ⟨I.ok,I.os,I.bare,⟨λ b o e n hb hx=>?_,λ b o e n hb hx=>?_,I.base.free,λ b o e hx=>?_,I.base.kZ,I.base.jj,I.base.jM⟩,⟨_,RA,λ j y v' e1 e2 e3=>?_⟩,λ y c e=>?_,I.free,I.eJ,λ p hp=>?_,tracked ⟨oL,KR,I.free⟩ hs,by simpa using I.len⟩ ⟨_,hs,.inl rfl⟩
  ·exact(hs.2 b (z9 (l7 (A0 e) I.ok.above))).trans (I.base.keep b o e n hb hx)
  ·obtain⟨sl,e1⟩:=I.base.slot b o e n hb hx;exact⟨sl,(hs.2 b (z9 (l7 (A0 e) I.ok.above))).trans e1⟩
  ·obtain⟨o',e1⟩:=I.base.there b o e hx;exact⟨o',(hs.2 b (z9 (l7 (A0 e) I.ok.above))).trans e1⟩
  ·by_cases hj:j=i
   ·subst hj;rw[hi]at e1;cases e1;rw[i7 PB]at e2;cases e2;exact⟨u,r,.inl ⟨hk,by simp⟩⟩
   ·rw[j5 (B7 hj)]at e2;obtain⟨u',r',q⟩:=hl j y v' e1 e2 e3;refine⟨u',r',?_⟩;rcases q with⟨k,e⟩|⟨k,c,e,z⟩
    ·refine .inl ⟨k,?_⟩;have:y≠x:=λ e=>hj (fQ hN e1 (e▸hi));simp[this,e]
    ·exact .inr ⟨k,c,e,z.sameBut hs (EL y c e)⟩
  ·obtain⟨w',z⟩:=I.cell y c e;exact⟨w',z.sameBut hs (EL y c e)⟩
  ·obtain⟨e,n,ne,nf,d⟩:=I.pin p hp;exact⟨(hs.2 p.1 ne).trans e,n,ne,nf,d⟩
 ·have Of:X.fn x=true:=by
   rcases hf with z|z
   ·exact z
   ·rw[z]at hk;cases hk
  obtain⟨c,hc⟩:=I.ok.has x (.inl hk);obtain⟨w',z⟩:=I.cell x c hc;refine wpAny_storeName_cell I.ok.kind hk hc z (λ h' HU hs=>?_);obtain⟨oc,Pu,N3⟩:=id z;refine h {s with heap:=h'} ⟨I.ok,I.os,I.bare,⟨λ b o e n hb hx=>?_,λ b o e n hb hx=>?_,I.base.free,λ b o e hx=>?_,I.base.kZ,I.base.jj,I.base.jM⟩,⟨m,hn.sameBut hs (B7 (EL x c hc)),λ j y v' e1 e2 e3=>?_⟩,λ y c' e=>?_,I.free,I.eJ,λ p hp=>?_,tracked ⟨oc,Pu,I.eJ x c hc⟩ hs,by simpa using I.len⟩ ⟨c,hs,.inr hc⟩
  ·exact(hs.2 b (z9 (l7 (A0 e) (I.ok.Jj x c Of hc)))).trans (I.base.keep b o e n hb hx)
  ·obtain⟨sl,e1⟩:=I.base.slot b o e n hb hx;exact⟨sl,(hs.2 b (z9 (l7 (A0 e) (I.ok.Jj x c Of hc)))).trans e1⟩
  ·obtain⟨o',e1⟩:=I.base.there b o e hx;exact⟨o',(hs.2 b (z9 (l7 (A0 e) (I.ok.Jj x c Of hc)))).trans e1⟩
  ·by_cases hj:j=i
   ·subst hj;rw[hi]at e1;cases e1;rw[i7 PB]at e2;cases e2;exact⟨u,r,.inr ⟨.inl hk,c,hc,HU⟩⟩
   ·rw[j5 (B7 hj)]at e2;obtain⟨u',r',q⟩:=hl j y v' e1 e2 e3;refine⟨u',r',?_⟩;rcases q with q|⟨k,c',e,z'⟩
    ·exact .inl q
    ·refine .inr ⟨k,c',e,z'.sameBut hs ?_⟩;rintro rfl;exact hj (fQ hN e1 (I.ok.inj _ _ _ e hc▸hi))
  ·by_cases Je:c'=c
   ·subst Je;exact⟨_,HU⟩
   ·obtain⟨w2,z2⟩:=I.cell y c' e;exact⟨w2,z2.sameBut hs Je⟩
  ·obtain⟨e,n,ne,nf,d⟩:=I.pin p hp;refine⟨(hs.2 p.1 ?_).trans e,n,ne,nf,d⟩;intro q;rw[q,Pu]at e;have q':oc=p.2:=u6 e;exact d w' (by rw[<- q'];exact N3)
theorem lh{M:Model}{A:Around}{E:Value->Shared->Prop}{i:Nat}{x:Str}{v:V}{u:Value}{Q:Unit->Shared->Prop}(I:Inv X pins σ H s)(hN:X.N.Nodup)(hi:X.N[i]?=some x)(hx:Loc X.env.scope x)(r:RelV v u) (h:∀s',Inv X pins (σ.set i (some v)) H s'->Q () s') (hf:X.fn x=true\/X.env.scope.names.lookup x=some .local:=by first|exact .inl rfl|exact .inr rfl|assumption):wpAny M A (storeName X.env x u) Q E s:=
 nh I hN hi hx r (λ s' I' _=>h s' I') hf
theorem Inv.Lr {s':Shared}{ch:List Addr}(I:Inv X pins σ H s)(ho:s'.os=s.os)(u:Un (pT X.stack) ch H H' s.heap s'.heap)(aZ:fg X.prog X.w H' s'.heap)(hg:AllBare s'.gens) (Bj:∀b∈ch,(b∈X.ex\/X.s₀.heap.objs.size<=b)/\b≠X.env.locals/\(∀x c,X.env.cells.lookup x=some c->c≠b)/\∀p∈X.pn++pins,p.1≠b):Inv X pins σ H' s':=by obtain⟨h',g',d',t',o'⟩:=s';have e:o'=s.os:=ho;subst e;exact I.call (g':=g') (t':=t') (d':=d') u aZ hg Bj
end
abbrev XK:=Value->Option Addr->Hp->Prop
abbrev St:=List (Option V)
abbrev VK:=V->Hp->Prop
abbrev TE:=St->Hp->VK->Prop
abbrev TT:=St->Hp->(Bool->Hp->Prop)->Prop
abbrev TA:=St->Hp->(List V->Hp->Prop)->Prop
structure Ends where
 nx:St->Hp->Prop
 rt:VK
 bk:St->Hp->Prop:=λ _ _=>False
 ct:St->Hp->Prop:=λ _ _=>False
abbrev TS:=Ends->St->Hp->Prop
def EP(X:Cx)(pins:List (Addr×Obj))(σ:St)(Q:VK)(u:Value)(s':Shared):Prop:=∃v H',Inv X pins σ H' s'/\RelV v u/\Q v H'
def TP(X:Cx)(pins:List (Addr×Obj))(σ:St)(Q:Bool->Hp->Prop)(b:Bool)(s':Shared):Prop:=∃H',Inv X pins σ H' s'/\Q b H'
def AP(X:Cx)(pins:List (Addr×Obj))(σ:St)(Q:List V->Hp->Prop)(us:List Value)(s':Shared):Prop:=∃vs H',Inv X pins σ H' s'/\Vals vs us/\Q vs H'
def SP(X:Cx)(pins:List (Addr×Obj))(D:Ends)(f:Flow)(s':Shared):Prop:=
 match f with
 | .next=>∃σ' H',Inv X pins σ' H' s'/\D.nx σ' H'
 | .brk=>∃σ' H',Inv X pins σ' H' s'/\D.bk σ' H'
 | .cont=>∃σ' H',Inv X pins σ' H' s'/\D.ct σ' H'
 | .ret u=>∃v σ' H',Inv X pins σ' H' s'/\RelV v u/\D.rt v H'
def PE(X:Cx)(e:Expr)(t:TE):Prop:=
 ∀(pins:List (Addr×Obj)) (s:Shared) (σ:St) (H:Hp) (Q:VK),Inv X pins σ H s->t σ H Q->wpAny (model X.prog X.w) X.A (eval e X.env) (EP X pins σ Q) X.xe s
def PT(X:Cx)(e:Expr)(t:TT):Prop:=
 ∀(pins:List (Addr×Obj)) (s:Shared) (σ:St) (H:Hp) (Q:Bool->Hp->Prop),Inv X pins σ H s->t σ H Q->wpAny (model X.prog X.w) X.A (isTrue e X.env (eval e X.env)) (TP X pins σ Q) X.xe s
def PW(X:Cx)(e:Expr)(t:TT):Prop:=
 ∀(whole:Sem Value) (pins:List (Addr×Obj)) (s:Shared) (σ:St) (H:Hp) (Q:Bool->Hp->Prop),Inv X pins σ H s->t σ H Q->wpAny (model X.prog X.w) X.A (isTrue e X.env whole) (TP X pins σ Q) X.xe s
theorem PW.pt {X:Cx}{e:Expr}{t:TT}(h:PW X e t):PT X e t:=h _
def PA(X:Cx)(es:List Expr)(t:TA):Prop:=
 ∀(pos:Pos) (pins:List (Addr×Obj)) (s:Shared) (σ:St) (H:Hp) (Q:List V->Hp->Prop),Inv X pins σ H s->t σ H Q->wpAny (model X.prog X.w) X.A (spliced (backTo pos (starEach es X.env))) (AP X pins σ Q) X.xe s
def PS(X:Cx)(st:Stmt)(t:TS):Prop:=
 ∀(pins:List (Addr×Obj)) (s:Shared) (σ:St) (H:Hp) (D:Ends),Inv X pins σ H s->t D σ H->wpAny (model X.prog X.w) X.A (exec st X.env) (SP X pins D) X.xe s
def rJ(X:Cx)(st:List Stmt)(t:TS):Prop:=
 ∀(pins:List (Addr×Obj)) (s:Shared) (σ:St) (H:Hp) (D:Ends),Inv X pins σ H s->t D σ H->wpAny (model X.prog X.w) X.A (execs st X.env) (SP X pins D) X.xe s
theorem cG{α:Type}{t:Sem α}{Q Q':α->Shared->Prop}{M:Model}{A:Around}{E:Value->Shared->Prop}{s:Shared}(h:wpAny M A t Q E s)(hQ:∀a s,Q a s->Q' a s):wpAny M A t Q' E s:=B4 h hQ λ _ _ x=>x
section
variable {X:Cx}
def ME(i:Nat):TE:=λ σ H Q=>∃v,σ[i]?=some (some v)/\Q v H
def tC(v:V):TE:=λ _ H Q=>Q v H
theorem yX{i:Nat}{x:Str}{pos:Pos}(hN:X.N[i]?=some x)(hv:EN X.env.scope x)(hd:(x==("__debug__":Str))=false:=by decide)(hcd:(x==("__classdict__":Str))=false:=by decide):PE X (.Name x pos) (ME i):=by
 intro pins s σ H Q I h;obtain⟨v,e,h⟩:=h;obtain⟨m,hn,hl⟩:=I.loc;obtain⟨u,r,l⟩:=hl i x v hN e hv;have fin:EP X pins σ Q u s:=⟨v,H,I,r,h⟩;rcases l with⟨hk,hm⟩|⟨hk,c,hc,uW⟩
 ·exact wpAny_Name (wpAny_loadName_local I.ok.kind hk hn hm fin) hd
 ·rcases hk with hk|hk
  ·exact wpAny_Name (wpAny_loadName_cell I.ok.kind hk hc uW fin) hd
  ·exact wpAny_Name (wpAny_loadName_free I.ok.kind hk hc uW fin hcd) hd
theorem GN{i j pos}:PE X (.Constant (.int i) j pos) (tC (.int i)):=λ _ _ _ H _ I h=>wpAny_Constant_int ⟨.int i,H,I.tok _,⟨_,rfl⟩,h⟩
theorem Kh{b j pos}:PE X (.Constant (.bool b) j pos) (tC (.bl b)):=λ _ _ _ H _ I h=>Constant_bool ⟨.bl b,H,I,rfl,h⟩
theorem GJ{j pos}:PE X (.Constant .none j pos) (tC .bf):=λ _ _ _ H _ I h=>Constant_none ⟨.bf,H,I,rfl,h⟩
theorem GH{x j pos}:PE X (.Constant (.str x) j pos) (tC (.str x)):=λ _ _ _ H _ I h=>Calls.Constant_str ⟨.str x,H,I.tok _,⟨_,rfl⟩,h⟩
def Gl(X:Cx)(x:Str):Prop:=X.env.kindOf x=some .globalImplicit
theorem uN{E:Value->Shared->Prop}{pins:List (Addr×Obj)}{s:Shared}{σ:St}{H:Hp}{x:Str}{u:Value}{pos:Pos}{Q:Value->Shared->Prop}(I:Inv X pins σ H s)(hg:Gl X x)(hm:X.mg x=some u)(h:Q u s) (hd:(x==("__debug__":Str))=false:=by decide):wpAny (model X.prog X.w) X.A (eval (.Name x pos) X.env) Q E s:=
 Calls.Name_function_global I.ok.kind hg (Calls.loadGlobal_global (by rw[I.ok.glob];exact I.mod.glob.keeps I.bk) hm h) hd
theorem fT{E:Value->Shared->Prop}{pins:List (Addr×Obj)}{s:Shared}{σ:St}{H:Hp}{x:Str}{u:Value}{pos:Pos}{Q:Value->Shared->Prop}(I:Inv X pins σ H s)(hg:Gl X x)(hm:X.mg x=none)(hv:bootBuiltins x=some u)(h:Q u s) (hn:x≠"__name__":=by decide) (hd:(x==("__debug__":Str))=false:=by decide):wpAny (model X.prog X.w) X.A (eval (.Name x pos) X.env) Q E s:=by obtain⟨mb,h1,h2⟩:=I.mod.blt;exact Calls.Name_function_global I.ok.kind hg (Calls.loadGlobal_builtin (by rw[I.ok.glob];exact I.mod.glob.keeps I.bk) hm (by rw[I.ok.blt];exact h1.keeps I.bk) ((h2 x hn).trans hv) h) hd
theorem C_{x:Str}{v:V}{u:Value}{pos:Pos}(hg:Gl X x)(hm:X.mg x=none)(hv:bootBuiltins x=some u)(r:RelV v u)(hn:x≠"__name__":=by decide)(hd:(x==("__debug__":Str))=false:=by decide):PE X (.Name x pos) (tC v):=
 λ _ _ _ H _ I h=>fT I hg hm hv ⟨v,H,I,r,h⟩ hn hd
variable {a b:Expr}{ta tb:TE}{pos:Pos}
def tB(t:TE):TT:=λ σ H Q=>t σ H λ x H1=>∃c,x=.bl c/\Q c H1
theorem Gv{e:Expr}{t:TE}(h:PE X e t)(he:∀whole,isTrue e X.env whole=(do let v <- whole;standAt e.pos;holding [v] (truthy v)):=by intro _;rfl):PT X e (tB t):=by intro pins s σ H Q I hw;refine isTrue_plain (cG (h pins s σ H _ I hw) λ v s1 ⟨x,H1,I1,r1,q1⟩=>?_) (he _);obtain⟨d,rfl,q⟩:=q1;cases r1;exact wpAny_truthy_bool ⟨H1,I1,q⟩
variable {tA LR:TT}{rest:List Expr}
def MQ(t u:TT):TT:=λ σ H Q=>t σ H λ c H1=>if c=true then u σ H1 Q else Q false H1
def Qy(t u:TT):TT:=λ σ H Q=>t σ H λ c H1=>if c=true then Q true H1 else u σ H1 Q
def MI(t:TT):TT:=λ σ H Q=>t σ H λ c H1=>Q (!c) H1
theorem CS(ha:PT X a tA):PW X (.BoolOp .And [a] pos) tA:=by
 intro wh pins s σ H Q I h;refine isTrue_and (cG (ha pins s σ H Q I h) λ c s1 e=>?_);cases c with
 |true=>exact isTrue_and_nil e
 |false=>exact e
theorem Gr(ha:PT X a tA):PW X (.BoolOp .Or [a] pos) tA:=by
 intro wh pins s σ H Q I h;refine isTrue_or (cG (ha pins s σ H Q I h) λ c s1 e=>?_);cases c with
 |false=>exact isTrue_or_nil e
 |true=>exact e
theorem Gu(ha:PT X a tA)(hb:PW X (.BoolOp .And (b::rest) pos) LR):PW X (.BoolOp .And (a::b::rest) pos) (MQ tA LR):=by
 intro wh pins s σ H Q I h;refine isTrue_and (cG (ha pins s σ H _ I h) λ c s1 ⟨H1,I1,q1⟩=>?_);cases c with
 |true=>exact hb wh pins s1 σ H1 Q I1 q1
 |false=>exact⟨H1,I1,q1⟩
theorem Kc(ha:PT X a tA)(hb:PW X (.BoolOp .Or (b::rest) pos) LR):PW X (.BoolOp .Or (a::b::rest) pos) (Qy tA LR):=by
 intro wh pins s σ H Q I h;refine isTrue_or (cG (ha pins s σ H _ I h) λ c s1 ⟨H1,I1,q1⟩=>?_);cases c with
 |true=>exact⟨H1,I1,q1⟩
 |false=>exact hb wh pins s1 σ H1 Q I1 q1
theorem Gw(ha:PT X a tA):PT X (.UnaryOp .Not a pos) (MI tA):=by intro pins s σ H Q I h;exact isTrue_not (ha pins s σ H (λ c H1=>Q (!c) H1) I h)
def JC(ta tb:TE):TE:=λ σ H Q=>ta σ H λ x H1=>∃c,x=.bl c/\if c=true then tb σ H1 Q else Q (.bl false) H1
theorem GI{op}{t:TE}(h:PE X a t):PE X (.BoolOp op [a] pos) t:=λ pins s σ H Q I hw=>BoolOp_one (h pins s σ H Q I hw)
theorem GQ(ha:PE X a ta)(hb:PE X (.BoolOp .And (b::rest) pos) tb):PE X (.BoolOp .And (a::b::rest) pos) (JC ta tb):=by
 intro pins s σ H Q I h;refine BoolOp_and (cG (ha pins s σ H _ I h) λ v s1 ⟨x,H1,I1,r1,q1⟩=>?_);obtain⟨c,rfl,q1⟩:=q1;cases r1;refine wpAny_truthy_bool ?_;cases c with
 |true=>exact hb pins s1 σ H1 Q I1 q1
 |false=>exact⟨.bl false,H1,I1,rfl,q1⟩
end
def eA(K:C0)(H:Hp)(a:Addr)(xs:List V):Prop:=
 Rd H a (.lst xs)\/
  ∃(o:Obj) (aw:Array Value) (n:Nat),K.lookup a=some o/\o.cls=.type "list"/\o.dict=none/\o.data=.seq aw n/\aw.size<=sizeLine/\Vals xs aw.toList
def fz(K:C0)(H:Hp)(a:Addr)(xs:List V):Prop:=
 Rd H a (.tup xs)\/
  ∃(o:Obj) (aw:Array Value) (n:Nat),K.lookup a=some o/\o.cls=.type "tuple"/\o.data=.seq aw n/\aw.size<=sizeLine/\Vals xs aw.toList
def OP:Value->Option V
 | .none=>some .bf
 | .bool b=>some (.bl b)
 | .int i _=>some (.int i)
 | .str x _=>some (.str x)
 | .bytes b _=>some (.AQ b)
 | .float b _=>some (.Jh b)
 | .ref a=>some (.ref a)
 | .type n=>some (.ty n)
 |_=>none
theorem RelV.abs {x:V}{u:Value}(r:RelV x u):OP u=some x:=by
 cases x with
 |bf=>cases r;rfl
 |bl _=>cases r;rfl
 |int _=>obtain⟨t,rfl⟩:=r;rfl
 |str _=>obtain⟨t,rfl⟩:=r;rfl
 |AQ _=>obtain⟨t,rfl⟩:=r;rfl
 |Jh _=>obtain⟨t,rfl⟩:=r;rfl
 |ref _=>cases r;rfl
 |ty _=>cases r;rfl
theorem RelV.inj {x y:V}{u:Value}(r:RelV x u)(q:RelV y u):x=y:=u6 (r.abs.symm.trans q.abs)
theorem Vals.inj:∀{xs ys:List V} {us:List Value},Vals xs us->Vals ys us->xs=ys
 |_,_,_,.nil,.nil=>rfl
 |_,_,_,.cons r t,.cons r' t'=>by rw[r.inj r',Vals.inj t t']
section
variable {X:Cx}{pins:List (Addr×Obj)}{σ:St}{H:Hp}{s:Shared}{a:Addr}{xs ys:List V}
theorem eA.of {K:C0}(h:H a=some (.lst xs)):eA K H a xs:=.inl (.inl h)
theorem fz.of {K:C0}(h:H a=some (.tup xs)):fz K H a xs:=.inl (.inl h)
theorem Inv.list (I:Inv X pins σ H s)(h:eA X.K H a xs):∃aw:List Value,Vals xs aw/\PlainL s.heap a aw.toArray/\xs.length<=sizeLine:=by
 rcases h with h|⟨o,aw,n,hk,hc,hd,hs,hz,r⟩
 ·obtain⟨z,aw,n,r,e⟩:=h.ok I.aZ;exact⟨aw,r,⟨_,n,e,rfl,rfl,rfl⟩,z⟩
 ·refine⟨aw.toList,r,⟨o,n,I.mD a o hk,hc,hd,by simpa using hs⟩,?_⟩;have e:=r.length;simp only[j9]at e;omega
theorem Inv.tuple (I:Inv X pins σ H s)(h:fz X.K H a xs):∃aw:List Value,Vals xs aw/\IsTup s.heap a aw.toArray/\xs.length<=sizeLine:=by
 rcases h with h|⟨o,aw,n,hk,hc,hs,hz,r⟩
 ·obtain⟨z,aw,r,p⟩:=h.ok I.aZ;exact⟨aw,r,p,z⟩
 ·refine⟨aw.toList,r,⟨o,I.mD a o hk,hc,n,by simpa using hs⟩,?_⟩;have e:=r.length;simp only[j9]at e;omega
theorem Inv.qJ (I:Inv X pins σ H s)(h:eA X.K H a xs)(h':eA X.K H a ys):xs=ys:=by
 obtain⟨aw,r,⟨o,n,e,_,_,d⟩,_⟩:=I.list h;obtain⟨its',r',⟨o',n',e',_,_,d'⟩,_⟩:=I.list h';rw[e]at e';cases e';rw[d]at d';injection d' with d1 _
 have:aw=its':=by simpa using B6 Array.toList d1
 subst this;exact r.inj r'
theorem Inv.mV (I:Inv X pins σ H s)(h:fz X.K H a xs)(h':fz X.K H a ys):xs=ys:=by
 obtain⟨aw,r,⟨o,e,_,n,d⟩,_⟩:=I.tuple h;obtain⟨its',r',⟨o',e',_,n',d'⟩,_⟩:=I.tuple h';rw[e]at e';cases e';rw[d]at d';injection d' with d1 _
 have:aw=its':=by simpa using B6 Array.toList d1
 subst this;exact r.inj r'
end
abbrev Cx.mx (X:Cx)(E:Value->Shared->Prop):Cx:={X with xe:=E}
abbrev Cx.Dq (X:Cx):Cx:=X.mx λ _ _=>False
theorem Cx.Ok.mx {X:Cx}(ok:X.Ok)(E:Value->Shared->Prop):(X.mx E).Ok:=
 ⟨ok.mod,ok.kind,ok.glob,ok.blt,ok.above,ok.inj,ok.has,ok.Jj,ok.hd,ok.frames,ok.L1,ok.Qb,ok.bs,ok.xo,ok.wD,ok.DN,ok.gR,ok.DK⟩
theorem Cx.Ok.fE {X:Cx}{E:Value->Shared->Prop}(ok:(X.mx E).Ok):X.Ok:=
 ⟨ok.mod,ok.kind,ok.glob,ok.blt,ok.above,ok.inj,ok.has,ok.Jj,ok.hd,ok.frames,ok.L1,ok.Qb,ok.bs,ok.xo,ok.wD,ok.DN,ok.gR,ok.DK⟩
section
variable {X:Cx}{pins:List (Addr×Obj)}{σ:St}{H:Hp}{s:Shared}{E:Value->Shared->Prop}
theorem Inv.mx (I:Inv X pins σ H s)(E:Value->Shared->Prop):Inv (X.mx E) pins σ H s:=⟨I.ok.mx E,I.os,I.bare,I.base,I.loc,I.cell,I.free,I.eJ,I.pin,I.aZ,I.len⟩
theorem Inv.fE (I:Inv (X.mx E) pins σ H s):Inv X pins σ H s:=⟨I.ok.fE,I.os,I.bare,I.base,I.loc,I.cell,I.free,I.eJ,I.pin,I.aZ,I.len⟩
theorem SP.fE {D:Ends}{f:Flow}{s':Shared}(h:SP (X.mx E) pins D f s'):SP X pins D f s':=by
 cases f with
 |next=>obtain⟨σ',H',I,q⟩:=h;exact⟨σ',H',I.fE,q⟩
 |brk=>obtain⟨σ',H',I,q⟩:=h;exact⟨σ',H',I.fE,q⟩
 |cont=>obtain⟨σ',H',I,q⟩:=h;exact⟨σ',H',I.fE,q⟩
 |ret u=>obtain⟨v,σ',H',I,r,q⟩:=h;exact⟨v,σ',H',I.fE,r,q⟩
theorem rJ.Dq {st:List Stmt}{t:TS}(h:rJ X.Dq st t):rJ X st t:=λ pins s σ H D I hw=>
 B4 (h pins s σ H D (I.mx _) hw) (λ _ _ q=>q.fE) λ _ _ z=>False.elim z
end
section
variable {X:Cx}{st:Stmt}{rest:List Stmt}{t u:TS}{e:Expr}{te:TE}{pos:Pos}
def JA:TS:=λ D σ H=>D.nx σ H
def MG(t u:TS):TS:=λ D σ H=>t {D with nx:=u D} σ H
theorem CW:rJ X [] JA:=λ _ _ σ H _ I h=>wpAny_execs_nil ⟨σ,H,I,h⟩
theorem yQ(h1:PS X st t)(h2:rJ X rest u):rJ X (st::rest) (MG t u):=by
 intro pins s σ H D I h;refine wpAny_execs_cons (cG (h1 pins s σ H {D with nx:=u D} I h) λ f s1 q=>?_);cases f with
 |next=>obtain⟨σ',H',I',q⟩:=q;exact h2 pins s1 σ' H' D I' q
 |ret v=>exact q
 |brk=>exact q
 |cont=>exact q
theorem CV(h1:PS X st t):rJ X [st] t:=by
 intro pins s σ H D I h;refine wpAny_execs_cons (cG (h1 pins s σ H D I h) λ f s1 q=>?_);cases f with
 |next=>exact wpAny_execs_nil q
 |ret v=>exact q
 |brk=>exact q
 |cont=>exact q
theorem Inv.quiet {pins:List (Addr×Obj)}{σ:St}{H:Hp}{s:Shared}(I:Inv X pins σ H s):interactive X.env=false:=by simp[interactive,I.ok.kind]
def JB(te:TE):TS:=λ D σ H=>te σ H λ _ H1=>D.nx σ H1
theorem CY(he:PE X e te)(hs:swapsWith e none pos.line X.env=pure false:=by rfl):PS X (.Expr e pos) (JB te):=by intro pins s σ H D I h;exact wpAny_Expr_any (cG (he pins s σ H _ I h) λ v s1 ⟨x,H1,I1,r1,q1⟩=>⟨σ,H1,I1,q1⟩) I.quiet hs
def MH(te:TE):TS:=λ D σ H=>te σ H D.rt
theorem Gy(he:PE X e te):PS X (.Return (some e) pos) (MH te):=by intro pins s σ H D I h;exact wpAny_Return_some (cG (he pins s σ H _ I h) λ v s1 ⟨x,H1,I1,r1,q1⟩=>⟨x,σ,H1,I1,r1,q1⟩)
def ML(c:TT)(t u:TS):TS:=λ D σ H=>c σ H λ b H1=>if b=true then t D σ H1 else u D σ H1
theorem Kd{c:Expr}{a b:List Stmt}{tc:TT}(hc:PT X c tc)(ha:rJ X a t)(hb:rJ X b u):PS X (.If c a b pos) (ML tc t u):=by
 intro pins s σ H D I h;refine wpAny_If (cG (hc pins s σ H _ I h) λ d s1 ⟨H1,I1,q1⟩=>?_);cases d with
 |true=>exact ha pins s1 σ H1 D I1 q1
 |false=>exact hb pins s1 σ H1 D I1 q1
end
abbrev TG:=V->St->Hp->(St->Hp->Prop)->Prop
abbrev vF:=List V->St->Hp->(St->Hp->Prop)->Prop
def PG(X:Cx)(target:Expr)(t:TG):Prop:=
 ∀(pins:List (Addr×Obj)) (s:Shared) (σ:St) (H:Hp) (v:V) (u:Value) (Q:St->Hp->Prop),Inv X pins σ H s->RelV v u->t v σ H Q->
  wpAny (model X.prog X.w) X.A (assign target X.env u) (λ _ s'=>∃σ' H',Inv X pins σ' H' s'/\Q σ' H') X.xe s
def IE(X:Cx)(ts:List Expr)(t:vF):Prop:=
 ∀(pins:List (Addr×Obj)) (s:Shared) (σ:St) (H:Hp) (vs:List V) (us:List Value) (Q:St->Hp->Prop),Inv X pins σ H s->Vals vs us->t vs σ H Q->
  wpAny (model X.prog X.w) X.A (assignInOrder ((assignEach ts X.env).map (·.2)) us) (λ _ s'=>∃σ' H',Inv X pins σ' H' s'/\Q σ' H') X.xe s
abbrev xr:=V->V->V->Hp->(Hp->Prop)->Prop
def pL(X:Cx)(t:xr):Prop:=
 ∀(pins:List (Addr×Obj)) (s:Shared) (σ:St) (H:Hp) (o i v:V) (ov iv u:Value) (Q:Hp->Prop),Inv X pins σ H s->RelV o ov->RelV i iv->RelV v u->t o i v H Q->
  wpAny (model X.prog X.w) X.A (setItem ov iv u) (λ _ s'=>∃H',Inv X pins σ H' s'/\Q H') X.xe s
abbrev Mt:=V->V->Hp->VK->Prop
def Qm(X:Cx)(op:Operator)(t:Mt):Prop:=
 ∀(pins:List (Addr×Obj)) (s:Shared) (σ:St) (H:Hp) (x y:V) (v u:Value) (Q:VK),Inv X pins σ H s->RelV x v->RelV y u->t x y H Q->
  wpAny (model X.prog X.w) X.A (inplaceOp op v u) (EP X pins σ Q) X.xe s
section
variable {X:Cx}{pos:Pos}
def ck(i:Nat):TG:=λ v σ H Q=>Q (σ.set i (some v)) H
theorem bc{i:Nat}{x:Str}(hN:X.N.Nodup)(hi:X.N[i]?=some x)(hx:Loc X.env.scope x)(hf:X.fn x=true\/X.env.scope.names.lookup x=some .local:=by first|exact .inl rfl|exact .inr rfl|assumption):PG X (.Name x pos) (ck i):=by intro pins s σ H v u Q I r h;exact wpAny_assign_Name (lh I hN hi hx r (λ s' I'=>⟨_,H,I',h⟩) hf)
def oZ:vF:=λ vs σ H Q=>vs=[]/\Q σ H
def cX(t:TG)(u:vF):vF:=λ vs σ H Q=>∃v r,vs=v::r/\t v σ H λ σ' H'=>u r σ' H' Q
theorem kg:IE X [] oZ:=by intro pins s σ H vs us Q I r h;obtain⟨e,h⟩:=h;subst e;cases r;exact assignInOrder_nil ⟨σ,H,I,h⟩
theorem dv{e:Expr}{es:List Expr}{t:TG}{u:vF}(h1:PG X e t)(h2:IE X es u) (hs:(assignEach (e::es) X.env).map (·.2)=assign e X.env::(assignEach es X.env).map (·.2):=by rfl):IE X (e::es) (cX t u):=by
 intro pins s σ H vs us Q I r h;obtain⟨v,vr,e1,h⟩:=h;subst e1;cases r with
 |cons r rr=>rw[hs];refine assignInOrder_cons (cG (h1 pins s σ H _ _ _ I r h) λ _ s1 ⟨σ1,H1,I1,q1⟩=>?_);exact h2 pins s1 σ1 H1 _ _ Q I1 rr q1
def qW(K:C0)(n:Nat)(t:vF):TG:=λ v σ H Q=>∃a xs,v=.ref a/\fz K H a xs/\xs.length=n/\t xs σ H Q
theorem oF{es:List Expr}{k:Nat}{t:vF}{n:Nat}(hc:X.calm=true)(h:IE X es t) (hn:(assignEach es X.env).length=n:=by rfl) (hst:(assignEach es X.env).findIdx? (·.1)=none:=by rfl):PG X (.Tuple es k pos) (qW X.K n t):=by intro pins s σ H v u Q I r hw;obtain⟨a,xs,e1,hq,hl,hw⟩:=hw;subst e1;cases r;obtain⟨aw,rv,ht,hz⟩:=I.tuple hq;refine assign_Tuple_tuple (I.ok.hd hc) ht (by simp[hn,<- hl,rv.length]) hst λ h' hx=>?_;have I1:Inv X pins σ H {s with heap:=h'}:=I.kept (t':=s.toks) λ b o e=>hx b o (z9 (A0 e)) e;exact h pins _ σ H xs _ Q I1 (by simpa using rv) hw
def OD(to ti:TE)(t:xr):TG:=λ v σ H Q=>to σ H λ o H1=>ti σ H1 λ i H2=>t o i v H2 λ H3=>Q σ H3
theorem GF{o i:Expr}{to ti:TE}{t:xr}(ho:PE X o to)(hi:PE X i ti)(hs:pL X t) (ha:∀v,assign (.Subscript o i pos) X.env v=(do
   let ov <- holding [v] (eval o X.env)
   let iv <- holding [v,ov] (eval i X.env)
   standAt pos
   holding [v,ov,iv] (setItem ov iv v)
   release [v,ov,iv] []):=by intro _;rfl):PG X (.Subscript o i pos) (OD to ti t):=by
 intro pins s σ H v u Q I r h;rw[ha];refine B0 (y3 (cG (ho pins s σ H _ I h) λ ov s1 ⟨x,H1,I1,r1,q1⟩=>?_));refine B0 (y3 (cG (hi pins s1 σ H1 _ I1 q1) λ iv s2 ⟨y,H2,I2,r2,q2⟩=>?_));refine B0 (wpAny_standAt (B0 (y3 (cG (hs pins s2 σ H2 x y v ov iv u _ I2 r1 r2 r q2) λ _ s3 ⟨H3,I3,q3⟩=>?_))));exact wpAny_release ⟨σ,H3,I3,q3⟩
def BF(te:TE)(g:TG):TS:=λ D σ H=>te σ H λ x H1=>g x σ H1 D.nx
theorem GB{tg e:Expr}{te:TE}{g:TG}(he:PE X e te)(hg:PG X tg g)(hs:swapsWithSole [tg] e pos.line X.env=pure false:=by rfl)(hw:swappedStores [tg] e X.env=pure none:=by rfl) (h1:(assignEach [tg] X.env).map (·.2)=[assign tg X.env]:=by rfl):PS X (.Assign [tg] e pos) (BF te g):=by intro pins s σ H D I h;refine wpAny_Assign_stores (cG (he pins s σ H _ I h) λ v s1 ⟨x,H1,I1,r1,q1⟩=>?_) hs hw;rw[h1];exact cG (hg pins s1 σ H1 x v _ I1 r1 q1) λ _ s2 q=>q
theorem Gx{i:Nat}{x:Str}{e:Expr}{te:TE}{pos':Pos}(hN:X.N.Nodup)(hi:X.N[i]?=some x)(hx:Loc X.env.scope x)(he:PE X e te)(hs:swapsWith e (some (.Name x pos')) pos.line X.env=pure false:=by rfl)(hf:X.fn x=true\/X.env.scope.names.lookup x=some .local:=by first|exact .inl rfl|exact .inr rfl|assumption):PS X (.Assign [.Name x pos'] e pos) (BF te (ck i)):=by intro pins s σ H D I h;refine wpAny_Assign_Name (cG (he pins s σ H _ I h) λ v s1 ⟨y,H1,I1,r1,q1⟩=>?_) hs;exact lh I1 hN hi hx r1 (λ s2 I2=>⟨_,H1,I2,q1⟩) hf
def MP(i:Nat)(te:TE)(ti:Mt):TS:=λ D σ H=>∃x,σ[i]?=some (some x)/\te σ H λ y H1=>ti x y H1 λ z H2=>D.nx (σ.set i (some z)) H2
theorem GA{i:Nat}{x:Str}{e:Expr}{te:TE}{op:Operator}{ti:Mt}{pos':Pos}(hN:X.N.Nodup)(hi:X.N[i]?=some x)(hx:Loc X.env.scope x)(he:PE X e te)(ho:Qm X op ti)(hf:X.fn x=true\/X.env.scope.names.lookup x=some .local:=by first|exact .inl rfl|exact .inr rfl|assumption):PS X (.AugAssign (.Name x pos') op e pos) (MP i te ti):=by
 intro pins s σ H D I h;obtain⟨v,e1,h⟩:=h;obtain⟨m,hn,hl⟩:=I.loc;have Qq:EN X.env.scope x:=by rcases hx with k|k;exact .inl k;exact .inr (.inl k)
 obtain⟨u,r,l⟩:=hl i x v hi e1 Qq;refine wpAny_AugAssign_Name ?_;have go:wpAny (model X.prog X.w) X.A (eval e X.env) (λ w s₂=>wpAny (model X.prog X.w) X.A (inplaceOp op u w) (λ r s₃=>wpAny (model X.prog X.w) X.A (storeName X.env x r) (λ _=>SP X pins D .next) X.xe s₃) X.xe s₂) X.xe s:=by refine cG (he pins s σ H _ I h) λ w s1 ⟨y,H1,I1,r1,q1⟩=>?_;refine cG (ho pins s1 σ H1 v y u w _ I1 r r1 q1) λ z s2 ⟨zv,H2,I2,r2,q2⟩=>?_;exact lh I2 hN hi hx r2 (λ s3 I3=>⟨_,H2,I3,q2⟩) hf
 rcases l with⟨hk,hm⟩|⟨hk,c,hc,uW⟩
 ·exact wpAny_loadName_local I.ok.kind hk hn hm go
 ·rcases hk with hk|hk
  ·exact wpAny_loadName_cell I.ok.kind hk hc uW go
  ·rcases hx with k|k
   ·have:X.env.scope.names.lookup x=some .free:=hk;rw[k]at this;cases this
   ·have:X.env.scope.names.lookup x=some .free:=hk;rw[k]at this;cases this
def Q_(f:Int->Int->Int):Mt:=λ x y H Q=>∃i j,x=.int i/\y=.int j/\Q (.int (f i j)) H
theorem HD:Qm X .Add (Q_ λ i j=>i+j):=by intro pins s σ H x y v u Q I r1 r2 h;obtain⟨i,j,e1,e2,q⟩:=h;subst e1;subst e2;obtain⟨t,rfl⟩:=r1;obtain⟨t',rfl⟩:=r2;exact iadd_int ⟨.int _,H,I.tok _,⟨_,rfl⟩,q⟩
end
section
variable {X:Cx}{pos:Pos}
def E5(c:TT)(tb:TS):TS:=λ D σ H=>∃W:Nat->St->Hp->Prop,(∃m,W m σ H)/\∀m σ H,W m σ H->
 c σ H λ b H1=>if b=true then ∃N:St->Hp->Prop,(∀σ' H',N σ' H'->∃m',m' < m/\W m' σ' H')/\tb {D with nx:=N,ct:=N,bk:=D.nx} σ H1 else D.nx σ H1
theorem yS{c:Expr}{body:List Stmt}{tc:TT}{tb:TS}(hp:PassesOwn (model X.prog X.w) X.A X.env X.xe)(hc:PT X c tc)(hb:rJ X body tb):PS X (.While c body [] pos) (E5 tc tb):=by
 intro pins s σ H D I h;obtain⟨W,⟨m0,w0⟩,turn⟩:=h;refine wpAny_While (codeAny_whileLoop (λ n s'=>∃σ' H',Inv X pins σ' H' s'/\W n σ' H') ?_ m0 ⟨σ,H,I,w0⟩);rintro n s1 ⟨σ1,H1,I1,w1⟩;refine u9 hp (cG (hc pins s1 σ1 H1 _ I1 (turn n σ1 H1 w1)) λ b s2 ⟨H2,I2,q2⟩=>?_);cases b with
 |true=>
  obtain⟨N,hN,q2⟩:=q2;rw[B8 rfl];refine u9 hp (cG (hb pins s2 σ1 H2 _ I2 q2) λ f s3 q3=>?_);cases f with
  |next=>obtain⟨σ3,H3,I3,n3⟩:=q3;obtain⟨m',hm,w3⟩:=hN σ3 H3 n3;exact⟨m',hm,σ3,H3,I3,w3⟩
  |cont=>obtain⟨σ3,H3,I3,n3⟩:=q3;obtain⟨m',hm,w3⟩:=hN σ3 H3 n3;exact⟨m',hm,σ3,H3,I3,w3⟩
  |brk=>exact q3
  |ret v=>exact q3
 |false=>rw[B9 k8];exact wpAny_execs_nil ⟨σ1,H2,I2,q2⟩
end
structure It where
 go:Nat->Hp->Prop
 Br:Nat->Hp->V->Hp->Prop
 stop:Nat->Hp->Prop
def iO(X:Cx)(pins:List (Addr×Obj))(H:Hp)(b:Addr):Prop:=
 H b=none/\b≠X.env.locals/\b∉X.fs/\(b∈X.ex\/X.s₀.heap.objs.size<=b)/\(∀x c,X.env.cells.lookup x=some c->c≠b)/\∀p∈X.pn++pins,p.1≠b
theorem Inv.jk {X:Cx}{pins:List (Addr×Obj)}{σ:St}{H H':Hp}{s:Shared}{b:Addr}(I:Inv X pins σ H s)(hb:s.heap.objs.size<=b)(hn:H' b=none):iO X pins H' b:=by
 refine⟨hn,A4 (l7 I.lt hb),I.Ny hb,.inr (A2 I.sz hb),λ x c e z=>?_,λ p hp z=>?_⟩
 ·obtain⟨v,q⟩:=I.cell x c e;exact absurd (l7 q.lt (by rw[z];exact hb)) (y6 _)
 ·exact absurd (l7 (A0 (I.pin p hp).1) (by rw[z];exact hb)) (y6 _)
structure Turn(P:Program)(w:World)(K:C0)(tg:Expr)(J:It)(fp:List Addr)(it:Addr)(tn:Nat->Heap->Prop):Prop where
 mem:it∈fp
 obj:∀i h,tn i h->∀b∈fp,∃o,h.get? b=some o/\∀v,o.data≠.cell v
 keep:∀i h h',tn i h->(∀b∈fp,∀o,h.get? b=some o->h'.get? b=some o)->tn i h'
 item:∀(X:Cx),X.prog=P->X.w=w->X.K=K->X.calm=true->∀(i:Nat) (pins:List (Addr×Obj)) (s:Shared) (σ:St) (H:Hp) (E:Value->Shared->Prop),Inv X pins σ H s->(∀b∈fp,iO X pins H b)->tn i s.heap->J.go i H->
  wpAny (model P w) X.A (pyNext (.ref it)) (λ r s1=>∃u,r=some u/\
   wpAny (model P w) X.A (letOwnedTupleGo tg (.ref it) u) (λ _ s2=>∃x H',Inv X pins σ H' s2/\RelV x u/\J.Br i H x H'/\tn (i+1) s2.heap/\∀b∈fp,H' b=none) E s1) E s
 done:∀(X:Cx),X.prog=P->X.w=w->X.K=K->X.calm=true->∀(i:Nat) (pins:List (Addr×Obj)) (s:Shared) (σ:St) (H:Hp) (E:Value->Shared->Prop),Inv X pins σ H s->(∀b∈fp,iO X pins H b)->tn i s.heap->J.stop i H->
  wpAny (model P w) X.A (pyNext (.ref it)) (λ r s1=>r=none/\Inv X pins σ H s1) E s
 self:∀(A:Around) (i:Nat) (s:Shared) (Q:Value->Shared->Prop) (E:Value->Shared->Prop),tn i s.heap->Q (.ref it) s->wpAny (model P w) A (pyIter (.ref it)) Q E s
abbrev TI:=St->Hp->(It->Hp->Prop)->Prop
def OW(X:Cx)(pins:List (Addr×Obj))(σ:St)(tg:Expr)(R:It->Hp->Prop)(L_:Value)(s2:Shared):Prop:=
 ∃(it:Addr) (fp:List Addr) (tn:Nat->Heap->Prop) (J:It) (H':Hp),L_=.ref it/\Inv X pins σ H' s2/\Turn X.prog X.w X.K tg J fp it tn/\tn 0 s2.heap/\(∀b∈fp,iO X pins H' b)/\R J H'
def PI(X:Cx)(tg iter:Expr)(wi:TI):Prop:=
 ∀(pins:List (Addr×Obj)) (s:Shared) (σ:St) (H:Hp) (R:It->Hp->Prop),Inv X pins σ H s->wi σ H R->
  wpAny (model X.prog X.w) X.A (eval iter X.env) (λ v s1=>wpAny (model X.prog X.w) X.A (pyIter v) (OW X pins σ tg R) X.xe s1) X.xe s
theorem qV{M:Model}{A:Around}{E:Value->Shared->Prop}{s:Shared}{tg:Expr}{it:Addr}{u:Value}{o:Obj}{n:String}{vs:Array Value}{Q:Unit->Shared->Prop}(ho:s.heap.get? it=some o)(hc:o.cls=.type n)(hd:o.data=.fields vs) (hn:["enumerate","zip","dict_itemiterator","dict_reverseitemiterator","odict_iterator","itertools.zip_longest","itertools.pairwise"].contains n=false) (hQ:Q () s):wpAny M A (letOwnedTupleGo tg (.ref it) u) Q E s:=by
 unfold letOwnedTupleGo;cases tg <;> first
  |exact B1 hQ
  |(cases u <;> first
    |exact B1 hQ
    |(refine B0 (wpAny_load ho ?_)
      rw[hc,hd];show wpAny M A (if(["enumerate","zip","dict_itemiterator","dict_reverseitemiterator","odict_iterator","itertools.zip_longest","itertools.pairwise"].contains n&&vs[0]?==some (rawInt _))=true then _ else _) Q E s;rw[B9 (by intro h;rw[hn,Bool.false_and]at h;cases h)];exact B1 hQ))
def Mx(K:C0)(a:Addr):It:=
 ⟨λ i H=>∃xs x,eA K H a xs/\xs[i]?=some x,λ i H x H'=>H'=H/\∀xs,eA K H a xs->xs[i]?=some x,λ i H=>∃xs,eA K H a xs/\xs.length<=i⟩
def OY(K:C0)(a:Addr):It:=
 ⟨λ i H=>∃xs x,fz K H a xs/\xs[i]?=some x,λ i H x H'=>H'=H/\∀xs,fz K H a xs->xs[i]?=some x,λ i H=>∃xs,fz K H a xs/\xs.length<=i⟩
def Mw(lo:Int)(n:Nat):It:=⟨λ i _=>i < n,λ i H x H'=>H'=H/\x=.int (lo+i),λ i _=>n<=i⟩
theorem vT{P:Program}{w:World}{K:C0}{tg:Expr}(a it:Addr):Turn P w K tg (Mx K a) [it] it (λ i h=>h.IsListIter it a i) where
 mem:=by simp
 obj:=λ i h st b hb=>by
  have e:b=it:=by simpa using hb
  subst e;obtain⟨o,e,c,d⟩:=st;exact⟨o,e,λ v z=>by rw[d]at z;cases z⟩
 keep:=λ i h h' st k=>st.at λ o e=>k it (by simp) o e
 item:=by intro X hP hw hK hc i pins s σ H E I hf st hg;subst hP hw hK;obtain⟨xs,x,hq,hx⟩:=hg;obtain⟨aw,rv,p,hz⟩:=I.list hq;obtain⟨u,hu,ru⟩:=rv.get hx;obtain⟨f0,f1,f2,f3,f4,f5⟩:=hf it (by simp);refine wpAny_pyNext_list_item st p.isList (x:=u) (by simpa using hu) λ h' ue sb=>?_;have I1:Inv X pins σ H {s with heap:=h'}:=I.turned (t':=s.toks) (λ b o hb e=>(sb.2 b hb).trans e) f0 f1 f3 f4 f5;obtain⟨o,e,c,d⟩:=id ue;exact⟨u,rfl,qV (s:={s with heap:=h'}) e c d (by decide) ⟨x,H,I1,ru,⟨rfl,λ ys hy=>by rw[I.qJ hy hq];exact hx⟩,ue,λ b hb=>(hf b hb).1⟩⟩
 done:=by intro X hP hw hK hc i pins s σ H E I hf st hg;subst hP hw hK;obtain⟨xs,hq,hx⟩:=hg;obtain⟨aw,rv,p,hz⟩:=I.list hq;obtain⟨f0,f1,f2,f3,f4,f5⟩:=hf it (by simp);have hl:=rv.length;exact wpAny_pyNext_list_end (I.ok.hd hc) st p.isList (by simp;omega) λ h' eb=>⟨rfl,I.turned (t':=s.toks) (λ b o hb e=>eb b o hb e) f0 f1 f3 f4 f5⟩
 self:=λ _ _ _ _ _ st h=>wpAny_pyIter_listiter st h
theorem rX{P:Program}{w:World}{K:C0}{tg:Expr}(a it:Addr):Turn P w K tg (OY K a) [it] it (λ i h=>h.IsTupleIter it a i) where
 mem:=by simp
 obj:=λ i h st b hb=>by
  have e:b=it:=by simpa using hb
  subst e;obtain⟨o,e,c,d⟩:=st;exact⟨o,e,λ v z=>by rw[d]at z;cases z⟩
 keep:=λ i h h' st k=>st.at λ o e=>k it (by simp) o e
 item:=by intro X hP hw hK hc i pins s σ H E I hf st hg;subst hP hw hK;obtain⟨xs,x,hq,hx⟩:=hg;obtain⟨aw,rv,p,hz⟩:=I.tuple hq;obtain⟨u,hu,ru⟩:=rv.get hx;obtain⟨f0,f1,f2,f3,f4,f5⟩:=hf it (by simp);refine wpAny_pyNext_tuple_item st (show s.heap.IsTuple a aw.toArray from p) (x:=u) (by simpa using hu) λ h' ue sb=>?_;have I1:Inv X pins σ H {s with heap:=h'}:=I.turned (t':=s.toks) (λ b o hb e=>(sb.2 b hb).trans e) f0 f1 f3 f4 f5;obtain⟨o,e,c,d⟩:=id ue;exact⟨u,rfl,qV (s:={s with heap:=h'}) e c d (by decide) ⟨x,H,I1,ru,⟨rfl,λ ys hy=>by rw[I.mV hy hq];exact hx⟩,ue,λ b hb=>(hf b hb).1⟩⟩
 done:=by intro X hP hw hK hc i pins s σ H E I hf st hg;subst hP hw hK;obtain⟨xs,hq,hx⟩:=hg;obtain⟨aw,rv,p,hz⟩:=I.tuple hq;obtain⟨f0,f1,f2,f3,f4,f5⟩:=hf it (by simp);have hl:=rv.length;exact wpAny_pyNext_tuple_end (I.ok.hd hc) st (show s.heap.IsTuple a aw.toArray from p) (by simp;omega) λ h' eb=>⟨rfl,I.turned (t':=s.toks) (λ b o hb e=>eb b o hb e) f0 f1 f3 f4 f5⟩
 self:=λ _ _ _ _ _ st h=>wpAny_pyIter_tupleiter st h
theorem rY{P:Program}{w:World}{K:C0}{tg:Expr}(it:Addr)(lo:Int)(n:Nat):Turn P w K tg (Mw lo n) [it] it (λ i h=>IsRangeIter h it (lo+(i:Nat)*1) ((n:Int) - (i:Nat)) 1) where
 mem:=by simp
 obj:=λ i h st b hb=>by
  have e:b=it:=by simpa using hb
  subst e;exact⟨_,st,λ v z=>by
   have z':Data.fields _=Data.cell v:=z;cases z'⟩
 keep:=λ i h h' st k=>k it (by simp) _ st
 item:=by intro X hP hw hK hc i pins s σ H E I hf st hg;subst hP hw hK;obtain⟨f0,f1,f2,f3,f4,f5⟩:=hf it (by simp);have W:=Walks.range (prog:=X.prog) (w:=X.w) (I.ok.hd hc) it lo 1 n;refine W.item i s _ _ hg st λ v h' tk hv ue kk=>?_;obtain⟨t,rfl⟩:=hv;have I1:Inv X pins σ H {s with heap:=h',toks:=tk}:=I.turned (λ b o hb e=>kk b o (by simpa using hb) e) f0 f1 f3 f4 f5;refine⟨_,rfl,qV (s:={s with heap:=h',toks:=tk}) (n:="range_iterator") ue rfl rfl (by decide) ⟨.int (lo+i),H,I1,⟨t,?_⟩,⟨rfl,rfl⟩,ue,λ b hb=>(hf b hb).1⟩⟩;rw[Int.mul_one]
 done:=by intro X hP hw hK hc i pins s σ H E I hf st hg;subst hP hw hK;obtain⟨f0,f1,f2,f3,f4,f5⟩:=hf it (by simp);exact wpAny_pyNext_range_end (I.ok.hd hc) st (by have:n<=i:=hg;omega) λ h' eb=>⟨rfl,I.turned (t':=s.toks) (λ b o hb e=>eb b o hb e) f0 f1 f3 f4 f5⟩
 self:=λ _ _ _ _ _ st h=>wpAny_pyIter_rangeiter st h
section
variable {X:Cx}{tg:Expr}
theorem yJ{pins:List (Addr×Obj)}{σ:St}{H:Hp}{s:Shared}{R:It->Hp->Prop}{E:Value->Shared->Prop}{lo hi:Int}{t u v:Tok}{tk:Nat}(I:Inv X pins σ H s)(h1: -(2^62)<=lo)(h2:lo < 2^62)(h3: -(2^62)<=hi)(h4:hi < 2^62) (q:R (Mw lo (hi - lo).toNat) H):wpAny (model X.prog X.w) X.A (pyIter (.ref s.heap.objs.size)) (OW X pins σ tg R) E {s with heap:=s.heap.push {cls:=.type "range",data:=.fields #[.int lo t,.int hi u,.int 1 v]},toks:=tk}:=by
 refine wpAny_pyIter_range (IsRange.new ..) (small_one h1 h2 h3 h4) ?_;have I1:Inv X pins σ H {s with heap:=s.heap.push {cls:=.type "range",data:=.fields #[.int lo t,.int hi u,.int 1 v]},toks:=tk}:=I.kept λ b o e=>i5 _ e;refine⟨(s.heap.push {cls:=.type "range",data:=.fields #[.int lo t,.int hi u,.int 1 v]}).objs.size,[(s.heap.push {cls:=.type "range",data:=.fields #[.int lo t,.int hi u,.int 1 v]}).objs.size],_,_,H,rfl,
  I1.kept (t':=tk) λ b o e=>i5 _ e,rY _ lo (hi - lo).toNat,?_,λ b hb=>?_,q⟩
 ·have e1:lo+((0:Nat):Int)*1=lo:=by simp
  have e2:(((hi - lo).toNat:Nat):Int) - ((0:Nat):Int)=Builtin.Range.rangeSize lo hi 1:=by rw[rangeSize_one];split <;> omega
  show IsRangeIter _ _ (lo+((0:Nat):Int)*1) ((((hi - lo).toNat:Nat):Int) - ((0:Nat):Int)) 1;rw[e1,e2];exact k4 _ rfl
 ·have e:b=(s.heap.push {cls:=.type "range",data:=.fields #[.int lo t,.int hi u,.int 1 v]}).objs.size:=by simpa using hb
  subst e;exact I1.jk (A6 _) (I1.aZ.fresh (A6 _))
def KD(ta:TA):TI:=λ σ H R=>ta σ H λ vs H1=>∃j:Int,vs=[.int j]/\-(2^62)<=j/\j < 2^62/\R (Mw 0 j.toNat) H1
theorem wu{a:Expr}{ta:TA}{p pos:Pos}(hg:Gl X "range")(hm:X.mg "range"=none)(ha:PA X [a] ta)(hs:starEach [a] X.env=[(false,eval a X.env)]:=by rfl):PI X tg (.Call (.Name "range" p) [a] [] pos) (KD ta):=by
 intro pins s σ H R I h;refine Call_ (fT I hg hm boot_range (a7 (cG (ha pos pins s σ H _ I h) λ us s1 ⟨vs,H1,I1,r1,q1⟩=>?_) hs rfl));obtain⟨j,e,q1,q2,q⟩:=q1;subst e;cases r1 with
 |cons r rr=>cases rr;obtain⟨t,rfl⟩:=r;exact call_range_1 (yJ I1 (by omega) (by omega) q1 q2 (by simpa using q))
def MM(wi:TI)(g:TG)(tb:TS):TS:=λ D σ H=>wi σ H λ J H1=>∃W:Nat->Nat->St->Hp->Prop,(∃m,W 0 m σ H1)/\∀i m σ H,W i m σ H->
 (J.stop i H/\D.nx σ H)\/(J.go i H/\∃N:St->Hp->Prop,(∀σ' H',N σ' H'->∃m',m' < m/\W (i+1) m' σ' H')/\∀x H',J.Br i H x H'->g x σ H' λ σ2 H2=>tb {D with nx:=N,ct:=N,bk:=D.nx} σ2 H2)
def oE(fp:List Addr)(h:Heap):List (Addr×Obj):=fp.filterMap λ b=>(h.get? b).map λ o=>(b,o)
theorem de{fp:List Addr}{h:Heap}{b:Addr}{o:Obj}(hb:b∈fp)(e:h.get? b=some o):(b,o)∈oE fp h:=mem_filterMap.mpr ⟨b,hb,by rw[e];rfl⟩
theorem wC{fp:List Addr}{h:Heap}{p:Addr×Obj}(hp:p∈oE fp h):p.1∈fp/\h.get? p.1=some p.2:=by
 obtain⟨b,hb,e⟩:=mem_filterMap.mp hp;cases q:h.get? b with
 |none=>rw[q]at e;cases e
 |some o=>rw[q]at e;have e':(b,o)=p:=u6 e;subst e';exact⟨hb,q⟩
theorem Inv.pinned {pins:List (Addr×Obj)}{σ:St}{H:Hp}{s:Shared}{fp:List Addr}(I:Inv X pins σ H s)(hf:∀b∈fp,iO X pins H b)(ho:∀b∈fp,∃o,s.heap.get? b=some o/\∀v,o.data≠.cell v):Inv X (pins++oE fp s.heap) σ H s:=
 I.ir λ p hp=>(w9.mp hp).elim (λ z=>I.pin p (i9 _ z)) λ z=>by obtain⟨hb,e⟩:=wC z;obtain⟨f0,f1,f2,_⟩:=hf p.1 hb;obtain⟨o,e',d⟩:=ho p.1 hb;rw[e]at e';cases e';exact⟨e,f0,f1,f2,d⟩
theorem Inv.kW {pins pl:List (Addr×Obj)}{σ:St}{H:Hp}{s:Shared}(I:Inv X (pins++pl) σ H s):Inv X pins σ H s:=I.ir λ p hp=>I.pin p (i9 _ (mem_append_left _ hp))
theorem Gz{iter:Expr}{body:List Stmt}{wi:TI}{g:TG}{tb:TS}{pos:Pos}(hp:PassesOwn (model X.prog X.w) X.A X.env X.xe)(hc:X.calm=true)(hi:PI X tg iter wi)(hg:PG X tg g)(hb:rJ X body tb) (hs:∀x,foldedSetIterable iter X.env x=pure x:=by intro _;rfl):PS X (.For tg iter body [] pos) (MM wi g tb):=by
 intro pins s σ H D I h;refine wpAny_For (cG (hi pins s σ H _ I h) λ v s1 h1=>cG h1 λ L_ s2 h2=>?_) hs;obtain⟨it,fp,tn,J,H2,e,I2,T,JF,f2,W,⟨m0,w0⟩,turn⟩:=h2;subst e;have E9:∀{H':Hp},(∀b∈fp,H' b=none)->∀b∈fp,iO X pins H' b:=λ hn b hb=>⟨hn b hb,(f2 b hb).2⟩;refine codeAny_forLoop_any (λ n s'=>∃i σ' H',Inv X pins σ' H' s'/\tn i s'.heap/\(∀b∈fp,H' b=none)/\W i n σ' H') ?_ m0 ⟨0,σ,H2,I2,JF,λ b hb=>(f2 b hb).1,w0⟩;rintro n s3 ⟨i,σ3,H3,I3,JE,Lb,w3⟩;rcases turn i n σ3 H3 w3 with⟨stop,qn⟩|⟨go,N,hN,step⟩
 ·refine u9 hp (cG (T.done X rfl rfl rfl hc i pins s3 σ3 H3 X.xe I3 (E9 Lb) JE stop) λ r s4 ⟨hr,I4⟩=>?_);subst hr;exact wpAny_execs_nil ⟨σ3,H3,I4,qn⟩
 ·refine u9 hp (cG (T.item X rfl rfl rfl hc i pins s3 σ3 H3 X.xe I3 (E9 Lb) JE go) λ r s4 ⟨u,hr,h4⟩=>?_);subst hr;refine u9 hp (cG h4 λ _ s5 ⟨x,H5,I5,r5,y5,BI,OE⟩=>?_);have O1:=I5.pinned (E9 OE) (T.obj _ _ BI);refine u9 hp (cG (hg _ s5 σ3 H5 x u _ O1 r5 (step x H5 y5)) λ _ s6 ⟨σ6,H6,I6,q6⟩=>?_);refine u9 hp (cG (hb _ s6 σ6 H6 _ I6 q6) λ f s7 q7=>?_);have again:∀{σ7:St} {H7:Hp},Inv X (pins++oE fp s5.heap) σ7 H7 s7->N σ7 H7->∃m,m < n/\∃i σ' H',Inv X pins σ' H' s7/\tn i s7.heap/\(∀b∈fp,H' b=none)/\W i m σ' H':=λ{σ7 H7} I7 n7=>by obtain⟨m',hm,w7⟩:=hN σ7 H7 n7;refine⟨m',hm,i+1,σ7,H7,I7.kW,T.keep _ _ _ BI λ b hb o e=>(I7.pin (b,o) (i9 _ (i9 _ (de hb e)))).1,λ b hb=>?_,w7⟩;obtain⟨o,e,d⟩:=T.obj _ _ BI b hb;exact(I7.pin (b,o) (i9 _ (i9 _ (de hb e)))).2.1
  cases f with
  |next=>obtain⟨σ7,H7,I7,n7⟩:=q7;exact again I7 n7
  |cont=>obtain⟨σ7,H7,I7,n7⟩:=q7;exact again I7 n7
  |brk=>obtain⟨σ7,H7,I7,q7⟩:=q7;exact⟨σ7,H7,I7.kW,q7⟩
  |ret v=>obtain⟨x7,σ7,H7,I7,r7,q7⟩:=q7;exact⟨x7,σ7,H7,I7.kW,r7,q7⟩
end
abbrev R2:=V->V->Hp->VK->Prop
def eN(X:Cx)(f:Value->Value->Sem Value)(r:R2):Prop:=
 ∀(pins:List (Addr×Obj)) (s:Shared) (σ:St) (H:Hp) (x y:V) (v u:Value) (Q:VK),Inv X pins σ H s->RelV x v->RelV y u->r x y H Q->
  wpAny (model X.prog X.w) X.A (f v u) (EP X pins σ Q) X.xe s
def Ms(X:Cx)(f:Value->Sem Value)(r:V->Hp->VK->Prop):Prop:=
 ∀(pins:List (Addr×Obj)) (s:Shared) (σ:St) (H:Hp) (x:V) (v:Value) (Q:VK),Inv X pins σ H s->RelV x v->r x H Q->
  wpAny (model X.prog X.w) X.A (f v) (EP X pins σ Q) X.xe s
def cQ(X:Cx)(f:Value)(r:List V->Hp->VK->Prop):Prop:=
 ∀(pins:List (Addr×Obj)) (s:Shared) (σ:St) (H:Hp) (xs:List V) (us:List Value) (Q:VK),Inv X pins σ H s->Vals xs us->r xs H Q->
  wpAny (model X.prog X.w) X.A (call f us) (EP X pins σ Q) X.xe s
def Jy(r:R2)(ta tb:TE):TE:=λ σ H Q=>ta σ H λ x H1=>tb σ H1 λ y H2=>r x y H2 Q
def Qw(r:V->Hp->VK->Prop)(ta:TE):TE:=λ σ H Q=>ta σ H λ x H1=>r x H1 Q
def rI(C:Int->Int->Prop)(g:Int->Int->V):R2:=λ x y H Q=>∃i j,x=.int i/\y=.int j/\C i j/\Q (g i j) H
def Be(g:Int->Int->V):R2:=λ x y H Q=>∃i j,x=.int i/\y=.int j/\Q (g i j) H
def rU(g:Int->V):V->Hp->VK->Prop:=λ x H Q=>∃i,x=.int i/\Q (g i) H
section
variable {X:Cx}{a b c:Expr}{ta tb tc:TE}{pos:Pos}
theorem Iy(ha:PE X a ta)(hb:PE X b tb){pins:List (Addr×Obj)}{s:Shared}{σ:St}{H:Hp}{R:V->V->Hp->Prop}(I:Inv X pins σ H s) (h:ta σ H λ x H1=>tb σ H1 λ y H2=>R x y H2) {Q:Value->Shared->Prop} {f:Value->Value->Sem Value} (hf:∀v u s2 x y H2,Inv X pins σ H2 s2->RelV x v->RelV y u->R x y H2->wpAny (model X.prog X.w) X.A (f v u) Q X.xe s2):wpAny (model X.prog X.w) X.A (eval a X.env) (λ v s₁=>wpAny (model X.prog X.w) X.A (eval b X.env) (λ u s₂=>wpAny (model X.prog X.w) X.A (f v u) Q X.xe s₂) X.xe s₁) X.xe s:=by refine cG (ha pins s σ H _ I h) λ v s1 ⟨x,H1,I1,r1,q1⟩=>?_;refine cG (hb pins s1 σ H1 _ I1 q1) λ u s2 ⟨y,H2,I2,r2,q2⟩=>?_;exact hf v u s2 x y H2 I2 r1 r2 q2
theorem Kf{op:Operator}{r:R2}(ho:eN X (binaryOp op) r)(ha:PE X a ta)(hb:PE X b tb):PE X (.BinOp a op b pos) (Jy r ta tb):=by intro pins s σ H Q I h;exact wpAny_BinOp (Iy ha hb I h λ v u s2 x y H2 I2 rx ry q=>ho pins s2 σ H2 x y v u Q I2 rx ry q)
theorem Ke{op:UnaryOp}{r:V->Hp->VK->Prop}(ho:Ms X (unaryOp op) r)(ha:PE X a ta):PE X (.UnaryOp op a pos) (Qw r ta):=by intro pins s σ H Q I h;exact UnaryOp_ (cG (ha pins s σ H _ I h) λ v s1 ⟨x,H1,I1,r1,q1⟩=>ho pins s1 σ H1 x v Q I1 r1 q1)
theorem L8{f:Value->Value->Sem Value}{C:Int->Int->Prop}{g:Int->Int->Int} (rule:∀(i j:Int) (t u:Tok) (s:Shared) (Q:Value->Shared->Prop) (E:Value->Shared->Prop),C i j->Q (.int (g i j) s.toks) {s with toks:=s.toks+1}->wpAny (model X.prog X.w) X.A (f (.int i t) (.int j u)) Q E s):eN X f (rI C λ i j=>.int (g i j)):=by intro pins s σ H x y v u Q I rx ry h;obtain⟨i,j,rfl,rfl,hc,q⟩:=h;obtain⟨t,rfl⟩:=rx;obtain⟨t',rfl⟩:=ry;exact rule i j t t' s _ _ hc ⟨.int (g i j),H,I.tok _,⟨_,rfl⟩,q⟩
theorem G6{f:Value->Value->Sem Value}{g:Int->Int->Int} (rule:∀(i j:Int) (t u:Tok) (s:Shared) (Q:Value->Shared->Prop) (E:Value->Shared->Prop),Q (.int (g i j) s.toks) {s with toks:=s.toks+1}->wpAny (model X.prog X.w) X.A (f (.int i t) (.int j u)) Q E s):eN X f (Be λ i j=>.int (g i j)):=by intro pins s σ H x y v u Q I rx ry h;obtain⟨i,j,rfl,rfl,q⟩:=h;obtain⟨t,rfl⟩:=rx;obtain⟨t',rfl⟩:=ry;exact rule i j t t' s _ _ ⟨.int (g i j),H,I.tok _,⟨_,rfl⟩,q⟩
theorem G7{f:Value->Value->Sem Value}{g:Int->Int->Bool} (rule:∀(i j:Int) (t u:Tok) (s:Shared) (Q:Value->Shared->Prop) (E:Value->Shared->Prop),Q (.bool (g i j)) s->wpAny (model X.prog X.w) X.A (f (.int i t) (.int j u)) Q E s):eN X f (Be λ i j=>.bl (g i j)):=by intro pins s σ H x y v u Q I rx ry h;obtain⟨i,j,rfl,rfl,q⟩:=h;obtain⟨t,rfl⟩:=rx;obtain⟨t',rfl⟩:=ry;exact rule i j t t' s _ _ ⟨.bl (g i j),H,I,rfl,q⟩
def IJ(i j:Int):Prop:=0 < j/\j < 1073741824
def LK(i j:Int):Prop:=0<=j/\j<=1000000/\i.natAbs < 2^64
def pP(i j:Int):Prop:=(-(2^64) < i/\i < 2^64)\/(-(2^64) < j/\j < 2^64)
theorem pP.ok {i j:Int}(h:pP i j):IntMulOk i j:=by
 rcases h with⟨h1,h2⟩|⟨h1,h2⟩
 ·exact .of_left (intBits_le_64 h1 h2)
 ·exact .of_right (intBits_le_64 h1 h2)
theorem G5:eN X (binaryOp .Add) (Be λ i j=>.int (i+j)):=G6 λ _ _ _ _ _ _ _ q=>add_int q
theorem GV:eN X (binaryOp .Sub) (Be λ i j=>.int (i - j)):=G6 λ _ _ _ _ _ _ _ q=>sub_int q
theorem GZ:eN X (binaryOp .Mult) (rI pP λ i j=>.int (i*j)):=L8 λ _ _ _ _ _ _ _ hc q=>mul_int q hc.ok
theorem Dd:eN X (binaryOp .FloorDiv) (rI IJ λ i j=>.int (i / j)):=L8 λ i j _ _ _ _ _ hc q=>by have h1:(0:Int) < j:=hc.1;have h2:j < 1073741824:=hc.2;exact floordiv_int (by omega) (by rw[Int.fdiv_eq_ediv_of_nonneg i (by omega)];exact q) (.inl (PyProof.noPylong_small (by omega)))
theorem G0:eN X (binaryOp .Mod) (rI (λ _ j=>0 < j) λ i j=>.int (i % j)):=L8 λ i j _ _ _ _ _ hc q=>by have h1:(0:Int) < j:=hc;exact mod_int' (by omega) (by rw[Int.fmod_eq_emod_of_nonneg i (by omega)];exact q)
theorem GX:eN X (binaryOp .Pow) (rI LK λ i j=>.int (i^j.toNat)):=L8 λ _ _ _ _ _ _ _ hc q=>pow_int_small hc.1 hc.2.1 hc.2.2 q
theorem GU:eN X (binaryOp .BitXor) (Be λ i j=>.int (Builtin.bitXor i j)):=G6 λ _ _ _ _ _ _ _ q=>xor_int q
theorem Qs{f:Value->Sem Value}{g:Int->Int} (rule:∀(i:Int) (t:Tok) (s:Shared) (Q:Value->Shared->Prop) (E:Value->Shared->Prop),Q (.int (g i) s.toks) {s with toks:=s.toks+1}->wpAny (model X.prog X.w) X.A (f (.int i t)) Q E s):Ms X f (rU λ i=>.int (g i)):=by intro pins s σ H x v Q I rx h;obtain⟨i,rfl,q⟩:=h;obtain⟨t,rfl⟩:=rx;exact rule i t s _ _ ⟨.int (g i),H,I.tok _,⟨_,rfl⟩,q⟩
theorem EY:Ms X (unaryOp .USub) (rU λ i=>.int (-i)):=Qs λ _ _ _ _ _ q=>neg_int q
end
def JG:V->V->Bool
 | .bf,.bf=>true| .bf,.int _=>true| .int _,.bf=>true| .bf,.bl _=>true| .bl _,.bf=>true| .bf,.str _=>true| .str _,.bf=>true
 | .int _,.int _=>true| .bl _,.bl _=>true| .str _,.str _=>true| .AQ _,.AQ _=>true
 | .int _,.str _=>true| .str _,.int _=>true| .bl _,.str _=>true| .str _,.bl _=>true
 |_,_=>false
def QR:R2:=λ x y H Q=>JG x y=true/\Q (.bl (decide (x=y))) H
def QN:R2:=λ x y H Q=>JG x y=true/\Q (.bl (!decide (x=y))) H
theorem vc{i j:Int}:decide (V.int i=V.int j)=(i==j):=by rw[q8];simp
theorem AA{i j:Bool}:decide (V.bl i=V.bl j)=(i==j):=by rw[q8];simp
theorem vb{i j:Str}:decide (V.str i=V.str j)=(i==j):=by rw[q8];simp
theorem vd{i j:Array UInt8}:decide (V.AQ i=V.AQ j)=(i.toList==j.toList):=by rw[q8];cases i;cases j;simp
section
variable {X:Cx}{a b c:Expr}{ta tb tc:TE}{pos:Pos}
theorem aU{pins:List (Addr×Obj)}{σ:St}{H:Hp}{s:Shared}{Q:VK}{k k':Bool}(I:Inv X pins σ H s)(q:Q (.bl k) H)(e:k=k'):EP X pins σ Q (.bool k') s:=by subst e;exact⟨.bl k,H,I,rfl,q⟩
theorem Kn:eN X (compareOp .Eq) QR:=by
 intro pins s σ H x y v u Q I rx ry h;obtain⟨hs,q⟩:=h;cases x with
 |bf=>
  cases rx;cases y with
  |bf=>cases ry;exact PySem.EqNone.eq_none_none (aU I q (by simp))
  |bl j=>cases ry;exact PySem.EqNone.eq_none_bool (aU I q (by simp))
  |int j=>obtain⟨t',rfl⟩:=ry;exact PySem.EqNone.eq_none_int (aU I q (by simp))
  |str j=>obtain⟨t',rfl⟩:=ry;exact PySem.EqNone.eq_none_str (aU I q (by simp))
  |_=>exact absurd (show false=true from hs) k8
 |bl i=>
  cases rx;cases y with
  |bf=>cases ry;exact PySem.EqNone.eq_bool_none (aU I q (by simp))
  |bl j=>cases ry;exact eq_bool (aU I q AA)
  |str j=>obtain⟨t',rfl⟩:=ry;exact PySem.EqMixed.eq_bool_str (aU I q (by simp))
  |_=>exact absurd (show false=true from hs) k8
 |int i=>
  obtain⟨t,rfl⟩:=rx;cases y with
  |bf=>cases ry;exact PySem.EqNone.eq_int_none (aU I q (by simp))
  |int j=>obtain⟨t',rfl⟩:=ry;exact eq_int (aU I q vc)
  |str j=>obtain⟨t',rfl⟩:=ry;exact PySem.EqMixed.eq_int_str (aU I q (by simp))
  |_=>exact absurd (show false=true from hs) k8
 |str i=>
  obtain⟨t,rfl⟩:=rx;cases y with
  |bf=>cases ry;exact PySem.EqNone.eq_str_none (aU I q (by simp))
  |bl j=>cases ry;exact PySem.EqMixed.eq_str_bool (aU I q (by simp))
  |int j=>obtain⟨t',rfl⟩:=ry;exact PySem.EqMixed.eq_str_int (aU I q (by simp))
  |str j=>obtain⟨t',rfl⟩:=ry;exact eq_str (aU I q vb)
  |_=>exact absurd (show false=true from hs) k8
 |AQ i=>
  obtain⟨t,rfl⟩:=rx;cases y with
  |AQ j=>obtain⟨t',rfl⟩:=ry;exact PySem.W.eq_bytes (aU I q vd)
  |_=>exact absurd (show false=true from hs) k8
 |_=>cases y <;> exact absurd (show false=true from hs) k8
theorem Kj:eN X (compareOp .NotEq) QN:=by
 intro pins s σ H x y v u Q I rx ry h;obtain⟨hs,q⟩:=h;cases x with
 |bf=>
  cases rx;cases y with
  |bf=>cases ry;exact PySem.EqNone.ne_none_none (aU I q (by simp))
  |bl j=>cases ry;exact PySem.EqNone.ne_none_bool (aU I q (by simp))
  |int j=>obtain⟨t',rfl⟩:=ry;exact PySem.EqNone.ne_none_int (aU I q (by simp))
  |str j=>obtain⟨t',rfl⟩:=ry;exact PySem.EqNone.ne_none_str (aU I q (by simp))
  |_=>exact absurd (show false=true from hs) k8
 |bl i=>
  cases rx;cases y with
  |bf=>cases ry;exact PySem.EqNone.ne_bool_none (aU I q (by simp))
  |bl j=>cases ry;exact ne_bool (aU I q (B6 not AA))
  |str j=>obtain⟨t',rfl⟩:=ry;exact PySem.EqMixed.ne_bool_str (aU I q (by simp))
  |_=>exact absurd (show false=true from hs) k8
 |int i=>
  obtain⟨t,rfl⟩:=rx;cases y with
  |bf=>cases ry;exact PySem.EqNone.ne_int_none (aU I q (by simp))
  |int j=>obtain⟨t',rfl⟩:=ry;exact ne_int (aU I q (B6 not vc))
  |str j=>obtain⟨t',rfl⟩:=ry;exact PySem.EqMixed.ne_int_str (aU I q (by simp))
  |_=>exact absurd (show false=true from hs) k8
 |str i=>
  obtain⟨t,rfl⟩:=rx;cases y with
  |bf=>cases ry;exact PySem.EqNone.ne_str_none (aU I q (by simp))
  |bl j=>cases ry;exact PySem.EqMixed.ne_str_bool (aU I q (by simp))
  |int j=>obtain⟨t',rfl⟩:=ry;exact PySem.EqMixed.ne_str_int (aU I q (by simp))
  |str j=>obtain⟨t',rfl⟩:=ry;exact ne_str (aU I q (B6 not vb))
  |_=>exact absurd (show false=true from hs) k8
 |AQ i=>
  obtain⟨t,rfl⟩:=rx;cases y with
  |AQ j=>obtain⟨t',rfl⟩:=ry;exact PySem.W.ne_bytes (aU I q (B6 not vd))
  |_=>exact absurd (show false=true from hs) k8
 |_=>cases y <;> exact absurd (show false=true from hs) k8
theorem Kk:eN X (compareOp .Lt) (Be λ i j=>.bl (decide (i < j))):=G7 λ _ _ _ _ _ _ _ q=>lt_int q
theorem Kl:eN X (compareOp .Gt) (Be λ i j=>.bl (decide (j < i))):=G7 λ _ _ _ _ _ _ _ q=>gt_int q
theorem Km:eN X (compareOp .GtE) (Be λ i j=>.bl (decide (j<=i))):=G7 λ _ _ _ _ _ _ _ q=>ge_int q
theorem wy:eN X (compareOp .In) (λ x y H Q=>∃i j,x=.str i/\y=.str j/\Q (.bl (!(Builtin.Str.occurrences j i 0 j.length 1).isEmpty)) H):=by intro pins s σ H x y v u Q I rx ry h;obtain⟨i,j,rfl,rfl,q⟩:=h;obtain⟨t,rfl⟩:=rx;obtain⟨t',rfl⟩:=ry;exact in_str (aU I q rfl)
theorem G1:eN X (compareOp .Is) (λ x y H Q=>y=.bf/\Q (.bl (decide (x=.bf))) H):=by
 intro pins s σ H x y v u Q I rx ry h;obtain⟨rfl,q⟩:=h;cases ry;refine is_none_gen (aU I q ?_);cases x <;> first
  |(cases rx;rfl)
  |(obtain⟨t,rfl⟩:=rx;rfl)
theorem eN.or {f:Value->Value->Sem Value}{r r':R2}(h:eN X f r)(h':eN X f r'):eN X f (λ x y H Q=>r x y H Q\/r' x y H Q):=by
 intro pins s σ H x y v u Q I rx ry q;rcases q with q|q
 ·exact h pins s σ H x y v u Q I rx ry q
 ·exact h' pins s σ H x y v u Q I rx ry q
theorem aH(b:Expr){op:CmpOp}(h:op≠.In:=by decide)(h2:op≠.NotIn:=by decide):behindInMarks op b=false:=by
 have e1:(op==CmpOp.In)=false:=by cases op <;> first|rfl|exact absurd rfl h
 have e2:(op==CmpOp.NotIn)=false:=by cases op <;> first|rfl|exact absurd rfl h2
 cases b <;> simp[behindInMarks,e1,e2]
theorem C8{op:CmpOp}{r:R2}(ho:eN X (compareOp op) r)(ha:PE X a ta)(hb:PE X b tb)(hm:behindInMarks op b=false):PE X (.Compare a [op] [b] pos) (Jy r ta tb):=by intro pins s σ H Q I h;exact wpAny_Compare1 (Iy ha hb I h λ v u s2 x y H2 I2 rx ry q=>ho pins s2 σ H2 x y v u Q I2 rx ry q) hm
def Jw(t:TE):TT:=λ σ H Q=>t σ H λ x H'=>∃k,x=.bl k/\Q k H'
theorem CU{op:CmpOp}{r:R2}(ho:eN X (compareOp op) r)(ha:PE X a ta)(hb:PE X b tb)(hm:behindInMarks op b=false):PT X (.Compare a [op] [b] pos) (Jw (Jy r ta tb)):=by
 intro pins s σ H Q I h;refine wpAny_isTrue_Compare1 (cG (ha pins s σ H _ I h) λ v s1 ⟨x,H1,I1,r1,q1⟩=>cG (hb pins s1 σ H1 _ I1 q1) λ u s2 ⟨y,H2,I2,r2,q2⟩=>
  cG (ho pins s2 σ H2 x y v u _ I2 r1 r2 q2) λ c s3 ⟨z,H3,I3,r3,k,e,q3⟩=>?_) hm
 subst e;cases r3;exact wpAny_truthy_bool ⟨H3,I3,q3⟩
theorem jd:(sizeLine:Nat) < 2^63:=by rw[A7];decide
theorem sI:eN X (binaryOp .Add) (λ x y H Q=>∃i j,x=.str i/\y=.str j/\i.length+j.length<=sizeLine/\Q (.str (i++j)) H):=by intro pins s σ H x y v u Q I rx ry h;obtain⟨i,j,rfl,rfl,hz,q⟩:=h;obtain⟨t,rfl⟩:=rx;obtain⟨t',rfl⟩:=ry;exact add_str (λ t' tk=>⟨.str (i++j),H,I.tok _,⟨_,rfl⟩,q⟩) hz
theorem vals1{x:V}{us:List Value}(r:Vals [x] us):∃u,us=[u]/\RelV x u:=by
 cases r with
 |cons r1 r2=>cases r2;exact⟨_,rfl,r1⟩
theorem vals2{x y:V}{us:List Value}(r:Vals [x,y] us):∃u w',us=[u,w']/\RelV x u/\RelV y w':=by
 cases r with
 |cons r1 r2=>
  cases r2 with
  |cons r3 r4=>cases r4;exact⟨_,_,rfl,r1,r3⟩
theorem xj(hc:X.calm=true):cQ X (.builtin "max") (λ xs H Q=>∃i j,xs=[.int i,.int j]/\Q (.int (if j > i then j else i)) H):=by
 intro pins s σ H xs us Q I r h;obtain⟨i,j,rfl,q⟩:=h;obtain⟨u,w',rfl,⟨t,rfl⟩,⟨t',rfl⟩⟩:=vals2 r;refine max_two_ints (I.ok.hd hc) λ h' tk k=>⟨_,H,I.kept k,?_,q⟩;by_cases hj:j > i
 ·rw[B8 hj,B8 hj];exact⟨_,rfl⟩
 ·rw[B9 hj,B9 hj];exact⟨_,rfl⟩
theorem xl:cQ X (.type "int") (λ xs H Q=>(∃i,xs=[.int i]/\Q (.int i) H)\/∃k,xs=[.bl k]/\Q (.int (if k then 1 else 0)) H):=by
 intro pins s σ H xs us Q I r h;rcases h with⟨i,rfl,q⟩|⟨k,rfl,q⟩
 ·obtain⟨u,rfl,t,rfl⟩:=vals1 r;exact call_int_int ⟨.int i,H,I,⟨_,rfl⟩,q⟩
 ·obtain⟨u,rfl,r1⟩:=vals1 r;cases r1;exact call_int_bool ⟨.int (if k then 1 else 0),H,I.tok _,⟨_,rfl⟩,q⟩
end
structure IF(h:Heap)(x dx C:Addr)(mA:Str->Option Value):Prop where
 obj:h.get? x=some (PySem.W.instObj C dx)
 ns:h.Ns1 dx mA
 ne:dx≠x
set_option tactic.hygienic true in
theorem wK{h:Heap}{dx:Addr}{mA:Str->Option Value}(n:h.Ns1 dx mA):∃od,h.get? dx=some od/\∀name,PySem.W.lookIn name od=some (mA name):=by
 obtain⟨o,es,ep,ho,hd,hk,_,hm⟩:=n;refine⟨o,ho,λ name=>?_⟩;have e:=hm name;unfold nsFind findBy at e;rw[<- Array.find?_toList]at e;unfold PySem.W.lookIn;rw[hd];dsimp only;split
 ·rename_i y q;rw[q]at e;exact B6 some e
 ·rename_i q;rw[q]at e;have a:es.toList.any (·.refKey)=false:=by rw[List.any_eq_false];intro y hy;obtain⟨z,t,gC⟩:=hk y (Array.mem_toList_iff.mp hy);simp[DictEntry.refKey,gC]
  have a':¬es.toList.any (·.refKey)=true:=by rw[a];exact k8
  rw[B9 a'];exact B6 some e
theorem IF.look {h:Heap}{x dx C:Addr}{mA:Str->Option Value}(I:IF h x dx C mA):∃od,PySem.W.InstAt h x (PySem.W.instObj C dx) C (some od)/\∀name,PySem.W.lookIn name od=some (mA name):=
 let⟨od,ho,hl⟩:=wK I.ns
 ⟨od,⟨I.obj,rfl,rfl,ho⟩,hl⟩
theorem iM.some_of {v:V}{o:Option Value}(r:iM (some v) o):∃u,o=some u/\RelV v u:=by
 cases o with
 |none=>exact(show False from r).elim
 |some u=>exact⟨u,rfl,r⟩
section
variable {P:Program}{w:World}{H H':Hp}{h h':Heap}{a C dx:Addr}{fs Si:List (Str×V)}
theorem DB(aZ:fg P w H h)(e:H a=some (.ins C dx fs)):∃mA,IF h a dx C mA/\(∀f,iM (fs.lookup f) (mA f))/\PySem.Within mA (fs.map (·.1))/\fs.length<=1000/\H dx=some (.own a):=by obtain⟨d,z,ne,ob,mA,n,r,q⟩:=(show bp P w H h a (.ins C dx fs)from aZ a _ e);exact⟨mA,⟨ob,n,ne⟩,r,q,z,d⟩
end
structure O2(K:C0)(C:Addr):Prop where
 pg:PySem.W.plainGet K C Str.empty=true
 hd:PySem.W.hasDictIn K C=true
 po:PySem.W.plainOver K C=true
 sa:PySem.W.findIn K (.ref C) "__setattr__"=some (some (.builtin "object.__setattr__"))
theorem O2.get {K:C0}{C:Addr}(c:O2 K C)(f:Str):PySem.W.plainGet K C f=true:=c.pg
section
variable {X:Cx}{pins:List (Addr×Obj)}{σ:St}{H:Hp}{s:Shared}{A:Around}{E:Value->Shared->Prop}{Q:Value->Shared->Prop}{c:Value}{b:Bool}
inductive jR(K:C0)(H:Hp):V->Value->Prop where
 |bf:jR K H .bf (.type "NoneType")
 |bl (x:Bool):jR K H (.bl x) (.type "bool")
 |int (i:Int):jR K H (.int i) (.type "int")
 |str (x:Str):jR K H (.str x) (.type "str")
 |Jh (x:UInt64):jR K H (.Jh x) (.type "float")
 |lst {a:Addr} {xs:List V} (e:H a=some (.lst xs)):jR K H (.ref a) (.type "list")
 |cD {a:Addr} {o:Obj} {xs:List V} (e:H a=some (.cD o (.lst xs))):jR K H (.ref a) (.type "list")
 |tup {a:Addr} {xs:List V} (e:H a=some (.tup xs)):jR K H (.ref a) (.type "tuple")
 |dK {a:Addr} {kvs:List (Key×V)} (e:H a=some (.dK kvs)):jR K H (.ref a) (.type "dict")
 |dT {a:Addr} {kvs:List (List Key×V)} (e:H a=some (.dT kvs)):jR K H (.ref a) (.type "dict")
 |ins {a C dx:Addr} {fs:List (Str×V)} (e:H a=some (.ins C dx fs)) (cl:O2 K C) (ha:PySem.W.findIn K (.ref C) "__class__"=some (some (.builtin "object.__class__")))
   (hn:PySem.W.specialIn K (.builtin "object.__class__") "__get__"=some (some (.builtin "getset_descriptor.__get__"))) (Pm:PySem.W.takesIn K (.builtin "object.__class__")=some true)
   (hm:PySem.W.mroIn K C (.type "object")=some true):jR K H (.ref a) (.ref C)
theorem gs{x:V}{u t:Value}(I:Inv X pins σ H s)(rx:RelV x u)(ty:jR X.K H x t)(e:PySem.W.kitOne X.K t c=some b)(h:∀tk,Q (.bool b) {s with toks:=tk}):wpAny (model X.prog X.w) A (call (.builtin "isinstance") [u,c]) Q E s:=by
 cases ty with
 |bf=>cases(show u=Value.none from rx);exact w5 PySem.W.kitx_none I.mD True.intro e (λ z=>nomatch z) h
 |bl y=>cases(show u=Value.bool y from rx);exact w5 PySem.W.kitx_bool I.mD True.intro e (λ z=>nomatch z) h
 |int i=>obtain⟨t,q⟩:=(show ∃t,u=Value.int i t from rx);cases q;exact w5 PySem.W.kitx_int I.mD True.intro e (λ z=>nomatch z) h
 |str y=>obtain⟨t,q⟩:=(show ∃t,u=Value.str y t from rx);cases q;exact w5 PySem.W.kitx_str I.mD True.intro e (λ z=>nomatch z) h
 |Jh y=>obtain⟨t,q⟩:=(show ∃t,u=Value.float y t from rx);cases q;exact w5 PySem.W.kitx_float I.mD True.intro e (λ z=>nomatch z) h
 |@lst a xs ea=>cases(show u=Value.ref a from rx);obtain⟨_,_,n,_,h1⟩:=(show bp X.prog X.w H s.heap a (.lst xs)from I.aZ a _ ea);exact w5 PySem.W.kitx_list I.mD ⟨_,h1,rfl⟩ e (λ z=>nomatch z) h
 |@cD a ob xs ea=>cases(show u=Value.ref a from rx);obtain⟨_,_,_,n,_,h1⟩:=(show bp X.prog X.w H s.heap a (.cD ob (.lst xs))from I.aZ a _ ea);exact w5 PySem.W.kitx_list I.mD ⟨_,h1,rfl⟩ e (λ z=>nomatch z) h
 |@tup a xs ea=>cases(show u=Value.ref a from rx);obtain⟨_,_,_,p⟩:=(show bp X.prog X.w H s.heap a (.tup xs)from I.aZ a _ ea);obtain⟨o,h1,h2,_⟩:=p;exact w5 PySem.W.kitx_tuple I.mD ⟨o,h1,h2⟩ e (λ z=>nomatch z) h
 |@dK a kvs ea=>cases(show u=Value.ref a from rx);obtain⟨_,_,vs,_,p⟩:=(show bp X.prog X.w H s.heap a (.dK kvs)from I.aZ a _ ea);obtain⟨o,es,ep,h1,h2,_⟩:=p;exact w5 PySem.W.kitx_dict I.mD ⟨o,h1,h2.1⟩ e (λ z=>nomatch z) h
 |@dT a kvs ea=>cases(show u=Value.ref a from rx);obtain⟨_,_,xs,_,o,es,ep,h1,h2,_⟩:=(show bp X.prog X.w H s.heap a (.dT kvs)from I.aZ a _ ea);exact w5 PySem.W.kitx_dict I.mD ⟨o,h1,h2.1⟩ e (λ z=>nomatch z) h
 |@ins a C dx fs ea cl ha hn Pm hm=>cases(show u=Value.ref a from rx);obtain⟨mA,O,_⟩:=DB I.aZ ea;obtain⟨od,J,_⟩:=O.look;exact w5 (PySem.W.kitx_own (cl.get _) cl.hd ha hn Pm hm) I.mD J e (λ z=>nomatch z) h
end
structure cB(k:Nat)(A:Around):Prop where
 hd:A.handled=none
 dp:A.depth+2*k+5 < recursionLimit
 un:A.units+16*k+200 < cLine
theorem cB.mono {j k:Nat}{A:Around}(r:cB k A)(h:j<=k):cB j A:=⟨r.hd,by have:=r.dp;omega,by have:=r.un;omega⟩
theorem cB.deeper {k:Nat}{A:Around}(r:cB (k+1) A)(env:Env):cB k (A.deeper env):=
 ⟨r.hd,by have:=r.dp;show A.depth+1+2*k+5 < _;omega,by have:=r.un;show A.units+3+16*k+200 < _;omega⟩
theorem cB.depth {k:Nat}{A:Around}(r:cB k A):A.depth < recursionLimit:=by have:=r.dp;omega
theorem cB.units {k:Nat}{A:Around}(r:cB k A):A.units+64 < cLine:=by have:=r.un;omega
def Jz:TA:=λ _ H Q=>Q [] H
def Eg(ta:TE)(tr:TA):TA:=λ σ H Q=>ta σ H λ x H1=>tr σ H1 λ xs H2=>Q (x::xs) H2
section
variable {X:Cx}{e:Expr}{es:List Expr}{te:TE}{t:TA}{pos:Pos}
theorem oH:PA X [] Jz:=λ _ _ _ _ H Q I h=>Calls.spliced_nil ⟨[],H,I,.nil,h⟩
theorem kh(ha:PE X e te)(hr:PA X es t)(hs:starEach (e::es) X.env=(false,eval e X.env)::starEach es X.env:=by rfl):PA X (e::es) (Eg te t):=by intro pos pins s σ H Q I h;rw[hs];show wpAny _ _ (spliced ((false,eval e X.env)::backTo pos (starEach es X.env))) _ _ s;refine Calls.spliced_cons (cG (ha pins s σ H _ I h) λ u s1 ⟨x,H1,I1,r1,q1⟩=>?_);exact cG (hr pos pins s1 σ H1 _ I1 q1) λ us s2 ⟨xs,H2,I2,r2,q2⟩=>⟨x::xs,H2,I2,.cons r1 r2,q2⟩
def MF(t:TA):TE:=λ σ H Q=>t σ H λ xs H1=>xs.length<=sizeLine/\∀p,H1 p=none->Q (.ref p) (upd H1 p (.tup xs))
def MJ(t:TA):TE:=λ σ H Q=>t σ H λ xs H1=>xs.length<=sizeLine/\∀p,H1 p=none->Q (.ref p) (upd H1 p (.lst xs))
theorem GG{x1}(h:PA X es t):PE X (.Tuple es x1 pos) (MF t):=by intro pins s σ H Q I hq;refine wpAny_Tuple_spliced (cG (h pos pins s σ H _ I hq) λ us s1 ⟨xs,H1,I1,r,z,q⟩=>⟨by rw[<- r.length];exact z,?_⟩);have hf:H1 s1.heap.objs.size=none:=I1.aZ.fresh (A6 _);refine⟨.ref s1.heap.objs.size,upd H1 s1.heap.objs.size (.tup xs),I1.laid (t':=s1.toks) (λ b u e=>i5 _ e) (A6 _) ?_,rfl,q _ hf⟩;exact⟨z,us,r,⟨_,k4 _ rfl,rfl,_,rfl⟩⟩
theorem GK(h:PA X es t):PE X (.List es pos) (MJ t):=by intro pins s σ H Q I hq;refine wpAny_List_spliced (cG (h pos pins s σ H _ I hq) λ us s1 ⟨xs,H1,I1,r,z,q⟩=>⟨by rw[<- r.length];exact z,?_⟩);have hf:H1 s1.heap.objs.size=none:=I1.aZ.fresh (A6 _);refine⟨.ref s1.heap.objs.size,upd H1 s1.heap.objs.size (.lst xs),I1.laid (t':=s1.toks) (λ b u e=>i5 _ e) (A6 _) ?_,rfl,q _ hf⟩;exact⟨z,us,0,r,k4 _ rfl⟩
end
abbrev Sp:=List V->Hp->VK->XK->Prop
abbrev Bo:=List Env->Hp->Shared->XK->Value->Shared->Prop
structure mi(P:Program)(w:World)(K:C0)(mg:Str->Option Value)(base:Heap)(A:Around)(outer:List Env)(s:Shared)(H:Hp):Prop where
 frames:A.frames=some outer
 mod:Mod K mg base
 bs:∀b o,base.get? b=some o->s.heap.get? b=some o/\H b=none
 xo:base.objs.size<=s.heap.objs.size
 gR:s.heap.FunFrames base outer
 DK:∀b∈pT outer,H b=none
 aZ:fg P w H s.heap
 bare:AllBare s.gens
def CE(outer:List Env)(P:Program)(w:World)(H:Hp)(s:Shared)(Q:VK)(u:Value)(s':Shared):Prop:=
 ∃v H',s'.os=s.os/\AllBare s'.gens/\Un (pT outer) [] H H' s.heap s'.heap/\fg P w H' s'.heap/\RelV v u/\Q v H'
def CR(CX:Bo)(outer:List Env)(P:Program)(w:World)(H:Hp)(s:Shared)(Q:VK)(E:XK)(r:Result)(s':Shared):Prop:=
 match r with
 | .ok (.ret u)=>CE outer P w H s Q u s'
 | .ok _=>False
 | .error e=>CX outer H s E e s'
structure cu(P:Program)(w:World)(K:C0)(mg:Str->Option Value)(base:Heap)(CX:Bo)(k:Nat)(f:Addr)(fd:FuncData)(ps:List Str)(sp:Sp):Prop where
 len:∀vs H Q E,sp vs H Q E->vs.length=ps.length
 run:∀(A:Around) (outer:List Env) (s:Shared) (H:Hp) (args:Args) (us:List Value) (vs:List V) (Q:VK) (E:XK),cB k A->mi P w K mg base A outer s H->BindsTo s fd args (ps.zip us)->Vals vs us->sp vs H Q E->
  codeAny (model P w) A (.call (.ref f) args) (CR CX outer P w H s Q E) s
section
variable {X:Cx}{pins:List (Addr×Obj)}{σ:St}{H:Hp}{s s':Shared}
theorem Inv.Ii (I:Inv X pins σ H s):mi X.prog X.w X.K X.mg X.base X.A X.stack s H:=
 ⟨I.ok.frames,I.ok.mod,I.bs,A2 I.ok.xo I.sz,I.stack,I.oq,I.aZ,I.bare⟩
theorem Inv.after {Q:VK}{u:Value}(I:Inv X pins σ H s)(h:CE X.stack X.prog X.w H s Q u s'):EP X pins σ Q u s':=by obtain⟨v,H',os,bare,un,aZ,r,q⟩:=h;obtain⟨hh,g,d,t,QY⟩:=s';obtain rfl:QY=s.os:=os;exact⟨v,H',I.call (h':=hh) (g':=g) (d':=d) (t':=t) (ch:=[]) un aZ bare (λ b z=>absurd z (by simp)),r,q⟩
end
def Eh(sp:Sp)(pU:List V)(E:XK)(t:TA):TE:=λ σ H Q=>t σ H λ vs H1=>sp (vs++pU) H1 Q E
def Binds(K:C0)(fd:FuncData)(ps:List Str)(ds:List Value):Prop:=
 ∀(s:Shared) (us:List Value),K.In s.heap->(us++ds).length=ps.length->BindsTo s fd ⟨us,[]⟩ (ps.zip (us++ds))
theorem Binds.all {K:C0}{fd:FuncData}{ps:List Str}(h:∀us:List Value,us.length=ps.length->bindArgs fd ⟨us,[]⟩=pure (ps.zip us)):Binds K fd ps []:=λ s us _ hl=>by rw[q9]at hl ⊢;exact .of_eq (h us hl)
def Passes(CX:Bo)(X:Cx)(E:XK):Prop:=∀(pins:List (Addr×Obj)) (σ:St) (H:Hp) (s:Shared) (e:Value) (s':Shared),Inv X pins σ H s->CX X.stack H s E e s'->X.xe e s'
section
variable {X:Cx}{CX:Bo}{k:Nat}{f C:Addr}{fd:FuncData}{ps:List Str}{sp:Sp}{pU:List V}{ds:List Value}{E:XK}{x m:Str}{p pos apos:Pos}{e o:Expr}{es:List Expr}{ta:TE}{t:TA}
theorem Fq{pins:List (Addr×Obj)}{σ:St}{H:Hp}{s:Shared}{Q:VK}{us:List Value}{vs:List V}(F:cu X.prog X.w X.K X.mg X.base CX k f fd ps sp)(hr:cB k X.A)(hb:Binds X.K fd ps ds)(hd:Vals pU ds)(hx:Passes CX X E) (I:Inv X pins σ H s) (r:Vals vs us) (h:sp (vs++pU) H Q E):wpAny (model X.prog X.w) X.A (call (.ref f) us) (EP X pins σ Q) X.xe s:=by
 have r2:Vals (vs++pU) (us++ds):=r.append hd;have hl:(us++ds).length=ps.length:=by rw[<- r2.length];exact F.len _ _ _ _ h
 refine wpAny_call (codeAny_mono (F.run X.A X.stack s H ⟨us,[]⟩ (us++ds) (vs++pU) Q E hr I.Ii (hb s us I.mD hl) r2 h) λ r s' hq=>?_);cases r with
 |error e=>exact hx pins σ H s e s' I hq
 |ok fl=>
  cases fl with
  |ret u=>exact I.after hq
  |next=>exact False.elim hq
  |brk=>exact False.elim hq
  |cont=>exact False.elim hq
theorem C9(F:cu X.prog X.w X.K X.mg X.base CX k f fd ps sp)(hr:cB k X.A)(hg:Gl X x)(hm:X.mg x=some (.ref f))(hk:PySem.W.keepIn X.K (.ref f)=true)(hb:Binds X.K fd ps ds)(hd:Vals pU ds)(hx:Passes CX X E) (ha:PA X (e::es) t) (hdb:(x==("__debug__":Str))=false:=by decide) (he:starEach (e::es) X.env=(false,eval e X.env)::starEach es X.env:=by rfl) (hpl:(backTo pos (starEach es X.env)).any (·.1)=false:=by rfl):PE X (.Call (.Name x p) (e::es) [] pos) (Eh sp pU E t):=by intro pins s σ H Q I h;refine l9 (uN I hg hm ?_ hdb);refine PySem.W.callWith_K (h₀:=X.base) I.ok.mod.KA hk (cG (ha pos pins s σ H _ I h) λ us s1 ⟨vs,H1,I1,r,q⟩=>⟨I1.mD,?_⟩) he hpl;exact Fq F hr hb hd hx I1 r q
end
structure aR(N P:List Str)(sc:Scope):Prop where
 kind:sc.kind=.function
 co:sc.isCoroutine=false
 gen:sc.isGenerator=false
 nd:N.Nodup
 pre:N.take P.length=P
 par:∀x∈P,sc.names.lookup x=some .local\/sc.names.lookup x=some .cell
 He:∀y∈sc.names,y.2≠.free
theorem nR{kindOf:Str->Option NameKind}{x:Str}:∀{binds:List (Str×Value)} {m:Str->Option Value},(∀v,(x,v)∉binds)->bindL kindOf binds m x=m x
 |[],_,_=>rfl
 |(n,v)::r,m,h=>by
  unfold bindL;rw[nR λ w hw=>h w (j3 _ hw)];split
  ·have:x≠n:=by rintro rfl;exact h v k7
   simp[this]
  ·rfl
theorem nU{kindOf:Str->Option NameKind}{x:Str}:∀{binds:List (Str×Value)} {m:Str->Option Value},(∀v,(x,v)∉binds)->bindC kindOf binds m x=m x
 |[],_,_=>rfl
 |(n,v)::r,m,h=>by
  unfold bindC;rw[nU λ w hw=>h w (j3 _ hw)];split
  ·rfl
  ·have:x≠n:=by rintro rfl;exact h v k7
   simp[this]
theorem nT{kindOf:Str->Option NameKind}{x:Str}{v:Value}:∀{P:List Str} {vs:List Value} {i:Nat} {m:Str->Option Value},P.Nodup->P[i]?=some x->vs[i]?=some v->kindOf x=some .local->
  bindL kindOf (P.zip vs) m x=some v
 |[],_,_,_,_,h,_,_=>by simp at h
 |_::_,[],_,_,_,_,h,_=>by simp at h
 |p::P,w::vs,0,m,nd,h1,h2,hk=>by simp at h1 h2;subst h1;subst h2;show bindL kindOf ((p,w)::P.zip vs) m p=_;unfold bindL;rw[nR λ v hv=>(nodup_cons.mp nd).1 (of_mem_zip hv).1,B8 hk];simp
 |p::P,w::vs,i+1,m,nd,h1,h2,hk=>by show bindL kindOf ((p,w)::P.zip vs) m x=_;unfold bindL;exact nT (i:=i) (nodup_cons.mp nd).2 (by simpa using h1) (by simpa using h2) hk
theorem nV{kindOf:Str->Option NameKind}{x:Str}{v:Value}:∀{P:List Str} {vs:List Value} {i:Nat} {m:Str->Option Value},P.Nodup->P[i]?=some x->vs[i]?=some v->kindOf x≠some .local->
  bindC kindOf (P.zip vs) m x=some v
 |[],_,_,_,_,h,_,_=>by simp at h
 |_::_,[],_,_,_,_,h,_=>by simp at h
 |p::P,w::vs,0,m,nd,h1,h2,hk=>by simp at h1 h2;subst h1;subst h2;show bindC kindOf ((p,w)::P.zip vs) m p=_;unfold bindC;rw[nU λ v hv=>(nodup_cons.mp nd).1 (of_mem_zip hv).1,B9 hk];simp
 |p::P,w::vs,i+1,m,nd,h1,h2,hk=>by show bindC kindOf ((p,w)::P.zip vs) m x=_;unfold bindC;exact nV (i:=i) (nodup_cons.mp nd).2 (by simpa using h1) (by simpa using h2) hk
def start(N:List Str)(vs:List V):St:=vs.map some++List.replicate (N.length - vs.length) none
def mJ(CX:Bo)(P:Program)(w:World)(K:C0)(mg:Str->Option Value)(base:Heap)(N:List Str)(qual:Str)(scope:Scope)(f:Addr)(cd:Value)(A:Around)(outer:List Env)(s:Shared)(H:Hp)(E:XK):Cx where
 prog:=P
 w:=w
 K:=K
 mg:=mg
 base:=base
 A:=A.deeper (envOfC qual scope s.heap.objs.size f cd)
 N:=N
 s₀:=s
 H₀:=H
 env:=envOfC qual scope s.heap.objs.size f cd
 outer:=outer
 stack:=envOfC qual scope s.heap.objs.size f cd::outer
 ex:=[]
 calm:=true
 fn:=λ _=>true
 pn:=[]
 xe:=λ e s'=>wpAny (model P w) (A.deeper (envOfC qual scope s.heap.objs.size f cd)) (leaving (envOfC qual scope s.heap.objs.size f cd) e) (λ _ MZ=>CX outer H s E e MZ) (λ e' MZ=>CX outer H s E e' MZ) s'
theorem rq{sc:Scope}{n:Nat}{x:Str}(h:sc.names.lookup x=some .cell):∃c,(cellsFrom n sc.names []).lookup x=some c:=by have q:=PySem.W.cellsFrom_some sc.names n [] (.inl h);exact Option.isSome_iff_exists.mp q
theorem wV{CX:Bo}{P:Program}{w:World}{K:C0}{mg:Str->Option Value}{base:Heap}{N ps:List Str}{qual:Str}{scope:Scope}{f:Addr}{cd:Value}{A:Around}{outer:List Env}{s s1:Shared}{H:Hp}{E:XK}{us:List Value}{vs:List V} (S:aR N ps scope) (hd:A.handled=none) (e0:mi P w K mg base A outer s H) (hl:vs.length=ps.length) (r:Vals vs us) (x:InCallC s s.heap.objs.size (bindL (envOfC qual scope s.heap.objs.size f cd).kindOf (ps.zip us) λ _=>none) (cellsFrom (s.heap.objs.size+1) scope.names []) (bindC (envOfC qual scope s.heap.objs.size f cd).kindOf (ps.zip us) λ _=>none) s1):Inv (mJ CX P w K mg base N qual scope f cd A outer s H E) [] (start N vs) H s1:=by
 have hpl:ps.length<=N.length:=by have:=B6 List.length S.pre;rw[length_take]at this;omega
 obtain⟨h1,tk,rfl,hk⟩:=x.done;have zw:∀b:Addr,b∉(mJ CX P w K mg base N qual scope f cd A outer s H E).ex:=λ b z=>absurd (show b∈([]:List Addr)from z) (by simp);refine⟨⟨e0.mod,S.kind,rfl,rfl,A6 _,λ y z c h1 h2=>?_,λ y hy=>?_,λ y c _ h=>?_,λ _=>hd,Around.frames_deeper e0.frames,.inr ⟨rfl,rfl⟩,λ b z=>absurd z (zw b),e0.bs,e0.xo,λ b _ _=>zw b,λ b z=>absurd z (zw b),e0.gR,e0.DK⟩,
  rfl,e0.bare,Un.kept hk,⟨_,x.toInCall.ns,λ i y v h1 h2 h3=>?_⟩,λ y c h=>⟨_,x.cell y c h⟩,e0.aZ.fresh (A6 _),λ y c h=>?_,λ p hp=>absurd (show p∈([]:List (Addr×Obj))from hp) (by simp),e0.aZ.kept hk,?_⟩
 ·exact name_of_addr x.apart (j7 h1) (j7 h2)
 ·have hy:scope.names.lookup y=some .cell\/scope.names.lookup y=some .free:=hy;rcases hy with hy|hy
  ·exact rq hy
  ·exact absurd rfl (S.He _ (j7 hy))
 ·exact A5 (x.above y c (j7 h))
 ·have hi:i < vs.length:=by
   unfold start at h2;by_cases hi:i < vs.length
   ·exact hi
   ·rw[a9 (by simpa using hi)]at h2;rw[i0]at h2;split at h2 <;> cases h2
  have ha:vs[i]?=some v:=by
   unfold start at h2;rw[c4 (by simpa using hi),m8]at h2;cases e:vs[i]? with
   |none=>rw[e]at h2;cases h2
   |some a=>rw[e]at h2;cases h2;rfl
  obtain⟨u,hu,rv⟩:=r.get ha;have hp:ps[i]?=some y:=by rw[<- S.pre,getElem?_take_of_lt (by omega)];exact h1
  have Pb:ps.Nodup:=by rw[<- S.pre];exact S.nd.sublist (take_sublist _ _)
  refine⟨u,rv,?_⟩;rcases S.par y (j4 hp)with k|k
  ·exact .inl ⟨k,nT Pb hp hu k⟩
  ·obtain⟨c,e⟩:=rq (n:=s.heap.objs.size+1) k;refine .inr ⟨.inl k,c,e,?_⟩;have q:=x.cell y c e;rw[nV Pb hp hu (by show scope.names.lookup y≠_;rw[k];decide)]at q;exact q
 ·exact e0.aZ.fresh (A5 (x.above y c (j7 h)))
 ·unfold start;show _=N.length;rw[k9,w6,j2];omega
theorem EC{CX:Bo}{P:Program}{w:World}{K:C0}{mg:Str->Option Value}{base:Heap}{k:Nat}{f:Addr}{name qual:Str}{params:Arguments}{body:List Stmt}{scope:Scope}{dV kV doc pm dD ct oc:Value}{an od:Option Addr} {sG:Array (Option Value)} {N ps:List Str} {sp:Sp} (lk:K.lookup f=some ⟨oc,od,.func (PySem.W.fnOf name qual params body scope dV kV doc pm an dD ct),sG⟩) (hcd:PySem.W.codeIn K dD qual=true) (S:aR N ps scope) (len:∀vs H Q E,sp vs H Q E->vs.length=ps.length) (dw:∀(A:Around) (outer:List Env) (s:Shared) (H:Hp) (vs:List V) (Q:VK) (E:XK),cB k (A.deeper (envOfC qual scope s.heap.objs.size f dD))->sp vs H Q E->
   ∃t,rJ (mJ CX P w K mg base N qual scope f dD A outer s H E) body t/\t {nx:=λ _ H'=>Q .bf H',rt:=Q} (start N vs) H):
  cu P w K mg base CX (k+1) f (PySem.W.fnOf name qual params body scope dV kV doc pm an dD ct) ps sp:=by
 refine⟨len,λ A outer s H args us vs Q E hr e0 hb r wX=>?_⟩;have hl:=len _ _ _ _ wX;have KX:K.In s.heap:=e0.mod.KA.keeps λ b o e=>(e0.bs b o e).1;have lim:s.heap.NoLimit:=e0.mod.nolimit.keeps λ b o e=>(e0.bs b o e).1;have K0:∀y∈ps.zip us,scope.names.lookup y.1=some .local\/(scope.names.lookup y.1=some .cell/\((cellsFrom (s.heap.objs.size+1) scope.names []).lookup y.1).isSome=true):=λ⟨n,v⟩ hy=>by
  rcases S.par n (of_mem_zip hy).1 with q|q
  ·exact .inl q
  ·exact .inr ⟨q,PySem.W.cellsFrom_some _ _ _ (.inl q)⟩
 refine codeAny_call_function hr.depth (KX _ _ lk) rfl S.co S.gen rfl (PySem.W.codeRec_of KX hcd) (hb _ _ _ _ ?_);refine wpAny_newFunctionEnv_cells S.kind K0 λ env he s1 x=>?_;subst he;refine⟨lim.keeps x.toInCall.keep,codeAny_func ?_⟩;obtain⟨t,ht,hq⟩:=dw A outer s H vs Q E (hr.deeper _) wX;have I:Inv (mJ CX P w K mg base N qual scope f dD A outer s H E) [] (start N vs) H s1:=wV S hr.hd e0 hl r x;refine B4 (ht [] s1 (start N vs) H _ I hq) (λ fl s' hs=>?_) λ e s' hs=>hs;have fin:∀{σ':St} {H':Hp} {v:V} {u:Value},Inv (mJ CX P w K mg base N qual scope f dD A outer s H E) [] σ' H' s'->RelV v u->Q v H'->CE outer P w H s Q u s':=
  λ{σ' H' v u} J rv q=>⟨v,H',J.os,J.bare,J.base,J.aZ,rv,q⟩
 cases fl with
 |ret u=>obtain⟨v,σ',H',J,rv,q⟩:=hs;exact fin J rv q
 |next=>obtain⟨σ',H',J,q⟩:=hs;exact fin (v:=V.bf) (u:=Value.none) J rfl q
 |brk=>obtain⟨_,_,_,q⟩:=hs;exact False.elim q
 |cont=>obtain⟨_,_,_,q⟩:=hs;exact False.elim q
section
variable {X:Cx}{x:Str}{p pos:Pos}{e:Expr}{es:List Expr}{t:TA}{id T:String}{r:List V->Hp->VK->Prop}
def LQ(r:List V->Hp->VK->Prop)(t:TA):TE:=λ σ H Q=>t σ H λ vs H1=>r vs H1 Q
theorem qD(hc:cQ X (.builtin id) r)(hg:Gl X x)(hm:X.mg x=none)(hv:bootBuiltins x=some (.builtin id))(ha:PA X (e::es) t)(hn:x≠"__name__":=by decide)(hdb:(x==("__debug__":Str))=false:=by decide) (he:starEach (e::es) X.env=(false,eval e X.env)::starEach es X.env:=by rfl) (hpl:(backTo pos (starEach es X.env)).any (·.1)=false:=by rfl):PE X (.Call (.Name x p) (e::es) [] pos) (LQ r t):=by intro pins s σ H Q I h;refine l9 (fT I hg hm hv ?_ hn hdb);exact PyProof.Rows.callWith_builtin1 (cG (ha pos pins s σ H _ I h) λ us s1 ⟨vs,H1,I1,r1,q1⟩=>hc pins s1 σ H1 vs us Q I1 r1 q1) he hpl
theorem gn(hc:cQ X (.type T) r)(hg:Gl X x)(hm:X.mg x=none)(hv:bootBuiltins x=some (.type T))(ha:PA X (e::es) t)(hn:x≠"__name__":=by decide)(hdb:(x==("__debug__":Str))=false:=by decide) (he:starEach (e::es) X.env=(false,eval e X.env)::starEach es X.env:=by rfl) (hpl:(backTo pos (starEach es X.env)).any (·.1)=false:=by rfl):PE X (.Call (.Name x p) (e::es) [] pos) (LQ r t):=by intro pins s σ H Q I h;refine l9 (fT I hg hm hv ?_ hn hdb);exact a7 (cG (ha pos pins s σ H _ I h) λ us s1 ⟨vs,H1,I1,r1,q1⟩=>hc pins s1 σ H1 vs us Q I1 r1 q1) he hpl
end
end L2
namespace HT
open PySem PyProof.Rows
section
variable {prog:Program}{w:World}{A:Around}{E:Value->Shared->Prop}{s:Shared}
theorem D3{t b:Addr}{vs ws:List Value}{Q:Value->Shared->Prop}(ht:IsTup s.heap t vs.toArray)(hb:IsTup s.heap b ws.toArray)(hv:vs≠[]) (h1:ws=[]->Q (.ref t) s) (h2:ws≠[]->Q (.ref s.heap.objs.size) {s with heap:=s.heap.push {cls:=.type "tuple",data:=.seq (vs++ws).toArray}}) (hsz:vs.length+ws.length<=sizeLine):wpAny (model prog w) A (binaryOp .Add (.ref t) (.ref b)) Q E s:=by
 obtain⟨⟨cls,dd,data,sl⟩,ho,hc,n,hd⟩:=id ht;obtain⟨⟨SM,Qf,data2,O6⟩,Mf,PH,n2,hd2⟩:=id hb;simp only at hc hd PH hd2;subst hc hd PH hd2;have e:vs.toArray++ws.toArray=(vs++ws).toArray:=by simp
 by_cases hw:ws=[]
 ·exact concat_meets ⟨_,ho,rfl⟩ ⟨_,Mf,rfl⟩ noFill_tuple_add seq_tuple_add PySem.F.slot_tuple_add PySem.F.entry_tuple_add (PySem.F.args_tuple_add_2 _ _)
   (tuple_addW1 t b vs.toArray ws.toArray n n2 dd Qf sl O6 (by simpa using hv) (by simp[hw])) ⟨ho,Mf,h1 hw⟩
 ·refine concat_meets ⟨_,ho,rfl⟩ ⟨_,Mf,rfl⟩ noFill_tuple_add seq_tuple_add PySem.F.slot_tuple_add PySem.F.entry_tuple_add (PySem.F.args_tuple_add_2 _ _)
   (tuple_addW2 t b vs.toArray ws.toArray n n2 dd Qf sl O6 (by simpa using hv) (by simpa using hw) (by rw[o7,o7];exact hsz)) ⟨ho,Mf,?_⟩
  rw[e];exact h2 hw
def bZ(n d:Nat):Option Int->Nat
 |none=>d
 |some v=>if v < 0 then(v+(n:Int)).toNat else min v.toNat n
theorem sk(n d:Nat)(hd:d<=n)(o:Option Int):bZ n d o<=n:=by
 cases o with
 |none=>exact hd
 |some v=>
  show(if v < 0 then(v+(n:Int)).toNat else min v.toNat n)<=n;by_cases hv:v < 0
  ·rw[B8 hv];omega
  ·rw[B9 hv];exact Nat.min_le_right _ _
theorem vA(v:Int)(n d:Nat):(if v < 0 then max (v+(n:Int)) 0 else min v (n:Int))=((bZ n d (some v):Nat):Int):=by
 show(if v < 0 then max (v+(n:Int)) 0 else min v (n:Int))=(((if v < 0 then(v+(n:Int)).toNat else min v.toNat n):Nat):Int);by_cases hv:v < 0
 ·simp only[B8 hv];omega
 ·simp only[B9 hv];omega
theorem tQ(lo hi:Option Int)(n:Nat):Builtin.Slice.sliceAdjust lo hi 1 (n:Int)=(((bZ n 0 lo:Nat):Int),((bZ n n hi:Nat):Int)):=by
 have h1:¬((1:Int) < 0):=by omega
 unfold Builtin.Slice.sliceAdjust;simp only[h1,B5];refine Prod.ext ?_ ?_
 ·cases lo with
  |none=>rfl
  |some v=>exact vA v n 0
 ·cases hi with
  |none=>rfl
  |some v=>exact vA v n n
theorem sF(i j:Nat):Builtin.Slice.slicePlaces (i:Int) (j:Int) 1=j - i:=by
 unfold Builtin.Slice.slicePlaces;have h1:(1:Int) > 0:=by omega
 simp only[h1,if_true,Int.ediv_one];split <;> omega
theorem lp{v:Value}{o:Option Int}{Q:Option Int->Shared->Prop}(p:IsPart v o)(h:Q o s):wpAny (model prog w) A (Builtin.Slice.slicePartIndex v) Q E s:=by
 cases p with
 |none=>exact slicePart_none h
 |int i t=>exact slicePart_int h
theorem eI{sl:Addr}{vl vu:Value}{lo hi:Option Int}{n:Nat}{Q:Int×Int×Nat->Shared->Prop}(hs:s.heap.IsSliceOf sl vl vu .none)(pl:IsPart vl lo)(pu:IsPart vu hi) (h:Q (((bZ n 0 lo:Nat):Int),1,bZ n n hi - bZ n 0 lo) s):wpAny (model prog w) A (Builtin.Slice.sliceApplied (.ref sl) (pure (n:Int))) Q E s:=by obtain⟨os,HL,Aj,Ag⟩:=id hs;unfold Builtin.Slice.sliceApplied Builtin.Slice.sliceFields;refine B0 (B0 (A9 HL Ag (x:=vl) rfl (B0 (A9 HL Ag (x:=vu) rfl (B0 (A9 HL Ag (x:=.none) rfl (B1 ?_)))))));refine B0 (slicePart_none ?_);show wpAny _ _ (if((1:Int)==0)=true then _ else _) _ _ s;rw[B9 (by decide)];refine B0 (lp pl (B0 (lp pu (B0 (B1 ?_)))));show wpAny _ _ (match Builtin.Slice.sliceAdjust lo hi 1 (n:Int)with|(lo,hi)=>pure (lo,(1:Int),Builtin.Slice.slicePlaces lo hi 1)) _ _ s;rw[tQ lo hi n];show wpAny _ _ (pure (((bZ n 0 lo:Nat):Int),(1:Int),Builtin.Slice.slicePlaces ((bZ n 0 lo:Nat):Int) ((bZ n n hi:Nat):Int) 1)) _ _ s;rw[sF];exact B1 h
theorem yU(xs:Array Value)(i k:Nat):((List.range k).filterMap λ(m:Nat)=>xs[((i:Int)+(m:Int)*1).toNat]?).toArray=((xs.toList.drop i).take k).toArray:=by
 have e:(λ(m:Nat)=>xs[((i:Int)+(m:Int)*1).toNat]?)=λ m=>xs[i+m]?:=by
  funext m;have:((i:Int)+(m:Int)*1).toNat=i+m:=by omega
  rw[this]
 rw[e];have:=pick_run xs i k;rw[filterMap_map]at this;have e2:((λ x=>xs[x]?)∘λ x=>i+x)=λ m=>xs[i+m]?:=rfl;rw[e2]at this;rw[this]
theorem iF{t sl:Addr}{items:Array Value}{vl vu:Value}{lo hi:Option Int}{Q:Value->Shared->Prop}(ht:IsTup s.heap t items)(hs:s.heap.IsSliceOf sl vl vu .none)(pl:IsPart vl lo)(pu:IsPart vu hi) (hw:¬(bZ items.size 0 lo=0/\bZ items.size items.size hi=items.size)) (h:Q (.ref s.heap.objs.size) {s with heap:=s.heap.push {cls:=.type "tuple",data:=.seq ((items.toList.drop (bZ items.size 0 lo)).take (bZ items.size items.size hi - bZ items.size 0 lo)).toArray}}) (hsz:items.size<=sizeLine):wpAny (model prog w) A (getItem (.ref t) (.ref sl)) Q E s:=by
 have uU:sizeOk (.seq ((items.toList.drop (bZ items.size 0 lo)).take (bZ items.size items.size hi - bZ items.size 0 lo)).toArray):=by show((items.toList.drop (bZ items.size 0 lo)).take (bZ items.size items.size hi - bZ items.size 0 lo)).toArray.size<=sizeLine;rw[o7,length_take,length_drop,j9];omega
 have hj:bZ items.size items.size hi<=items.size:=sk _ _ (A6 _) hi;obtain⟨os,HL,Aj,Ag⟩:=id hs;have Oo:s.TypeIs (.ref sl) "slice":=⟨os,HL,Aj⟩;unfold getItem
 try with_reducible refine y3 ?_
 first|refine B0 (B1 ?_)|skip
 refine B0 (wpAny_sequenceKey ht.typeIs (by decide) ?_);refine B0 (i3 (name:=Str.ofString "__getitem__") ht.typeIs a0
  (p6 a0 ht.typeIs entry_tuple_getitem ?_ (args_tuple_getitem _ _)))
 show wpAny _ _ (Builtin.Tuple.tupleItemsOf (.ref t) >>= _) _ _ s;refine B0 (tupleItemsOf_ ht ?_);refine B0 (wpAny_typeOf Oo ?_);rw[B8 (by decide)];refine B0 (eI hs pl pu ?_);have I_:¬((((bZ items.size 0 lo:Nat):Int)==0&&(1:Int)==1&&(bZ items.size items.size hi - bZ items.size 0 lo)==items.size)=true):=by intro q;rw[p7,p7]at q;have q1:((bZ items.size 0 lo:Nat):Int)=0:=eq_of_beq q.1.1;have q2:bZ items.size items.size hi - bZ items.size 0 lo=items.size:=eq_of_beq q.2;exact hw ⟨by omega,by omega⟩
 show wpAny _ _ (if(((bZ items.size 0 lo:Nat):Int)==0&&(1:Int)==1&&(bZ items.size items.size hi - bZ items.size 0 lo)==items.size)=true then _ else _) _ _ s;rw[B9 I_,yU]
 first
  |exact B0 (m:=Builtin.Tuple.tupleExact _) (n5 (B1 ⟨_,rfl,B1 h⟩) uU)
  |exact B0 (m:=Builtin.Tuple.tupleExact _) (n5 (B0 (B1 (B1 ⟨_,rfl,B1 h⟩))) uU)
  |exact B0 (B0 (m:=Builtin.Tuple.tupleExact _) (n5 (B1 (B1 ⟨_,rfl,B1 h⟩)) uU))
  |exact B0 (B0 (m:=Builtin.Tuple.tupleExact _) (n5 (B1 ⟨_,rfl,B1 h⟩) uU))
end
end HT
namespace L2
open PySem PySem.Spec PyProof.Rows
abbrev TO:=St->Hp->(Option Int->Hp->Prop)->Prop
def PO(X:Cx)(e:Option Expr)(t:TO):Prop:=
 ∀(pins:List (Addr×Obj)) (s:Shared) (σ:St) (H:Hp) (Q:Option Int->Hp->Prop),Inv X pins σ H s->t σ H Q->
  wpAny (model X.prog X.w) X.A (evalPart e X.env) (λ u s'=>∃o H',Inv X pins σ H' s'/\IsPart u o/\Q o H') X.xe s
def BE:TO:=λ _ H Q=>Q none H
def Jx(t:TE):TO:=λ σ H Q=>t σ H λ x H1=>∃i,x=.int i/\Q (some i) H1
section
variable {X:Cx}{e:Expr}{te:TE}{lo hi:Option Expr}{tl th:TO}{pos p2:Pos}
theorem C1:PO X none BE:=by intro pins s σ H Q I h;rw[evalPart_none];exact B1 ⟨none,H,I,.none,h⟩
theorem CZ(h:PE X e te):PO X (some e) (Jx te):=by intro pins s σ H Q I hw;rw[evalPart_some];refine cG (h pins s σ H _ I hw) λ u s1 ⟨x,H1,I1,r1,q1⟩=>?_;obtain⟨i,rfl,q⟩:=q1;obtain⟨t,rfl⟩:=r1;exact⟨some i,H1,I1,.int i t,q⟩
def vG(X:Cx)(r:V->Option Int->Option Int->Hp->VK->Prop):Prop:=
 ∀(pins:List (Addr×Obj)) (s:Shared) (σ:St) (H:Hp) (x:V) (v vl vu:Value) (lo hi:Option Int) (sl:Addr) (Q:VK),Inv X pins σ H s->RelV x v->s.heap.IsSliceOf sl vl vu .none->IsPart vl lo->IsPart vu hi->r x lo hi H Q->
  ∃T id,typeLookup (.type T) "__getitem__"=pure (some (.builtin id))/\s.TypeIs v T/\wpAny (model X.prog X.w) X.A (getItem v (.ref sl)) (EP X pins σ Q) X.xe s
theorem vG.or {r r':V->Option Int->Option Int->Hp->VK->Prop}(h:vG X r)(h':vG X r'):vG X (λ x lo hi H Q=>r x lo hi H Q\/r' x lo hi H Q):=by
 intro pins s σ H x v vl vu lo hi sl Q I rx hs pl pu q;rcases q with q|q
 ·exact h pins s σ H x v vl vu lo hi sl Q I rx hs pl pu q
 ·exact h' pins s σ H x v vl vu lo hi sl Q I rx hs pl pu q
def Qx(r:V->Option Int->Option Int->Hp->VK->Prop)(te:TE)(tl th:TO):TE:=λ σ H Q=>te σ H λ x H1=>tl σ H1 λ l H2=>th σ H2 λ u H3=>r x l u H3 Q
theorem yY{r:V->Option Int->Option Int->Hp->VK->Prop}(hr:vG X r)(he:PE X e te)(hl:PO X lo tl)(hu:PO X hi th):PE X (.Subscript e (.Slice lo hi none p2) pos) (Qx r te tl th):=by intro pins s σ H Q I h;refine Subscript_ (cG (he pins s σ H _ I h) λ v s1 ⟨x,H1,I1,r1,q1⟩=>?_);refine wpAny_Slice (cG (hl pins s1 σ H1 _ I1 q1) λ vl s2 ⟨l,H2,I2,pl,q2⟩=>cG (hu pins s2 σ H2 _ I2 q2) λ vu s3 ⟨u,H3,I3,pu,q3⟩=>?_);rw[evalPart_none];refine B1 ?_;have I4:Inv X pins σ H3 {s3 with heap:=s3.heap.push {cls:=.type "slice",data:=.fields #[vl,vu,.none]}}:=I3.kept (t':=s3.toks) λ b ob q=>i5 _ q;obtain⟨T,id,hT,ht,hg⟩:=hr pins {s3 with heap:=s3.heap.push {cls:=.type "slice",data:=.fields #[vl,vu,.none]}} σ H3 x v vl vu l u s3.heap.objs.size Q I4 r1 (Heap.IsSliceOf.new ..) pl pu q3;show wpAny (model X.prog X.w) X.A (subscriptTail e (.Slice lo hi none p2) v (.ref s3.heap.objs.size)) (EP X pins σ Q) X.xe {s3 with heap:=s3.heap.push {cls:=.type "slice",data:=.fields #[vl,vu,.none]}};exact tail_any (ops:=[.ref s3.heap.objs.size,v]) ht hT hg (by with_unfolding_all rfl)
def rn(xs:List V)(lo hi:Option Int):List V:=(xs.drop (HT.bZ xs.length 0 lo)).take (HT.bZ xs.length xs.length hi - HT.bZ xs.length 0 lo)
theorem jF(xs:List V)(lo hi:Option Int):(rn xs lo hi).length<=xs.length:=by unfold rn;rw[length_take,length_drop];omega
def JQ(K:C0):V->Option Int->Option Int->Hp->VK->Prop:=λ x lo hi H Q=>∃a xs,x=.ref a/\fz K H a xs/\
 ¬(HT.bZ xs.length 0 lo=0/\HT.bZ xs.length xs.length hi=xs.length)/\∀p,H p=none->Q (.ref p) (upd H p (.tup (rn xs lo hi)))
theorem Fc:vG X (JQ X.K):=by
 intro pins s σ H x v vl vu lo hi sl Q I rx hs pl pu h;obtain⟨a,xs,rfl,hx,hw,q⟩:=h;cases rx;obtain⟨aw,r,ht,hz⟩:=I.tuple hx;have hlen:aw.toArray.size=xs.length:=by rw[o7];exact r.length.symm
 refine⟨"tuple",_,a0.lookup,ht.typeIs,?_⟩;refine HT.iF ht hs pl pu (by rw[hlen];exact hw) ?_ (by rw[hlen];exact hz);rw[hlen];refine⟨.ref s.heap.objs.size,_,I.laid (t':=s.toks) (o:=.tup (rn xs lo hi)) (λ b ob q=>i5 _ q) (A6 _) ?_,rfl,q _ (I.aZ.fresh (A6 _))⟩;exact⟨A2 (jF xs lo hi) hz,_,(r.drop (HT.bZ xs.length 0 lo)).take (HT.bZ xs.length xs.length hi - HT.bZ xs.length 0 lo),IsTup.new _ _⟩
def JZ(K:C0):R2:=λ x y H Q=>∃a b xs ys,x=.ref a/\y=.ref b/\fz K H a xs/\fz K H b ys/\xs≠[]/\xs.length+ys.length<=sizeLine/\
 (ys=[]->Q (.ref a) H)/\(ys≠[]->∀p,H p=none->Q (.ref p) (upd H p (.tup (xs++ys))))
theorem Vals.oJ {xs:List V}{us:List Value}(r:Vals xs us):us=[]↔xs=[]:=by
 cases r with
 |nil=>simp
 |cons _ _=>simp
theorem De:eN X (binaryOp .Add) (JZ X.K):=by intro pins s σ H x y v u Q I rx ry h;obtain⟨a,b,xs,ys,rfl,rfl,ha,hb,hx,hz,q1,q2⟩:=h;cases rx;cases ry;obtain⟨aw,r1,p1,_⟩:=I.tuple ha;obtain⟨qM,r2,p2,_⟩:=I.tuple hb;refine HT.D3 p1 p2 (λ z=>hx (r1.oJ.mp z)) (λ z=>⟨.ref a,H,I,rfl,q1 (r2.oJ.mp z)⟩) (λ z=>?_) (by rw[<- r1.length,<- r2.length];exact hz);refine⟨.ref s.heap.objs.size,_,I.laid (t':=s.toks) (o:=.tup (xs++ys)) (λ b ob q=>i5 _ q) (A6 _) ?_,rfl,q2 (λ w=>z (r2.oJ.mpr w)) _ (I.aZ.fresh (A6 _))⟩;exact⟨by rw[k9];exact hz,_,r1.append r2,IsTup.new _ _⟩
end
def sQ(n:Nat)(i:Int):Option Nat:=if 0<=i then(if i < n then some i.toNat else none)else if -(n:Int)<=i then some (i+n).toNat else none
def gE{α:Type}(xs:List α)(i:Int):Option α:=(sQ xs.length i).bind λ j=>xs[j]?
theorem uQ{n:Nat}{i:Int}{j:Nat}(h:sQ n i=some j):seqIndex? i n=some j/\j < n/\-(n:Int)<=i/\i < n:=by
 unfold sQ at h;by_cases h0:0<=i
 ·rw[B8 h0]at h;by_cases h1:i < n
  ·rw[B8 h1]at h;have e:i.toNat=j:=u6 h;exact⟨by rw[seqIndex_of h0 h1,e],by omega,by omega,h1⟩
  ·rw[B9 h1]at h;cases h
 ·rw[B9 h0]at h;by_cases h1: -(n:Int)<=i
  ·rw[B8 h1]at h;have e:(i+n).toNat=j:=u6 h;exact⟨by rw[seqIndex_neg (by omega) h1,e],by omega,h1,by omega⟩
  ·rw[B9 h1]at h;cases h
theorem pH{α:Type}{xs:List α}{i:Int}{v:α}(h:gE xs i=some v):∃j,seqIndex? i xs.length=some j/\xs[j]?=some v/\j < xs.length/\-(xs.length:Int)<=i/\i < xs.length:=by
 unfold gE at h;cases e:sQ xs.length i with
 |none=>rw[e]at h;cases h
 |some j=>rw[e]at h;obtain⟨h1,h2,h3,h4⟩:=uQ e;exact⟨j,h1,h,h2,h3,h4⟩
theorem bY{α:Type}{xs:List α}{j:Nat}{v:α}(h:xs[j]?=some v):gE xs (j:Int)=some v:=by
 have hj:j < xs.length:=(c6.mp h).1;have e:sQ xs.length (j:Int)=some j:=by unfold sQ;rw[B8 (by omega),B8 (by omega)];simp
 unfold gE;rw[e];exact h
def pK(b:Expr):Prop:=∀o i,subscripted b false o i=operate [o,i] (getItem o i)
def tR(X:Cx)(r:R2):Prop:=
 ∀(value slice:Expr) (pins:List (Addr×Obj)) (s:Shared) (σ:St) (H:Hp) (x y:V) (v u:Value) (Q:VK),Inv X pins σ H s->RelV x v->RelV y u->r x y H Q->
  subscripted slice false v u=operate [v,u] (getItem v u)->wpAny (model X.prog X.w) X.A (subscriptTail value slice v u) (EP X pins σ Q) X.xe s
def Mv(X:Cx)(id:String)(r:V->List V->Hp->VK->Prop):Prop:=
 ∀(pins:List (Addr×Obj)) (s:Shared) (σ:St) (H:Hp) (x:V) (xs:List V) (v:Value) (us:List Value) (Q:VK),Inv X pins σ H s->RelV x v->Vals xs us->r x xs H Q->
  wpAny (model X.prog X.w) X.A (call (.builtin id) (v::us)) (EP X pins σ Q) X.xe s
section
variable {X:Cx}{a b:Expr}{ta tb:TE}{pos:Pos}
theorem tR.or {r r':R2}(h:tR X r)(h':tR X r'):tR X (λ x y H Q=>r x y H Q\/r' x y H Q):=by
 intro value slice pins s σ H x y v u Q I rx ry q hs;rcases q with q|q
 ·exact h value slice pins s σ H x y v u Q I rx ry q hs
 ·exact h' value slice pins s σ H x y v u Q I rx ry q hs
theorem Kg{r:R2}(hr:tR X r)(ha:PE X a ta)(hb:PE X b tb)(hs:pK b):PE X (.Subscript a b pos) (Jy r ta tb):=by intro pins s σ H Q I h;exact Subscript_ (Iy ha hb I h λ v u s2 x y H2 I2 rx ry q=>hr a b pins s2 σ H2 x y v u Q I2 rx ry q (hs _ _))
def JW(K:C0):R2:=λ x y H Q=>∃p xs i v,x=.ref p/\y=.int i/\eA K H p xs/\gE xs i=some v/\Q v H
def JU(K:C0):R2:=λ x y H Q=>∃p xs i v,x=.ref p/\y=.int i/\fz K H p xs/\gE xs i=some v/\Q v H
def JV:R2:=λ x y H Q=>∃z i c,x=.str z/\y=.int i/\z.length<=sizeLine/\gE z.cps.toList i=some c/\Q (.str ⟨#[c]⟩) H
theorem Dx:tR X (JW X.K):=by
 intro value slice pins s σ H x y v u Q I rx ry h hs;obtain⟨p,xs,i,z,rfl,rfl,hq,he,q⟩:=h;cases rx;obtain⟨t,rfl⟩:=ry;obtain⟨aw,r,pl,hz⟩:=I.list hq;obtain⟨j,h1,h2,h3,h4,h5⟩:=pH he;obtain⟨w,ew,gN⟩:=r.get h2;have hl:=r.length;have hn:=jd;have fin:EP X pins σ Q w s:=⟨z,H,I,gN,q⟩;by_cases h0:0<=i
 ·have hj:i.toNat=j:=by rw[seqIndex_of h0 h5]at h1;exact u6 h1
  exact item_listR pl.isList h0 (by omega) (by rw[hj];simpa using ew) fin hs
 ·have hj:(i+(aw.toArray.size:Int)).toNat=j:=by rw[seqIndex_neg (by omega) h4]at h1;rw[o7,<- hl];exact u6 h1
  exact subscriptTail_builtinR (x:=w) pl.isList.typeIs slot_list_getitem.lookup
   (wpAny_getItem_list_neg (Q:=λ r s'=>r=w/\EP X pins σ Q r s') pl.isList (by omega) (by rw[o7] <;> omega) (by omega) (by rw[hj];simpa using ew) ⟨rfl,fin⟩) hs
theorem Hy:tR X (JU X.K):=by
 intro value slice pins s σ H x y v u Q I rx ry h hs;obtain⟨p,xs,i,z,rfl,rfl,hq,he,q⟩:=h;cases rx;obtain⟨t,rfl⟩:=ry;obtain⟨aw,r,pl,hz⟩:=I.tuple hq;obtain⟨j,h1,h2,h3,h4,h5⟩:=pH he;obtain⟨w,ew,gN⟩:=r.get h2;have hl:=r.length;have hn:=jd;have fin:EP X pins σ Q w s:=⟨z,H,I,gN,q⟩;exact subscriptTail_builtinR (x:=w) pl.typeIs slot_tuple_getitem.lookup
  (getItem_tuple (j:=j) (Q:=λ r s'=>r=w/\EP X pins σ Q r s') pl (by omega) (by omega) (by rw[o7,<- hl];exact h1) (by simpa using ew) ⟨rfl,fin⟩) hs
theorem Hz:tR X JV:=by
 intro value slice pins s σ H x y v u Q I rx ry h hs;obtain⟨z,i,c,rfl,rfl,hz,he,q⟩:=h;obtain⟨t,rfl⟩:=rx;obtain⟨t',rfl⟩:=ry;obtain⟨j,h1,h2,h3,h4,h5⟩:=pH he;have hl:z.cps.toList.length=z.length:=by simp[Str.length]
 rw[hl]at h1 h4 h5;have hn:=jd;exact tail_any (typeIs_str s z t) slot_str_getitem.lookup (getItem_str (c:=c) (by
  have e1:decide (i < -(2^63:Int))=false:=r9 (by omega);have e2:decide (i ≥ 2^63)=false:=r9 (by omega);rw[e1,e2,Bool.or_false]) (by rw[h1];simpa using h2) ⟨.str ⟨#[c]⟩,H,I.tok _,⟨_,rfl⟩,q⟩) hs
def QP(K:C0):R2:=λ x y H Q=>JW K x y H Q\/JU K x y H Q\/JV x y H Q
theorem HA:tR X (QP X.K):=Dx.or (Hy.or Hz)
theorem sM(aw:List Value)(n j:Nat)(u:Value):Obj.mapSeq (·.setIfInBounds j u) {cls:=.type "list",data:=.seq aw.toArray n}={cls:=.type "list",data:=.seq (aw.set j u).toArray n}:=by simp[Obj.mapSeq]
theorem Inv.lst {pins:List (Addr×Obj)}{σ:St}{H:Hp}{s:Shared}{p:Addr}{xs:List V}(I:Inv X pins σ H s)(h:H p=some (.lst xs)):∃(aw:List Value) (n:Nat),Vals xs aw/\s.heap.get? p=some {cls:=.type "list",data:=.seq aw.toArray n}/\xs.length<=sizeLine:=by obtain⟨z,aw,n,r,e⟩:=I.aZ p _ h;exact⟨aw,n,r,e,z⟩
theorem Inv.Hk {pins:List (Addr×Obj)}{σ:St}{H:Hp}{s:Shared}{p:Addr}{xs ys:List V}{aw its':List Value}{n n':Nat}{f:Obj->Obj}(I:Inv X pins σ H s)(h:H p=some (.lst xs)) (ho:s.heap.get? p=some {cls:=.type "list",data:=.seq aw.toArray n}) (hf:f {cls:=.type "list",data:=.seq aw.toArray n}={cls:=.type "list",data:=.seq its'.toArray n'}) (r:Vals ys its') (hz:ys.length<=sizeLine) (t:Nat):Inv X pins σ (upd H p (.lst ys)) {s with heap:=s.heap.update p f,toks:=t}:=by
 have e:(s.heap.update p f).get? p=some {cls:=.type "list",data:=.seq its'.toArray n'}:=by rw[i8 f ho (by rw[hf] <;> rfl),hf]
 refine I.write (x:=p) (e:=p) (by rw[h];trivial) (.inl rfl) (λ b u hb q=>(i6 _ _ (B7 hb)).trans q) ⟨_,e⟩ ?_;exact⟨hz,its',n',r,e⟩
def JS:V->V->V->Hp->(Hp->Prop)->Prop:=λ o i v H Q=>∃p xs k j,o=.ref p/\i=.int k/\H p=some (.lst xs)/\sQ xs.length k=some j/\Q (upd H p (.lst (xs.set j v)))
theorem set_list:pL X JS:=by
 intro pins s σ H o i v ov iv u Q I ro ri rv h;obtain⟨p,xs,k,j,rfl,rfl,hp,hj,q⟩:=h;cases ro;obtain⟨t,rfl⟩:=ri;obtain⟨aw,n,r,ho,hz⟩:=I.lst hp;obtain⟨h1,h2,h3,h4⟩:=uQ hj;have hl:=r.length;have hn:=jd;have I':Inv X pins σ (upd H p (.lst (xs.set j v))) {s with heap:=s.heap.update p (Obj.mapSeq (·.setIfInBounds j u))}:=
  I.Hk hp ho (sM aw n j u) (r.set rv j) (by rw[length_set];exact hz) s.toks
 by_cases h0:0<=k
 ·have hk:k.toNat=j:=by rw[seqIndex_of h0 h4]at h1;exact u6 h1
  exact PySem.W.ki_setAt ho h0 (by omega) (by rw[o7,<- hl];exact h4) (by rw[hk];exact⟨_,I',q⟩)
 ·have hk:(k+(aw.toArray.size:Int)).toNat=j:=by rw[seqIndex_neg (by omega) h3]at h1;rw[o7,<- hl];exact u6 h1
  exact PySem.W.ki_setBack ho (by omega) (by rw[o7,<- hl];exact h3) (by omega) (by rw[hk];exact⟨_,I',q⟩)
theorem ia(lo hi:Option Int)(n:Nat):(sliceBounds lo hi none n).1=((HT.bZ n 0 lo:Nat):Int)/\(sliceBounds lo hi none n).2.1=((HT.bZ n n hi:Nat):Int)/\(sliceBounds lo hi none n).2.2=1:=by
 refine⟨?_,?_,rfl⟩
 ·cases lo with
  |none=>simp[sliceBounds,HT.bZ]
  |some i=>
   simp only[sliceBounds,HT.bZ,Option.getD_none,show(1:Int) > 0 by decide,if_true];by_cases h:i < 0
   ·simp only[h,if_true] <;> omega
   ·simp only[h,B5] <;> omega
 ·cases hi with
  |none=>simp[sliceBounds,HT.bZ]
  |some i=>
   simp only[sliceBounds,HT.bZ,Option.getD_none,show(1:Int) > 0 by decide,if_true];by_cases h:i < 0
   ·simp only[h,if_true] <;> omega
   ·simp only[h,B5] <;> omega
theorem mz(aw:List Value)(lo hi:Option Int):slicePick aw.toArray lo hi none=((aw.drop (HT.bZ aw.length 0 lo)).take (HT.bZ aw.length aw.length hi - HT.bZ aw.length 0 lo)).toArray:=by obtain⟨h1,h2,h3⟩:=ia lo hi aw.toArray.size;unfold slicePick;rw[h1,h2,h3];simp only[sliceRange_one,pick_run,o7] <;> rfl
def JR(K:C0):V->Option Int->Option Int->Hp->VK->Prop:=λ x lo hi H Q=>∃a xs,x=.ref a/\eA K H a xs/\∀p,H p=none->Q (.ref p) (upd H p (.lst (rn xs lo hi)))
theorem BL:vG X (JR X.K):=by intro pins s σ H x v vl vu lo hi sl Q I rx hs pl pu h;obtain⟨a,xs,rfl,hx,q⟩:=h;cases rx;obtain⟨aw,r,ht,hz⟩:=I.list hx;have hlen:=r.length;refine⟨"list",_,slot_list_getitem.lookup,ht.isList.typeIs,?_⟩;refine wpAny_getItem_list_slice ht.isList hs pl pu .none (by simp) ?_ (by rw[o7] <;> omega);rw[mz,<- hlen];refine⟨.ref s.heap.objs.size,_,I.laid (t':=s.toks) (o:=.lst (rn xs lo hi)) (λ b ob q=>i5 _ q) (A6 _) ?_,rfl,q _ (I.aZ.fresh (A6 _))⟩;exact⟨A2 (jF xs lo hi) hz,_,0,(r.drop (HT.bZ xs.length 0 lo)).take (HT.bZ xs.length xs.length hi - HT.bZ xs.length 0 lo),k4 _ rfl⟩
def eZ:V->Bool
 | .bf=>true
 | .bl _=>true
 | .int _=>true
 | .str _=>true
 |_=>false
def EF:V->V->Bool
 | .bf,.bf=>true
 | .bl a,.bl b=>a==b
 | .bl a,.int b=>(if a then 1 else 0)==b
 | .int a,.bl b=>a==(if b then 1 else 0)
 | .int a,.int b=>a==b
 | .str a,.str b=>a==b
 |_,_=>false
theorem Ih{A:Around}{s:Shared}{y x:V}{u v:Value}(ry:RelV y u)(rx:RelV x v)(fy:eZ y=true)(fx:eZ x=true):SeqAt.EqAt A s u v (EF y x):=by
 cases y with
 |bf=>
  cases ry;cases x with
  |bf=>cases rx;exact SeqAt.EqAt.same _
  |bl b=>cases rx;exact SeqAt.EqAt.none_bool b
  |int b=>obtain⟨t,rfl⟩:=rx;exact SeqAt.EqAt.none_int b t
  |str b=>obtain⟨t,rfl⟩:=rx;exact SeqAt.EqAt.none_str b t
  |_=>exact absurd (show false=true from fx) k8
 |bl a=>
  cases ry;cases x with
  |bf=>cases rx;exact SeqAt.EqAt.bool_none a
  |bl b=>cases rx;exact SeqAt.EqAt.bool_bool a b
  |int b=>obtain⟨t,rfl⟩:=rx;exact SeqAt.EqAt.bool_int a b t
  |str b=>obtain⟨t,rfl⟩:=rx;exact SeqAt.EqAt.bool_str a b t
  |_=>exact absurd (show false=true from fx) k8
 |int a=>
  obtain⟨t',rfl⟩:=ry;cases x with
  |bf=>cases rx;exact SeqAt.EqAt.int_none a t'
  |bl b=>cases rx;exact SeqAt.EqAt.int_bool a t' b
  |int b=>obtain⟨t,rfl⟩:=rx;exact SeqAt.EqAt.int_int a t' b t
  |str b=>obtain⟨t,rfl⟩:=rx;exact SeqAt.EqAt.int_str a t' b t
  |_=>exact absurd (show false=true from fx) k8
 |str a=>
  obtain⟨t',rfl⟩:=ry;cases x with
  |bf=>cases rx;exact SeqAt.EqAt.str_none a t'
  |bl b=>cases rx;exact SeqAt.EqAt.str_bool a t' b
  |int b=>obtain⟨t,rfl⟩:=rx;exact SeqAt.EqAt.str_int a t' b t
  |str b=>obtain⟨t,rfl⟩:=rx;exact SeqAt.EqAt.str_str a t' b t
  |_=>exact absurd (show false=true from fx) k8
 |_=>exact absurd (show false=true from fy) k8
def DO(x:V)(u:Value):Bool:=match u with
 | .none=>EF .bf x
 | .bool b=>EF (.bl b) x
 | .int i _=>EF (.int i) x
 | .str z _=>EF (.str z) x
 |_=>false
theorem Av{x y:V}{u:Value}(r:RelV y u)(f:eZ y=true):DO x u=EF y x:=by
 cases y with
 |bf=>cases r;rfl
 |bl b=>cases r;rfl
 |int i=>obtain⟨t,rfl⟩:=r;rfl
 |str z=>obtain⟨t,rfl⟩:=r;rfl
 |_=>exact absurd (show false=true from f) k8
theorem pI{x:V}:∀{xs:List V} {us:List Value},Vals xs us->xs.all eZ=true->us.any (DO x)=xs.any λ y=>EF y x
 |_,_,.nil,_=>rfl
 |y::xs,u::us,.cons r t,f=>by rw[all_cons,p7]at f;rw[any_cons,any_cons,Av r f.1,pI t f.2]
theorem lJ{A:Around}{s:Shared}{x:V}{v:Value}(rx:RelV x v)(fx:eZ x=true):∀{xs:List V} {us:List Value},Vals xs us->xs.all eZ=true->∀u∈us,SeqAt.EqAt A s u v (DO x u)
 |_,_,.nil,_=>λ u hu=>by cases hu
 |y::xs,u::us,.cons r t,f=>λ u' hu=>by
  rw[all_cons,p7]at f;rcases y8.mp hu with rfl|hu
  ·rw[Av r f.1];exact Ih r rx f.1 fx
  ·exact lJ rx fx t f.2 u' hu
def KC(x:V)(xs:List V):Bool:=xs.any λ y=>EF y x
def QQ(K:C0)(neg:Bool):R2:=λ x y H Q=>∃p xs,y=.ref p/\(eA K H p xs\/fz K H p xs)/\eZ x=true/\xs.all eZ=true/\Q (.bl (if neg then !KC x xs else KC x xs)) H
theorem wz:eN X (compareOp .In) (QQ X.K false):=by
 intro pins s σ H x y v u Q I rx ry h;obtain⟨p,xs,rfl,hq,fx,fs,q⟩:=h;cases ry;rcases hq with hq|hq
 ·obtain⟨aw,r,pl,hz⟩:=I.list hq;refine SeqAt.in_listAt (DO x) pl.isList (λ w hw=>lJ rx fx r fs w (by simpa using hw)) ⟨.bl _,H,I,rfl,?_⟩;rw[show aw.toArray.any (DO x)=aw.any (DO x) by simp,pI r fs];exact q
 ·obtain⟨aw,r,pl,hz⟩:=I.tuple hq;refine SeqAt.in_tupleAt (DO x) pl (λ w hw=>lJ rx fx r fs w (by simpa using hw)) ⟨.bl _,H,I,rfl,?_⟩;rw[show aw.toArray.any (DO x)=aw.any (DO x) by simp,pI r fs];exact q
theorem oI:eN X (compareOp .NotIn) (λ x y H Q=>∃i j,x=.str i/\y=.str j/\Q (.bl (!(!(Builtin.Str.occurrences j i 0 j.length 1).isEmpty))) H):=by intro pins s σ H x y v u Q I rx ry h;obtain⟨i,j,rfl,rfl,q⟩:=h;obtain⟨t,rfl⟩:=rx;obtain⟨t',rfl⟩:=ry;exact notIn_str ⟨.bl _,H,I,rfl,q⟩
theorem pC:cQ X (.builtin "len") (λ xs H Q=>∃p ys,xs=[.ref p]/\(eA X.K H p ys\/fz X.K H p ys)/\Q (.int ys.length) H):=by
 intro pins s σ H xs us Q I r h;obtain⟨p,ys,rfl,hq,q⟩:=h;obtain⟨u,rfl,rx⟩:=vals1 r;cases rx;have hn:=jd;rcases hq with hq|hq
 ·obtain⟨aw,r',pl,hz⟩:=I.list hq;have hlen:=r'.length;exact Calls.call_len_list pl.isList (by simp only[o7] <;> omega) ⟨.int ys.length,H,I.tok _,⟨s.toks+1,by rw[o7,hlen]⟩,q⟩
 ·obtain⟨aw,r',pl,hz⟩:=I.tuple hq;have hlen:=r'.length;exact len_tuple pl (by simp only[o7] <;> omega) ⟨.int ys.length,H,I.tok _,⟨s.toks+1,by rw[o7,hlen]⟩,q⟩
theorem pB:cQ X (.builtin "len") (λ xs H Q=>∃z,xs=[.str z]/\z.length<=sizeLine/\Q (.int z.length) H):=by intro pins s σ H xs us Q I r h;obtain⟨z,rfl,hz,q⟩:=h;obtain⟨u,rfl,t,rfl⟩:=vals1 r;have hn:=jd;exact len_str (by omega) ⟨.int z.length,H,I.tok _,⟨_,rfl⟩,q⟩
theorem cQ.or {f:Value}{r r':List V->Hp->VK->Prop}(h:cQ X f r)(h':cQ X f r'):cQ X f (λ xs H Q=>r xs H Q\/r' xs H Q):=by
 intro pins s σ H xs us Q I rs q;rcases q with q|q
 ·exact h pins s σ H xs us Q I rs q
 ·exact h' pins s σ H xs us Q I rs q
theorem pA:cQ X (.type "list") (λ xs H Q=>∃p ys,xs=[.ref p]/\(eA X.K H p ys\/fz X.K H p ys)/\∀l,H l=none->Q (.ref l) (upd H l (.lst ys))):=by
 intro pins s σ H xs us Q I r h;obtain⟨p,ys,rfl,hq,q⟩:=h;obtain⟨u,rfl,rx⟩:=vals1 r;cases rx;have fin:∀(aw:List Value),Vals ys aw->ys.length<=sizeLine->∀(h':Heap) (c':Nat),(∀b o',s.heap.get? b=some o'->h'.get? b=some o')->
   h'.get? s.heap.objs.size=some {cls:=.type "list",dict:=none,data:=.seq aw.toArray c',slots:=#[]}->EP X pins σ Q (.ref s.heap.objs.size) {s with heap:=h'}:=λ aw r' hz h' c' kp e=>
  ⟨.ref s.heap.objs.size,_,I.laid (t':=s.toks) kp (A6 _) (show bp X.prog X.w _ h' _ (.lst ys)from⟨hz,aw,c',r',e⟩),rfl,q _ (I.aZ.fresh (A6 _))⟩
 rcases hq with hq|hq
 ·obtain⟨aw,r',pl,hz⟩:=I.list hq;have hlen:=r'.length;obtain⟨o,ho,hc,n,hd⟩:=pl.isList;exact call_list_seq p (.inl rfl) ho hc hd (λ h' c' kp e=>fin aw r' hz h' c' kp e) (by simp only[o7] <;> omega)
 ·obtain⟨aw,r',pl,hz⟩:=I.tuple hq;have hlen:=r'.length;obtain⟨o,ho,hc,n,hd⟩:=pl;exact call_list_seq p (.inr rfl) ho hc hd (λ h' c' kp e=>fin aw r' hz h' c' kp e) (by simp only[o7] <;> omega)
theorem mK:cQ X (.type "tuple") (λ xs H Q=>∃p ys,xs=[.ref p]/\((eA X.K H p ys/\∀l,H l=none->Q (.ref l) (upd H l (.tup ys)))\/(fz X.K H p ys/\Q (.ref p) H))):=by
 intro pins s σ H xs us Q I r h;obtain⟨p,ys,rfl,h⟩:=h;obtain⟨u,rfl,rx⟩:=vals1 r;cases rx;rcases h with⟨hq,q⟩|⟨hq,q⟩
 ·obtain⟨aw,r',pl,hz⟩:=I.list hq;have hlen:=r'.length;refine call_tuple_list pl.isList (λ h' kp=>?_) (by simp only[o7] <;> omega);have I1:Inv X pins σ H {s with heap:=h'}:=I.kept (t':=s.toks) kp;have I2:Inv X pins σ (upd H h'.objs.size (.tup ys)) {s with heap:=h'.push {cls:=.type "tuple",data:=.seq aw.toArray}}:=
   I1.laid (t':=s.toks) (λ b o e=>i5 _ e) (A6 _) (show bp X.prog X.w _ _ _ (.tup ys)from⟨hz,aw,r',IsTup.new _ _⟩)
  exact⟨.ref h'.objs.size,_,I2,rfl,q _ (I1.aZ.fresh (A6 _))⟩
 ·obtain⟨aw,r',pl,hz⟩:=I.tuple hq;exact call_tuple_same pl ⟨.ref p,H,I,rfl,q⟩
def LN(K:C0)(T:String)(x:V)(H:Hp):Prop:=match x with
 | .str _=>T="str"
 | .int _=>T="int"
 | .ref p=>(T="list"/\∃xs,eA K H p xs)\/(T="tuple"/\∃o,K.lookup p=some o/\o.cls=.type "tuple"/\o.dict=none)\/
   (T="dict"/\((∃kvs,H p=some (.dK kvs))\/∃kvs,H p=some (.dT kvs)))\/(T="set"/\∃S n,H p=some (.set S n))
 |_=>False
theorem xN{pins:List (Addr×Obj)}{σ:St}{H:Hp}{s:Shared}{T:String}{x:V}{v:Value}(I:Inv X pins σ H s)(r:RelV x v)(ty:LN X.K T x H):s.TypeIs v T/\∀a,v=.ref a->∃ob,s.heap.get? a=some ob/\ob.dict=none:=by
 cases x with
 |str z=>obtain⟨t,rfl⟩:=r;cases(show T="str" from ty);exact⟨typeIs_str s z t,λ _ e=>nomatch e⟩
 |int i=>obtain⟨t,rfl⟩:=r;cases(show T="int" from ty);exact⟨typeIs_int s i t,λ _ e=>nomatch e⟩
 |ref p=>
  cases r;rcases ty with⟨rfl,xs,hq⟩|⟨rfl,o,hk,hc,hd⟩|⟨rfl,hk⟩|⟨rfl,S,n,hk⟩
  ·obtain⟨aw,_,pl,_⟩:=I.list hq;refine⟨pl.isList.typeIs,λ a e=>?_⟩;cases e;obtain⟨o,n,e,c,hd,_⟩:=pl;exact⟨o,e,hd⟩
  ·refine⟨⟨o,I.mD p o hk,hc⟩,λ a e=>?_⟩;cases e;exact⟨o,I.mD _ o hk,hd⟩
  ·have z:∃o,s.heap.get? p=some o/\o.ExactDict:=by
    rcases hk with⟨kvs,hk⟩|⟨kvs,hk⟩
    ·obtain⟨_,_,_,_,o,_,_,e,ex,_⟩:=I.aZ p _ hk;exact⟨o,e,ex⟩
    ·obtain⟨_,_,_,_,o,_,_,e,ex,_⟩:=I.aZ p _ hk;exact⟨o,e,ex⟩
   obtain⟨o,e,ex⟩:=z;refine⟨⟨o,e,ex.1⟩,λ a e2=>?_⟩;cases e2;exact⟨o,e,ex.2.1⟩
  ·obtain⟨o,_,_,_,e,ex,_⟩:=I.aZ p _ hk;refine⟨⟨o,e,ex.1⟩,λ a e2=>?_⟩;cases e2;exact⟨o,e,ex.2.1⟩
 |_=>exact False.elim ty
def MN(K:C0)(T:String)(r:V->List V->Hp->VK->Prop)(to:TE):TE:=λ σ H Q=>to σ H λ x H1=>LN K T x H1/\r x [] H1 Q
def QD(K:C0)(T:String)(r:V->List V->Hp->VK->Prop)(to:TE)(t:TA):TE:=λ σ H Q=>to σ H λ x H1=>LN K T x H1/\t σ H1 λ xs H2=>r x xs H2 Q
variable {o e:Expr}{es:List Expr}{to:TE}{t:TA}{name:Str}{apos bQ:Pos}{T id:String}{r:V->List V->Hp->VK->Prop}
theorem GP(pa:PlainAttrs T)(slot:Slot T name id)(hty:typeOf (.builtin id)=pure (.type "method_descriptor"))(hm:Mv X id r)(ho:PE X o to) (hbase:attributeBase o name X.env (eval o X.env)=eval o X.env:=by rfl) (hline:(apos.endLine==bQ.line)=true:=by rfl):PE X (.Call (.Attribute o name apos) [] [] bQ) (MN X.K T r to):=by intro pins s σ H Q I h;refine wpAny_Call_method0_late hbase hline (cG (ho pins s σ H _ I h) λ v s1 ⟨x,H1,I1,r1,ty,q1⟩=>?_);obtain⟨h1,h2⟩:=xN I1 r1 ty;exact⟨T,id,pa,slot,hty,h1,h2,Calls.callWith_builtin rfl (PySem.evalArgs_none (hm pins s1 σ H1 x [] v [] Q I1 r1 .nil q1))⟩
theorem Ep(pa:PlainAttrs T)(slot:Slot T name id)(hty:typeOf (.builtin id)=pure (.type "method_descriptor"))(hm:Mv X id r)(ho:PE X o to)(ha:PA X (e::es) t) (hbase:attributeBase o name X.env (eval o X.env)=eval o X.env:=by rfl) (hfew:((backTo bQ (starEach (e::es) X.env)).all (λ x=>!x.1)&&(backToKw bQ (keywordEach [] X.env)).all (λ x=>x.1.isSome)
   &&decide ((e::es).length+([]:List Keyword).length+(if([]:List Keyword).isEmpty then 0 else 1) < 30))=true:=by rfl)
  (hline:(apos.endLine==bQ.line)=true:=by rfl) (hs:starEach (e::es) X.env=(false,eval e X.env)::starEach es X.env:=by rfl) (hplain:(backTo bQ (starEach es X.env)).any (·.1)=false:=by rfl):
  PE X (.Call (.Attribute o name apos) (e::es) [] bQ) (QD X.K T r to t):=by
 intro pins s σ H Q I h;refine wpAny_Call_method_late hbase hfew hline rfl (cG (ho pins s σ H _ I h) λ v s1 ⟨x,H1,I1,r1,ty,q1⟩=>?_);obtain⟨h1,h2⟩:=xN I1 r1 ty;refine⟨T,id,pa,slot,hty,h1,h2,?_⟩;have hA:=ha bQ pins s1 σ H1 _ I1 q1;rw[hs]at hA ⊢;refine Calls.callWith_builtin (by show(false||(backTo bQ (starEach es X.env)).any (·.1))=false;rw[hplain] <;> rfl) (Calls.evalArgs_plain ?_);exact cG hA λ us s2 ⟨vs,H2,I2,r2,q2⟩=>hm pins s2 σ H2 x vs v us Q I2 r1 r2 q2
end
def Bm(X:Cx)(id:String)(r:V->List V->Hp->VK->Prop):Prop:=
 ∀(pins:List (Addr×Obj)) (s:Shared) (σ:St) (H:Hp) (x:V) (xs:List V) (v:Value) (us:List Value) (Q:VK),Inv X pins σ H s->RelV x v->Vals xs us->r x xs H Q->
  wpAny (model X.prog X.w) X.A (call (.builtin id) (v::us)) (EP X pins σ Q) X.xe s
theorem Vals.one:∀{x:V} {us:List Value},Vals [x] us->∃u,us=[u]/\RelV x u
 |_,_,.cons r .nil=>⟨_,rfl,r⟩
theorem Vals.zero:∀{us:List Value},Vals [] us->us=[]
 |_,.nil=>rfl
theorem Vals.dropLast {xs:List V}{us:List Value}(h:Vals xs us):Vals xs.dropLast us.dropLast:=by
 induction h with
 |nil=>exact .nil
 |cons r t ih=>
  cases t with
  |nil=>exact .nil
  |cons q t'=>exact .cons r ih
theorem Vals.eraseIdx:∀{xs:List V} {us:List Value} (i:Nat),Vals xs us->Vals (xs.eraseIdx i) (us.eraseIdx i)
 |_,_,_,.nil=>.nil
 |_,_,0,.cons _ t=>t
 |_,_,i+1,.cons r t=>.cons r (Vals.eraseIdx i t)
theorem Vals.rep {xs:List V}{us:List Value}(h:Vals xs us):∀k:Nat,Vals (List.replicate k xs).flatten (List.replicate k us).flatten
 |0=>.nil
 |k+1=>by rw[j8,j8,n6,n6];exact Vals.append h (Vals.rep h k)
theorem sZ{α:Type}(l:List α):l.eraseIdx (l.length - 1)=l.dropLast:=by
 induction l with
 |nil=>rfl
 |cons a r ih=>
  cases r with
  |nil=>rfl
  |cons b r=>
   have e:(a::b::r).length - 1=((b::r).length - 1)+1:=by have h1:(a::b::r).length=r.length+2:=rfl;have h2:(b::r).length=r.length+1:=rfl;omega
   rw[e,eraseIdx_cons_succ,ih]
   all_goals rfl
theorem ny{α:Type}:∀(l:List α) (i:Nat),(l.eraseIdx i).length<=l.length
 |[],_=>A6 _
 |_::_,0=>Nat.le_succ _
 |_::r,i+1=>Nat.succ_le_succ (ny r i)
theorem foldl_rep(aw:List Value):∀(k:Nat) (acc:List Value),
  List.foldl (λ x1 x2=>x1++x2) acc.toArray (List.replicate k aw.toArray)=(acc++(List.replicate k aw).flatten).toArray
 |0,acc=>by simp
 |k+1,acc=>by
  have e:acc.toArray++aw.toArray=(acc++aw).toArray:=by simp
  have e2:(acc++aw)++(List.replicate k aw).flatten=acc++(List.replicate (k+1) aw).flatten:=by rw[j8,n6,append_assoc]
  rw[<- e2,<- foldl_rep aw k (acc++aw),<- e,j8,foldl_cons]
section
variable {X:Cx}{pins:List (Addr×Obj)}{σ:St}{H:Hp}{s:Shared}{l b:Addr}{xs ys zs:List V}
theorem Inv.zD {aw its':List Value}{n:Nat}{f:Array Value->Array Value}{t':Nat}(I:Inv X pins σ H s)(hH:H l=some (.lst xs)) (e:s.heap.get? l=some {cls:=.type "list",data:=.seq aw.toArray n}) (hf:f aw.toArray=its'.toArray) (hv:Vals ys its') (hz:ys.length<=sizeLine):Inv X pins σ (upd H l (.lst ys)) {s with heap:=s.heap.update l (Obj.mapSeq f),toks:=t'}:=by have q:=PySem.IsL.update e f;rw[hf]at q;refine I.write (x:=l) (e:=l) (by rw[hH];exact trivial) (.inl rfl) (λ b' u hb hu=>(i6 s.heap (Obj.mapSeq f) (B7 hb)).trans hu) ⟨_,q⟩ ?_;exact⟨hz,its',_,hv,q⟩
theorem Inv.Kz {aw:List Value}{t':Nat}(I:Inv X pins σ H s)(hv:Vals ys aw)(hz:ys.length<=sizeLine):Inv X pins σ (upd H s.heap.objs.size (.lst ys)) {s with heap:=s.heap.push {cls:=.type "list",data:=.seq aw.toArray},toks:=t'}:=
 I.laid (λ _ _ q=>i5 _ q) (A6 _) ⟨hz,aw,0,hv,k4 _ rfl⟩
theorem Inv.fresh (I:Inv X pins σ H s):H s.heap.objs.size=none:=I.aZ.fresh (A6 _)
theorem Inv.oM (I:Inv X pins σ H s)(hH:H l=some (.lst xs)):xs.length<=sizeLine/\∃(aw:List Value) (n:Nat),Vals xs aw/\xs.length=aw.length/\s.heap.get? l=some {cls:=.type "list",data:=.seq aw.toArray n}:=by obtain⟨z,aw,n,r,e⟩:=I.aZ l _ hH;exact⟨z,aw,n,r,r.length,e⟩
theorem qF{n:Nat}(h:n<=sizeLine):Builtin.List.listTooLong n=false:=by unfold Builtin.List.listTooLong;exact r9 (by omega)
end
section
variable {X:Cx}
def uB:V->List V->Hp->VK->Prop:=λ x vs H Q=>∃l xs y,x=.ref l/\vs=[y]/\H l=some (.lst xs)/\xs.length < sizeLine/\Q .bf (upd H l (.lst (xs++[y])))
theorem wI:Bm X "list.append" uB:=by intro pins s σ H x vs v us Q I rx rv h;obtain⟨l,xs,y,rfl,rfl,hH,hz,q⟩:=h;cases rx;obtain⟨u,rfl,ru⟩:=rv.one;obtain⟨z,aw,n,r,hl,e⟩:=I.oM hH;refine B3 F.slot_list_append ⟨_,e,rfl⟩ F.entry_list_append (F.args_list_append_2 _ _) (PySem.list_append l aw.toArray n u (by rw[o7];omega)) ⟨e,?_⟩;refine⟨.bf,_,I.zD (its':=aw++[u]) hH e (by simp) (r.append (.cons ru .nil)) ?_,rfl,q⟩;rw[k9,j0];omega
def uA:V->List V->Hp->VK->Prop:=λ x vs H Q=>∃l b xs zs,x=.ref l/\vs=[.ref b]/\H l=some (.lst xs)/\H b=some (.lst zs)/\xs.length+zs.length<=sizeLine/\Q .bf (upd H l (.lst (xs++zs)))
theorem wH:Bm X "list.extend" uA:=by
 intro pins s σ H x vs v us Q I rx rv h;obtain⟨l,b,xs,zs,rfl,rfl,hH,hB,hz,q⟩:=h;cases rx;obtain⟨u,rfl,ru⟩:=rv.one;cases ru;obtain⟨z,aw,n,r,hl,e⟩:=I.oM hH;obtain⟨z2,qM,n2,r2,N_,e2⟩:=I.oM hB;have hsz:aw.toArray.size+qM.toArray.size<=sizeLine:=by rw[o7,o7];omega
 have Ad:¬(!aw.toArray.isEmpty&&Builtin.List.listTooLong (aw.toArray.size+qM.toArray.size))=true:=by rw[qF hsz,Bool.and_false];exact k8
 refine B3 F.slot_list_extend ⟨_,e,rfl⟩ F.entry_list_extend (F.args_list_extend_2 _ _)
  (AutoSeq1.list_extend_list_list_0 l aw.toArray n b qM.toArray n2 Ad (by rw[o7];omega) (by omega)) ⟨e,e2,?_⟩
 refine⟨.bf,_,I.zD (its':=aw++qM) hH e (by simp) (r.append r2) ?_,rfl,q⟩;rw[k9];omega
def Ng:V->List V->Hp->VK->Prop:=λ x vs H Q=>∃l xs y,x=.ref l/\vs=[]/\H l=some (.lst xs)/\xs[xs.length - 1]?=some y/\Q y (upd H l (.lst xs.dropLast))
theorem Hj:Bm X "list.pop" Ng:=by
 intro pins s σ H x vs v us Q I rx rv h;obtain⟨l,xs,y,rfl,rfl,hH,hy,q⟩:=h;cases rx;have NU:=rv.zero;subst NU;obtain⟨z,aw,n,r,hl,e⟩:=I.oM hH;obtain⟨u,hu,ru⟩:=r.get hy;have wW:aw.toArray[aw.toArray.size - 1]?=some u:=by show aw.toArray[aw.length - 1]?=some u;rw[<- Array.getElem?_toList,<- hl];exact hu
 refine B3 F.slot_list_pop ⟨_,e,rfl⟩ F.entry_list_pop (F.args_list_pop_1 _) (MeetsSeq.list_pop_last l aw.toArray n u wW (by rw[o7];omega)) ⟨e,?_⟩;refine⟨y,_,I.zD (its':=aw.dropLast) hH e ?_ r.dropLast ?_,ru,q⟩
 ·show aw.toArray.eraseIdxIfInBounds (aw.toArray.size - 1)=aw.dropLast.toArray;rw[o7,eraseIdxIfInBounds_toArray,sZ]
 ·rw[length_dropLast];omega
def FU:V->List V->Hp->VK->Prop:=λ x vs H Q=>∃l xs i k y,x=.ref l/\vs=[.int i]/\H l=some (.lst xs)/\-(2^63)<=i/\i < 2^63/\seqIndex? i xs.length=some k/\xs[k]?=some y/\Q y (upd H l (.lst (xs.eraseIdx k)))
theorem zA:Bm X "list.pop" FU:=by
 intro pins s σ H x vs v us Q I rx rv h;obtain⟨l,xs,i,k,y,rfl,rfl,hH,h1,h2,hk,hy,q⟩:=h;cases rx;obtain⟨u,rfl,ru⟩:=rv.one;obtain⟨t,rfl⟩:=ru;obtain⟨z,aw,n,r,hl,e⟩:=I.oM hH;obtain⟨w,hw,gN⟩:=r.get hy;refine B3 F.slot_list_pop ⟨_,e,rfl⟩ F.entry_list_pop (F.args_list_pop_2 _ _)
  (MeetsSeq.list_pop_at l aw.toArray n i t k w (fitsIndex_both h1 h2) (by rw[o7,<- hl];exact hk) (by rw[<- Array.getElem?_toList];exact hw) (by rw[o7];omega)) ⟨e,?_⟩
 refine⟨y,_,I.zD (its':=aw.eraseIdx k) hH e ?_ (r.eraseIdx k) ?_,gN,q⟩
 ·show aw.toArray.eraseIdxIfInBounds k=(aw.eraseIdx k).toArray;rw[eraseIdxIfInBounds_toArray]
 ·have:=ny xs k;omega
def FV:V->List V->Hp->VK->Prop:=λ x vs H Q=>∃l xs,x=.ref l/\vs=[]/\H l=some (.lst xs)/\Q .bf (upd H l (.lst []))
theorem zB:Bm X "list.clear" FV:=by intro pins s σ H x vs v us Q I rx rv h;obtain⟨l,xs,rfl,rfl,hH,q⟩:=h;cases rx;have NU:=rv.zero;subst NU;obtain⟨z,aw,n,r,hl,e⟩:=I.oM hH;refine B3 F.slot_list_clear ⟨_,e,rfl⟩ F.entry_list_clear (F.args_list_clear_1 _) (AutoSeq1.list_clear_list_0 l aw.toArray n (by rw[o7];omega)) ⟨e,?_⟩;exact⟨.bf,_,I.zD (its':=[]) (ys:=[]) hH e rfl .nil (A8 _),rfl,q⟩
def Ni:R2:=λ x y H Q=>∃l b xs zs,x=.ref l/\y=.ref b/\H l=some (.lst xs)/\H b=some (.lst zs)/\xs.length+zs.length<=sizeLine/\∀p,H p=none->Q (.ref p) (upd H p (.lst (xs++zs)))
theorem G4:eN X (binaryOp .Add) Ni:=by
 intro pins s σ H x y v u Q I rx ry h;obtain⟨l,b,xs,zs,rfl,rfl,hH,hB,hz,q⟩:=h;cases rx;cases ry;obtain⟨z,aw,n,r,hl,e⟩:=I.oM hH;obtain⟨z2,qM,n2,r2,N_,e2⟩:=I.oM hB;refine PySem.P.add_list e e2 ?_ (by rw[o7,o7];omega);have ea:aw.toArray++qM.toArray=(aw++qM).toArray:=by simp
 rw[ea];exact⟨.ref _,_,I.Kz (t':=s.toks) (r.append r2) (by rw[k9];omega),rfl,q _ I.fresh⟩
def Nf:R2:=λ x y H Q=>∃l k xs,x=.ref l/\y=.int k/\H l=some (.lst xs)/\-(2^63)<=k/\k < 2^63/\xs.length*k.toNat<=sizeLine/\
 ∀p,H p=none->Q (.ref p) (upd H p (.lst (List.replicate k.toNat xs).flatten))
theorem len_rep{α:Type}(xs:List α)(k:Nat):(List.replicate k xs).flatten.length=k*xs.length:=by
 induction k with
 |zero=>simp
 |succ k ih=>rw[j8,n6,k9,ih,Nat.succ_mul,Nat.add_comm]
theorem GW:eN X (binaryOp .Mult) Nf:=by
 intro pins s σ H x y v u Q I rx ry h;obtain⟨l,k,xs,rfl,rfl,hH,h1,h2,hz,q⟩:=h;cases rx;obtain⟨t,rfl⟩:=ry;obtain⟨z,aw,n,r,hl,e⟩:=I.oM hH;have hlen:aw.toArray.size*k.toNat<=sizeLine:=by rw[o7,<- hl];exact hz
 have Ol:¬aw.toArray.size*k.toNat > (2^63 - 1) / 8:=by
  have:(sizeLine:Nat)<=(2^63 - 1) / 8:=by decide
  omega
 have K2:¬(!Builtin.List.listFitsIndex k)=true:=by rw[fitsIndex_both h1 h2];exact k8
 have Ad:¬Builtin.List.listTooLong (aw.toArray.size*k.toNat)=true:=by rw[qF hlen];exact k8
 have HM:List.foldl (λ x1 x2=>x1++x2) #[] (List.replicate (if aw.toArray.isEmpty=true then 0 else k.toNat) aw.toArray)=(List.replicate k.toNat aw).flatten.toArray:=by
  have f0:∀m:Nat,List.foldl (λ x1 x2=>x1++x2) #[] (List.replicate m aw.toArray)=(List.replicate m aw).flatten.toArray:=λ m=>by have:=foldl_rep aw m [];rw[nil_append]at this;exact this
  rw[f0];cases aw with
  |nil=>simp
  |cons a r'=>rw[B9 (by simp)]
 refine wpAny_binaryOp_repeat_ref (T:="list") (U:="int") (by decide) ⟨_,e,rfl⟩ (λ s'=>typeIs_int s' k t) noFill_list_mul F.fills_int_mul F.slot_int_rmul repeat_list F.slot_int_index.lookup
  (B3 F.slot_int_rmul (typeIs_int s k t) F.entry_int_rmul (F.args_int_rmul_2 _ _) (int___rmul___int_list k t l aw.toArray n)
   ⟨e,rfl,⟨_,e,rfl⟩,B3 F.slot_list_mul ⟨_,e,rfl⟩ F.entry_list_mul (F.args_list_mul_2 _ _) (AutoListH.list___mul___list_int_3 l aw.toArray n k t K2 Ol Ad) ⟨e,?_⟩⟩)
 rw[HM];exact⟨.ref _,_,I.Kz (t':=s.toks) (r.rep k.toNat) (by rw[len_rep,Nat.mul_comm];exact hz),rfl,q _ I.fresh⟩
end
section
variable {prog:Program}{w:World}{A:Around}{E:Value->Shared->Prop}{s:Shared}
set_option maxRecDepth 100000 in
end
end L2
namespace Qp
open PySem PySem.W PySem.Calls PyProof.Rows
theorem jN{P:Params}{h:Heap}:∀(ns:List Int) (vs:List Value),WellAll P h vs (ns.map WData.int)->IntsAre vs ns:=by
 intro ns
 induction ns with
 |nil=>intro vs w;rw[map_nil]at w;cases w;exact .nil
 |cons n ns ih=>
  intro vs w;rw[y7]at w;cases w with
  |cons a b=>cases a;exact .cons _ _ (ih _ b)
theorem wa{l:OpenLaw}{n:Nat}(hn:l.most=some n){P:Params}{h:Heap}{args:List WData}{vals:List Value} (DF:l.row.toRowW.claim.pre args=true) (NR:WellAll P h vals args):∃a vs ns,vals=[Value.ref a]/\args=[WData.list (ns.map WData.int)]/\h.get? a=some {cls:=.type "list",data:=.seq vs.toArray}/\IntsAre vs ns/\ns.length<=n:=by
 have Rq:WShape.hasAll [] args [.list .int]=true:=(pre_splitW DF).1;have hc:l.pre.holds [] {args:=args}=true:=(pre_splitW DF).2;obtain⟨d,r,rfl,h1,h2⟩:=hasAllW_cons Rq;obtain rfl:=hasAllW_nil h2;obtain⟨xs,rfl,h3⟩:=hasW_list h1;obtain⟨ns,rfl⟩:=items_int h3;have hlen:ns.length<=n:=by
  unfold OpenLaw.pre at hc;have h4:(WTm.not (.lt (.lit (.int (n:Int))) (.len (.arg 0)))).holds [] {args:=[.list (ns.map .int)]}=true:=by have h4:=(holds_andW hc).1;rw[hn]at h4;exact h4
  have h5:=condW_of h4 (w_not (w_lt w_lit (w_len_list (w_arg rfl))));rw[w6]at h5;refine Nat.le_of_not_lt λ q=>?_;have q':(n:Int) < ((ns.length:Nat):Int):=by omega
  first
   |(rw[x8 q']at h5;exact absurd h5 (by decide))
   |(simp at h5;omega)
 cases NR with
 |cons w1 w2=>
  cases w2;cases w1 with
  |list ho Om=>exact⟨_,_,ns,rfl,rfl,ho,jN ns _ Om,hlen⟩
theorem wt(l:OpenLaw)(args:List WData):l.row.toRowW.claim.post args (.bool true) args=true:=
 postW_of (r:=l.row.toRowW) (X:=(true==true))
  (show WShape.has [] (.bool true) .bool=true by first|rfl|decide|simp[WShape.has,WShape.arms,WShape.armsAll])
  (show(WTm.eq .res (.lit (.bool true))).value [] {args:=args,res:=some (.bool true),after:=args}=some (.bool (true==true))from w_eq_bool (w_res rfl) w_lit) rfl
theorem rE{l:OpenLaw}{n:Nat}{q:Program}{loose:List Str}{XP:(Str->Option Value)->Heap->Prop}{YP:World->Heap->Prop}{d:DefRec} (hn:l.most=some n) (K3:d.params.defaults=[]) (call:∀(w:World) (s₀ s₁:Shared) (mg mb:Str->Option Value) (fa:Addr) (o:Obj) (pm cd doc:Value) (a:Addr) (vs:List Value) (ns:List Int),
   Ground q loose [] XP w s₀ mg mb s₁.heap->YP w s₁.heap->
   s₁.heap.get? fa=some o->o.data=.func (docDef d.name d.params d.body d.scope pm cd doc)->s₁.heap.CodeRec cd d.name->mg d.name=some (.ref fa)->
   s₁.heap.get? a=some {cls:=.type "list",data:=.seq vs.toArray}->IntsAre vs ns->ns.length<=n->s₁.gens=#[]->
   codeAny (model l.prog w) callerA (.call (.ref fa) ⟨[.ref a],[]⟩) (λ r s'=>r=.ok (.ret (.bool true))/\OldK s₁.heap s'.heap/\s'.os=s₁.os/\AllBare s'.gens) s₁):
  WalkO q loose XP YP l.row.toRowW d [] (λ f vs=>PySem.call f vs):=by
 intro w s₀ s₁ mg mb G Y fa o pm cd doc dV kV ho hd hcd hD KY hg args vals as DF RF S8 NR Tc;obtain rfl:dV=.none:=Dflts.none hD K3;obtain rfl:kV=.none:=Dflts.noKw hD;obtain⟨a,vs,ns,rfl,rfl,Ac,hints,hlen⟩:=wa hn DF NR;refine enter_call (codeAny_mono (call w s₀ s₁ mg mb fa o pm cd doc a vs ns G Y ho (fd_plain hd) hcd KY Ac hints hlen hg) λ r s' hq=>?_);obtain⟨rfl,h2,h3,h4⟩:=hq;exact⟨.inl ⟨.bool true,.bool true,[],rfl,λ _=>rfl,.bool true,wt l _,λ _=>⟨List.Pairwise.nil,λ _ hm=>(nomatch hm)⟩⟩,h2,h3,h4⟩
end Qp
namespace L2
open PySem PySem.Spec PyProof.Rows
theorem mT:∀{vs:List Value} {ns:List Int},IntsAre vs ns->Vals (ns.map V.int) vs
 |_,_,.nil=>.nil
 |_,_,.cons n t h=>.cons ⟨t,rfl⟩ (mT h)
def bR(s:Stmt):Arguments:=match s with
 | .FunctionDef _ a _ _ _ _ _ _ _ _=>a
 |_=>{posonlyargs:=[],args:=[],vararg:=none,kwonlyargs:=[],kw_defaults:=[],kwarg:=none,defaults:=[]}
def bx(s:Stmt):List Stmt:=match s with
 | .FunctionDef _ _ b _ _ _ _ _ _ _=>b
 |_=>[]
def aq(s:Stmt):Scope:=match s with
 | .FunctionDef _ _ _ _ _ _ sc _ _ _=>sc
 |_=>{kind:=.function,names:=[],isGenerator:=false,isCoroutine:=false}
abbrev fh:Bo:=λ _ _ _ _ _ _=>False
abbrev E0:XK:=λ _ _ _=>False
theorem Ki{X:Cx}:Passes fh X E0:=λ _ _ _ _ _ _ _ h=>h.elim
structure jH(K:C0)(x qual:Str)(st:Stmt)(f:Addr)(fd:FuncData):Prop where
 ex:∃(oc:Value) (od:Option Addr) (kV doc pm:Value) (an:Option Addr) (dD ct:Value) (sG:Array (Option Value)),
  fd=PySem.W.fnOf x qual (bR st) (bx st) (aq st) .none kV doc pm an dD ct/\K.lookup f=some ⟨oc,od,.func fd,sG⟩/\PySem.W.codeIn K dD qual=true
 kp:PySem.W.keepIn K (.ref f)=true
section
variable {P:Program}{w:World}{K:C0}{mg:Str->Option Value}{base:Heap}
theorem jH.ok {x qual:Str}{st:Stmt}{f:Addr}{fd:FuncData}{N ps:List Str}{k:Nat}{sp:Sp}(F:jH K x qual st f fd)(S:aR N ps (aq st))(len:∀vs H Q E,sp vs H Q E->vs.length=ps.length) (dw:∀(dD:Value) (A:Around) (outer:List Env) (s:Shared) (H:Hp) (vs:List V) (Q:VK) (E:XK),cB k (A.deeper (envOfC qual (aq st) s.heap.objs.size f dD))->sp vs H Q E->
   ∃t,rJ (mJ fh P w K mg base N qual (aq st) f dD A outer s H E).Dq (bx st) t/\t {nx:=λ _ H'=>Q .bf H',rt:=Q} (start N vs) H):cu P w K mg base fh (k+1) f fd ps sp:=by
 obtain⟨oc,od,kV,doc,pm,an,dD,ct,sG,rfl,lk,hcd⟩:=F.ex;refine EC lk hcd S len λ A outer s H vs Q E hr wX=>?_;obtain⟨t,h,q⟩:=dw dD A outer s H vs Q E hr wX;exact⟨t,h.Dq,q⟩
theorem jH.binds {x qual:Str}{st:Stmt}{f:Addr}{fd:FuncData}{ps:List Str}(F:jH K x qual st f fd) (h:∀(kV doc pm:Value) (an:Option Addr) (dD ct:Value) (us:List Value),us.length=ps.length->bindArgs (PySem.W.fnOf x qual (bR st) (bx st) (aq st) .none kV doc pm an dD ct) ⟨us,[]⟩=pure (ps.zip us)):Binds K fd ps []:=by obtain⟨oc,od,kV,doc,pm,an,dD,ct,sG,rfl,lk,hcd⟩:=F.ex;exact .all (h kV doc pm an dD ct)
theorem Ie{x qual:Str}{st:Stmt}{f:Addr}{oc:Value}{od an:Option Addr}{sG:Array (Option Value)}{kV doc pm dD ct:Value}(l:K.lookup f=some ⟨oc,od,.func (PySem.W.fnOf x qual (bR st) (bx st) (aq st) .none kV doc pm an dD ct),sG⟩) (c:PySem.W.codeIn K dD qual=true) (k:PySem.W.keepIn K (.ref f)=true):jH K x qual st f (PySem.W.fnOf x qual (bR st) (bx st) (aq st) .none kV doc pm an dD ct):=⟨⟨oc,od,kV,doc,pm,an,dD,ct,sG,rfl,l,c⟩,k⟩
end
end L2
namespace L2
open PySem PySem.Spec PyProof.Rows
section
variable {X:Cx}{pins:List (Addr×Obj)}{σ:St}{H:Hp}{s:Shared}
theorem Inv.mW {D:Addr}{o:HO}(I:Inv X pins σ H s)(hn:H D=none)(new:bp X.prog X.w (upd H D o) s.heap D o) (hL:D≠X.env.locals) (hs:X.s₀.heap.objs.size<=D) (hc:∀x c,X.env.cells.lookup x=some c->c≠D) (hp:∀p∈X.pn++pins,p.1≠D):Inv X pins σ (upd H D o) s:=by
 have ne:∀{b:Addr} {u:HO},H b=some u->b≠D:=λ e=>bB e hn;have nb:∀(b:Addr) (ob:Obj),X.s₀.heap.get? b=some ob->b≠D:=λ b ob e=>z9 (l7 (A0 e) hs);refine⟨I.ok,I.os,I.bare,⟨I.base.keep,I.base.slot,λ b ob e n hx=>?_,I.base.there,λ b xs e=>?_,λ b ob u e=>?_,λ b ps e=>?_⟩,I.loc,I.cell,?_,λ x c e=>?_,λ p KP=>?_,λ b u e=>?_,I.len⟩
 ·rw[aF (nb b ob e)];exact I.base.free b ob e n hx
 ·have q:=I.base.kZ b xs e;rw[aF (ne q)];exact q
 ·have q:=I.base.jj b ob u e;rw[aF (ne q)];exact q
 ·obtain⟨m,q⟩:=I.base.jM b ps e;exact⟨m,by rw[aF (ne q)];exact q⟩
 ·rw[aF (B7 hL)];exact I.free
 ·rw[aF (hc x c e)];exact I.eJ x c e
 ·obtain⟨e,n,r⟩:=I.pin p KP;exact⟨e,by rw[aF (hp p KP)];exact n,r⟩
 ·by_cases hb:b=D
  ·subst hb;rw[aG]at e;cases e;exact new
  ·rw[aF hb]at e;exact(I.aZ b u e).my (λ c v _ q=>q) (λ c q=>by rw[aF (ne q)];exact q) λ c xs q=>by rw[aF (ne q)];exact q
end
def bo(cells:List (Str×Addr)):List (Str×NameKind)->List (Str×Addr)->List (Str×Addr)
 |[],acc=>acc
 |(n,k)::r,acc=>if(k==.free)=true then bo cells r ((n,(cells.lookup n).getD 0)::acc)else bo cells r acc
theorem eU{cells:List (Str×Addr)}:∀(names:List (Str×NameKind)) (acc:List (Str×Addr)),(∀n,(n,NameKind.free)∈names->∃c,cells.lookup n=some c)-> (∀x c,acc.lookup x=some c->cells.lookup x=some c)->∀x c,(bo cells names acc).lookup x=some c->cells.lookup x=some c
 |[],acc,_,h,x,c,e=>h x c e
 |(n,k)::r,acc,hc,h,x,c,e=>by
  unfold bo at e;by_cases hk:(k==NameKind.free)=true
  ·rw[B8 hk]at e;refine eU r _ (λ m hm=>hc m (j3 _ hm)) (λ y d q=>?_) x c e;have Jc:k=NameKind.free:=by simpa using hk
   obtain⟨c0,e0⟩:=hc n (by rw[Jc];exact k7);rw[p4]at q;cases hy:(y==n)with
   |true=>
    rw[hy]at q;have yn:y=n:=by simpa using hy
    subst yn;rw[e0]at q;rw[e0];exact q
   |false=>rw[hy]at q;exact h y d q
  ·rw[B9 hk]at e;exact eU r _ (λ m hm=>hc m (j3 _ hm)) h x c e
theorem gb{cells:List (Str×Addr)}{x:Str}:∀(names:List (Str×NameKind)) (acc:List (Str×Addr)),((acc.lookup x).isSome=true)->((bo cells names acc).lookup x).isSome=true
 |[],acc,h=>h
 |(n,k)::r,acc,h=>by
  unfold bo;split
  ·refine gb r _ ?_;rw[p4];cases hy:(x==n)with
   |true=>rfl
   |false=>exact h
  ·exact gb r _ h
theorem gz{cells:List (Str×Addr)}{x:Str}:∀(names:List (Str×NameKind)) (acc:List (Str×Addr)),(x,NameKind.free)∈names->((bo cells names acc).lookup x).isSome=true
 |[],acc,h=>absurd h (by simp)
 |(n,k)::r,acc,h=>by
  unfold bo;rcases y8.mp h with e|h
  ·cases e;rw[B8 (by decide)];refine gb r _ ?_;rw[p4];simp
  ·split
   ·exact gz r _ h
   ·exact gz r _ h
theorem di{scope:Scope}{env:Env}(hc:∀n,(n,NameKind.free)∈scope.names->∃c,env.cells.lookup n=some c):closureFor scope env=pure (bo env.cells scope.names []):=by
 unfold closureFor;have all:∀(names:List (Str×NameKind)) (acc:List (Str×Addr)),(∀n,(n,NameKind.free)∈names->∃c,env.cells.lookup n=some c)->
   (forIn names acc (λ(x:Str×NameKind) (cs:List (Str×Addr))=>(match x with|(name,kind)=>if(kind==.free)=true then(do let c <- cellOf env name;pure (ForInStep.yield ((name,c)::cs)))else pure (ForInStep.yield cs):Sem (ForInStep (List (Str×Addr))))))=(pure (bo env.cells names acc):Sem (List (Str×Addr))):=by
  intro names
  induction names with
  |nil=>intro acc _;rfl
  |cons y r ih=>
   intro acc hc;obtain⟨n,k⟩:=y;rw[forIn_cons];unfold bo;dsimp only;by_cases hk:(k==NameKind.free)=true
   ·rw[B8 hk,B8 hk];have Jc:k=NameKind.free:=by simpa using hk
    obtain⟨c0,e0⟩:=hc n (by rw[Jc];exact k7);unfold cellOf;rw[e0];exact ih _ λ m hm=>hc m (j3 _ hm)
   ·rw[B9 hk,B9 hk];exact ih _ λ m hm=>hc m (j3 _ hm)
 have q:=all scope.names [] hc;refine Eq.trans ?_ (B6 (λ m=>m >>= pure) q);rfl
theorem lC{env:Env}:∀{names:List (Str×NameKind)} {x:Str},names.lookup x=some .free-> (names.map λ(n,k)=>if(k==NameKind.free&&env.scope.kind==.function&&env.kindOf n==some .cell)then(n,NameKind.cell)else(n,k)).lookup x=some .cell\/ (names.map λ(n,k)=>if(k==NameKind.free&&env.scope.kind==.function&&env.kindOf n==some .cell)then(n,NameKind.cell)else(n,k)).lookup x=some .free
 |[],_,h=>by simp at h
 |(n,k)::r,x,h=>by
  have ih:=@lC env r x;rw[y7];dsimp only;cases hx:x==n with
  |true=>
   rw[p4,hx]at h;have h':k=NameKind.free:=by simpa using h
   subst h';split
   ·left;rw[p4,hx]
   ·right;rw[p4,hx]
  |false=>
   rw[p4,hx]at h;have ih:=ih h;split
   ·rw[p4,hx];exact ih
   ·rw[p4,hx];exact ih
theorem ph{prog:Program}{w:World}{A:Around}{R:Result->Shared->Prop}{s:Shared}{elt target iter:Expr}{ifs:List Expr}{scope:Scope}{pos:Pos}{it acc:Value}{env:Env}(I:Nat->Shared->Prop) (turn:∀n s,I n s->wpAny (model prog w) A (pyNext it) (λ r s1=>match r with
   |none=>R (.ok .next) s1
   |some v=>wpAny (model prog w) A (letOwnedTupleGo target it v) (λ _ s2=>wpAny (model prog w) A (assign target env v) (λ _ s3=>
     wpAny (model prog w) A (forIn ifs true λ c r=>if r=true then do let ok <- isTrue c env (eval c env);pure (ForInStep.yield ok)else pure (ForInStep.yield r)) (λ ok s4=>
      if ok=true then wpAny (model prog w) A (eval elt env) (λ x s5=>
       wpAny (model prog w) A (call (.builtin "list.append") [acc,x]) (λ _ s6=>∃m,m < n/\I m s6) (λ _ _=>False) s5) (λ _ _=>False) s4
      else ∃m,m < n/\I m s4) (λ _ _=>False) s3) (λ _ _=>False) s2) (λ _ _=>False) s1) (λ _ _=>False) s)
  (n:Nat) (h:I n s):
  codeAny (model prog w) A (.compLoop (.ListComp elt [⟨target,iter,ifs,0⟩] scope pos) 0 it acc env) R s:=by
 refine codeAny_loop rfl I (λ n s hI=>?_) n h;show wpAny _ A ((compTurn (.ListComp elt [⟨target,iter,ifs,0⟩] scope pos) 0 it acc env).onRaise (λ x=>do noteFrame x env;theTreesLotGoes x)) _ _ s;refine wpAny_noted ?_;rw[compTurn_list];refine wpAny_noRaise (B0 (wpAny_standAt (B0 (B4 (turn n s hI) (λ r s1 h1=>?_) λ _ _ h'=>h'))));cases r with
 |none=>exact B1 h1
 |some v=>
  refine B0 (B4 h1 (λ _ s2 h2=>?_) λ _ _ h'=>h');refine B0 (B4 h2 (λ _ s3 h3=>B0 (B4 h3 (λ ok s4 h4=>?_) λ _ _ h'=>h')) λ _ _ h'=>h');cases ok with
  |false=>exact B1 ⟨rfl,h4⟩
  |true=>exact B0 (B0 (B4 h4 (λ x s5 h5=>B0 (B4 h5 (λ _ s6 h6=>B1 (B1 ⟨rfl,h6⟩)) λ _ _ h'=>h')) λ _ _ h'=>h'))
end L2
namespace L2
open PySem PySem.Spec PyProof.Rows
def bq(X:Cx)(scope:Scope)(cl:List (Str×Addr))(tgs:List Str)(fr:List Nat)(C:Addr)(fp:List Addr)(s:Shared)(H:Hp):Cx:=
 {X with N:=tgs++fr.map (λ j=>X.N.getD j ""),s₀:=s,H₀:=H,env:=compEnvC scope cl C X.env,outer:=X.stack,ex:=fp,fn:=λ x=>scope.names.lookup x==some .cell,pn:=[]}
def eh(n:Nat)(fr:List Nat)(σ:St):St:=List.replicate n none++fr.map (λ j=>σ.getD j none)
structure Bc(X:Cx)(scope:Scope)(C:Addr)(h1:Heap)(cl:List (Str×Addr)):Prop where
 look:∀x c,cl.lookup x=some c->X.env.cells.lookup x=some c\/(C < c/\h1.IsCell c none)
 inj:∀x y c,cl.lookup x=some c->cl.lookup y=some c->x=y
 has:∀x,(x,NameKind.free)∈scope.names\/(x,NameKind.cell)∈scope.names->∃c,cl.lookup x=some c
 Ig:∀x c,scope.names.lookup x=some .free->cl.lookup x=some c->X.env.cells.lookup x=some c
 own:∀x c,scope.names.lookup x=some .cell->cl.lookup x=some c->C < c
structure iP(X:Cx)(scope:Scope)(fr:List Nat):Prop where
 kind:scope.kind=.function
 cells:∀y∈scope.names,y.2=.cell->scope.names.lookup y.1=some .cell
 names:∀y∈scope.names,y.2=.local->scope.names.lookup y.1=some .local
 has:∀n,(n,NameKind.free)∈scope.names->X.env.kindOf n=some .cell\/X.env.kindOf n=some .free
 fr:∀j∈fr,j < X.N.length/\scope.names.lookup (X.N.getD j "")=some .free
def gZ(n:Nat)(g:TG):Prop:=∀x σ H Q,g x σ H Q->g x σ H λ σ2 H2=>Q σ2 H2/\σ2.length=σ.length/\∀k,n<=k->σ2[k]?=σ[k]?
theorem gu{n i:Nat}(h:i < n):gZ n (ck i):=λ x σ H Q q=>⟨q,by simp,λ k hk=>by rw[j5 (by omega)]⟩
def kJ(n:Nat)(g:vF):Prop:=∀xs σ H Q,g xs σ H Q->g xs σ H λ σ2 H2=>Q σ2 H2/\σ2.length=σ.length/\∀k,n<=k->σ2[k]?=σ[k]?
theorem Ao{n:Nat}:kJ n oZ:=λ xs σ H Q q=>⟨q.1,q.2,rfl,λ _ _=>rfl⟩
def Jl(X:Cx)(ifs:List Expr)(t:TT):Prop:=
 ∀(pins:List (Addr×Obj)) (s:Shared) (σ:St) (H:Hp) (Q:Bool->Hp->Prop),Inv X pins σ H s->t σ H Q->
  wpAny (model X.prog X.w) X.A (forIn ifs true λ c r=>if r=true then do let ok <- isTrue c X.env (eval c X.env);pure (ForInStep.yield ok)else pure (ForInStep.yield r)) (TP X pins σ Q) X.xe s
def MD:TT:=λ _ H Q=>Q true H
theorem C4{X:Cx}:Jl X [] MD:=λ _ s σ H Q I h=>wpAny_tests_nil ⟨H,I,h⟩
theorem C3{X:Cx}{c:Expr}{t:TT}(h:PT X c t):Jl X [c] t:=λ pins s σ H Q I q=>wpAny_tests_one (h pins s σ H Q I q)
def qg(wi:TI)(g:TG)(tt:TT)(te:TE)(n:Nat)(fr:List Nat):TE:=λ σ H Q=>wi σ H λ J H1=>∃W:Nat->Nat->List V->Hp->Prop,(∃m,W 0 m [] H1)/\∀i m acc H,W i m acc H->
 acc.length<=sizeLine/\((J.stop i H/\∀p,H p=none->Q (.ref p) (upd H p (.lst acc)))\/
  (J.go i H/\∃N:List V->Hp->Prop,(∀AW H',N AW H'->∃m',m' < m/\W (i+1) m' AW H')/\∀x H',J.Br i H x H'->g x (eh n fr σ) H' λ σ2 H2=>tt σ2 H2 λ b H3=>if b=true then te σ2 H3 λ y H4=>N (acc++[y]) H4 else N acc H3))
theorem fJ{env:Env}:∀{names:List (Str×NameKind)} {x:Str} {k0:NameKind}, (names.map λ(n,k)=>if(k==NameKind.free&&env.scope.kind==.function&&env.kindOf n==some .cell)then(n,NameKind.cell)else(n,k)).lookup x=some k0->(k0=.cell\/k0=.free)->(x,NameKind.free)∈names\/(x,NameKind.cell)∈names
 |[],_,_,h,_=>by simp at h
 |(n,k)::r,x,k0,h,hk=>by
  have ih:=@fJ env r x k0;rw[y7]at h;dsimp only at h;cases hx:x==n with
  |true=>
   have xn:x=n:=by simpa using hx
   subst xn;by_cases K4:(k==NameKind.free&&env.scope.kind==.function&&env.kindOf x==some .cell)=true
   ·have:k=NameKind.free:=by have:=(p7 _ _).mp K4;have:=(p7 _ _).mp this.1;simpa using this.1
    subst this;exact .inl k7
   ·rw[B9 K4,p4,hx]at h;have h':k=k0:=by simpa using h
    subst h';rcases hk with e|e
    ·subst e;exact .inr k7
    ·subst e;exact .inl k7
  |false=>
   have z:(x,NameKind.free)∈r\/(x,NameKind.cell)∈r:=by
    refine ih ?_ hk;split at h
    ·rw[p4,hx]at h;exact h
    ·rw[p4,hx]at h;exact h
   exact z.imp (j3 _) (j3 _)
theorem gq{x n:Str}{a:Addr}{acc:List (Str×Addr)}{c:Addr}(h:((n,a)::acc).lookup x=some c):(x=n/\c=a)\/(x≠n/\acc.lookup x=some c):=by
 rw[p4]at h;cases e:x==n with
 |true=>rw[e]at h;exact .inl ⟨by simpa using e,(u6 h).symm⟩
 |false=>rw[e]at h;exact .inr ⟨by simpa using e,h⟩
set_option tactic.hygienic true in
theorem pv:∀(names:List (Str×NameKind)) (h:Heap) (acc:List (Str×Addr)) (x:Str) (c:Addr),(cellsFrom h.objs.size names acc).lookup x=some c->acc.lookup x=some c\/(h.objs.size<=c/\(pushCells h names).IsCell c none)
 |[],_,_,_,_,e=>.inl e
 |(n,k)::r,h,acc,x,c,e=>by
  unfold cellsFrom at e;unfold pushCells;split at e
  ·rename_i hk;rw[B8 hk];have sz:=y0 h {cls:=.type "cell",data:=.cell none};rw[<- sz]at e;rcases pv r _ _ x c e with z|z
   ·rcases gq z with⟨_,q⟩|⟨_,q⟩
    ·subst q;exact .inr ⟨A6 _,_,pushCells_keeps r _ _ _ (k4 _ rfl),rfl⟩
    ·exact .inl q
   ·exact .inr ⟨by have:=z.1;rw[sz]at this;omega,z.2⟩
  ·rename_i hk;rw[B9 hk];exact pv r h acc x c e
theorem tL:∀(names:List (Str×NameKind)) (n:Nat) (acc:List (Str×Addr)),(∀x c,acc.lookup x=some c->c < n)->(∀x y c,acc.lookup x=some c->acc.lookup y=some c->x=y)->∀x y c,(cellsFrom n names acc).lookup x=some c->(cellsFrom n names acc).lookup y=some c->x=y
 |[],_,_,_,hi=>hi
 |(m,k)::r,n,acc,lt,hi=>by
  unfold cellsFrom;split
  ·refine tL r (n+1) _ (λ x c e=>?_) (λ x y c e1 e2=>?_)
   ·rcases gq e with⟨_,q⟩|⟨_,q⟩
    ·rw[q];exact Nat.lt_succ_self n
    ·exact o8 (lt x c q)
   ·rcases gq e1 with⟨a1,q1⟩|⟨a1,q1⟩ <;> rcases gq e2 with⟨a2,q2⟩|⟨a2,q2⟩
    ·rw[a1,a2]
    ·exact absurd (q1▸lt y c q2) (y6 _)
    ·exact absurd (q2▸lt x c q1) (y6 _)
    ·exact hi x y c q1 q2
  ·exact tL r n acc lt hi
theorem kC{x:Str}:∀(names:List (Str×NameKind)) (n:Nat) (acc:List (Str×Addr)),(∃c,acc.lookup x=some c)->∃c,(cellsFrom n names acc).lookup x=some c
 |[],_,_,h=>h
 |(m,k)::r,n,acc,⟨c,h⟩=>by
  unfold cellsFrom;split
  ·refine kC r _ _ ?_;rw[p4];cases x==m with
   |true=>exact⟨_,rfl⟩
   |false=>exact⟨c,h⟩
  ·exact kC r n acc ⟨c,h⟩
theorem tM{x:Str}:∀(names:List (Str×NameKind)) (n:Nat) (acc:List (Str×Addr)),(x,NameKind.cell)∈names->∃c,(cellsFrom n names acc).lookup x=some c
 |[],_,_,h=>absurd h (by simp)
 |(m,k)::r,n,acc,h=>by
  unfold cellsFrom;rcases y8.mp h with e|h
  ·cases e;rw[B8 (by decide)];exact kC r _ _ ⟨n,by rw[p4];simp⟩
  ·split
   ·exact tM r _ _ h
   ·exact tM r _ _ h
set_option tactic.hygienic true in
theorem tN{x:Str}:∀(names:List (Str×NameKind)) (n:Nat) (acc:List (Str×Addr)),(x,NameKind.cell)∉names->(cellsFrom n names acc).lookup x=acc.lookup x
 |[],_,_,_=>rfl
 |(m,k)::r,n,acc,h=>by
  unfold cellsFrom;split
  ·rename_i hk;rw[tN r _ _ λ z=>h (j3 _ z),p4];cases e:x==m with
   |false=>rfl
   |true=>
    have e1:x=m:=by simpa using e
    have e2:k=.cell:=by simpa using hk
    subst e1 e2;exact absurd k7 h
  ·exact tN r n acc λ z=>h (j3 _ z)
set_option tactic.hygienic true in
theorem tK{x:Str}{lo:Nat}:∀(names:List (Str×NameKind)) (n:Nat) (acc:List (Str×Addr)),lo<=n->((x,NameKind.cell)∈names\/∀c,acc.lookup x=some c->lo<=c)->∀c,(cellsFrom n names acc).lookup x=some c->lo<=c
 |[],_,_,_,h,c,e=>by
  rcases h with h|h
  ·cases h
  ·exact h c e
 |(m,k)::r,n,acc,hn,h,c,e=>by
  unfold cellsFrom at e;split at e
  ·refine tK r (n+1) _ (by omega) ?_ c e;rcases h with h|h
   ·rcases y8.mp h with q|q
    ·cases q;exact .inr λ c e=>by
      rcases gq e with⟨_,z⟩|⟨z,_⟩
      ·rw[z];exact hn
      ·exact absurd rfl z
    ·exact .inl q
   ·exact .inr λ c e=>by
     rcases gq e with⟨_,z⟩|⟨_,z⟩
     ·rw[z];exact hn
     ·exact h c z
  ·rename_i hk;refine tK r n acc hn ?_ c e;rcases h with h|h
   ·rcases y8.mp h with q|q
    ·cases q;exact absurd rfl hk
    ·exact .inl q
   ·exact .inr h
section
variable {M:Model}{A:Around}{E:Value->Shared->Prop}{s:Shared}
theorem wF{scope:Scope}{globals:Addr}{closure:List (Str×Addr)}{qual:Str}{func:Option Addr}{code:Value}{env:Env}{builtins:Addr}{Q:Env->Shared->Prop} (hQ:Q (newEnv scope s.heap.objs.size globals (cellsFrom (s.heap.objs.size+1) scope.names closure) qual func code (some env) builtins) {s with heap:=pushCells (s.heap.push {cls:=.type "dict",data:=.dict #[]}) scope.names}):wpAny M A (newFunctionEnv scope globals closure [] qual func code (some env) builtins) Q E s:=by simp only[newFunctionEnv,Option.isSome_some,if_true];refine B0 (wpAny_alloc ?_);refine B0 (wpAny_layCells _ (λ name kind cells=>by cases RJ:kind==NameKind.cell <;> simp[RJ]) _ _ _ _ ?_);rw[show({s with heap:=s.heap.push {cls:=.type "dict",data:=.dict #[]}}:Shared).heap.objs.size=s.heap.objs.size+1 from y0 ..];exact B0 (B1 (B1 hQ))
end
section
variable {X:Cx}{scope:Scope}{tgs:List Str}{fr:List Nat}
theorem Iu{pins:List (Addr×Obj)}{σ:St}{H:Hp}{s:Shared}{fp:List Addr}{C:Addr}{h1:Heap}{cl:List (Str×Addr)}(B:iP X scope fr)(L:Bc X scope C h1 cl)(I:Inv X pins σ H s)(hC:s.heap.objs.size<=C)(f:∀b∈fp,iO X pins H b)(Bi:∀b∈fp,b < s.heap.objs.size): (bq X scope cl tgs fr C fp s H).Ok:=by
 refine⟨I.ok.mod,B.kind,I.ok.glob,I.ok.blt,hC,L.inj,λ x hx=>?_,λ x c h e=>?_,I.ok.hd,I.ok.frames,.inl rfl,λ b hb=>⟨z9 (l7 (Bi b hb) hC),λ x c e=>?_⟩,
  I.bs,A2 I.ok.xo I.sz,λ b o e hb=>?_,λ b hb hs=>?_,I.stack,I.oq⟩
 ·rcases hx with hx|hx
  ·exact L.has x (fJ hx (.inl rfl))
  ·exact L.has x (fJ hx (.inr rfl))
 ·exact A2 hC (A5 (L.own x c (by simpa[bq]using h) e))
 ·rcases L.look x c e with z|z
  ·exact(f b hb).2.2.2.2.1 x c z
  ·exact λ q=>absurd (l6 hC z.1) (Nat.not_lt.mpr (A5 (q▸Bi b hb)))
 ·rcases(f b hb).2.2.2.1 with z|z
  ·exact I.ok.wD b o e z
  ·exact absurd (l7 (A0 e) (A2 I.ok.xo z)) (y6 _)
 ·rcases y8.mp (I.ll b hs)with z|z
  ·exact(f b hb).2.1 z
  ·exact(f b hb).2.2.1 z
theorem D7{pins:List (Addr×Obj)}{σ:St}{H:Hp}{s s1:Shared}{fp:List Addr}{C:Addr}{m:Str->Option Value}{cl:List (Str×Addr)}(B:iP X scope fr)(L:Bc X scope C s1.heap cl)(I:Inv X pins σ H s)(hC:s.heap.objs.size<=C)(f:∀b∈fp,iO X pins H b)(Bi:∀b∈fp,b < s.heap.objs.size) (ho:s1.os=s.os) (hg:AllBare s1.gens) (hk:∀b o,s.heap.get? b=some o->s1.heap.get? b=some o) (hn:s1.heap.Ns C m):Inv (bq X scope cl tgs fr C fp s H) [] (eh tgs.length fr σ) H s1:=by
 refine⟨Iu B L I hC f Bi,ho,hg,Un.kept hk,⟨m,hn,λ i x v e1 e2 e3=>?_⟩,λ x c e=>?_,I.aZ.fresh hC,λ x c e=>?_,λ p hp=>absurd hp (by simp[bq]),I.aZ.kept hk,by simp[eh,bq]⟩
 ·-- a free name:aw OO value
  have e1:(tgs++fr.map (λ j=>X.N.getD j ""))[i]?=some x:=e1;have hi:tgs.length<=i:=by refine Nat.le_of_not_lt λ eQ=>?_;unfold eh at e2;rw[c4 (by simpa using eQ),i0,B8 eQ]at e2;cases e2
  unfold eh at e2;rw[a9 (by simpa using hi),j2,m8]at e2;rw[a9 hi,m8]at e1;cases ej:fr[i - tgs.length]? with
  |none=>rw[ej]at e1;cases e1
  |some j=>
   rw[ej]at e1 e2;have OK:X.N.getD j ""=x:=u6 e1;have Qc:σ.getD j none=some v:=u6 e2;obtain⟨hj,hl⟩:=B.fr j (j4 ej);have hN:X.N[j]?=some x:=by rw[c3,c9 hj]at OK;rw[c9 hj];exact B6 some OK
   have hs:σ[j]?=some (some v):=by
    have Mh:j < σ.length:=by rw[I.len];exact hj
    rw[c3,c9 Mh]at Qc;rw[c9 Mh];exact B6 some Qc
   rw[OK]at hl;obtain⟨m0,Ja,RG⟩:=I.loc;have KZ:(x,NameKind.free)∈scope.names:=j7 hl;have kinds:=B.has x KZ;obtain⟨u,ru,lu⟩:=RG j x v hN hs (by rcases kinds with z|z;exact .inr (.inl z);exact .inr (.inr z));refine⟨u,ru,.inr ⟨lC hl,?_⟩⟩;obtain⟨c,hc⟩:=L.has x (.inl KZ);refine⟨c,hc,?_⟩;rcases lu with⟨kl,_⟩|⟨_,c',HU,z⟩
   ·rcases kinds with z|z <;> (rw[z]at kl;cases kl)
   ·have:c=c':=by have:=L.Ig x c hl hc;rw[this]at HU;exact u6 HU
    subst this;obtain⟨o,ho,hd⟩:=z;exact⟨o,hk _ _ ho,hd⟩
 ·rcases L.look x c e with z|z
  ·obtain⟨v,o,wY,hd⟩:=I.cell x c z;exact⟨v,o,hk _ _ wY,hd⟩
  ·exact⟨none,z.2⟩
 ·rcases L.look x c e with z|z
  ·exact I.eJ x c z
  ·exact I.aZ.fresh (A2 hC (A5 z.1))
theorem Iv{pins:List (Addr×Obj)}{σ:St}{H:Hp}{s:Shared}{h2:Heap}(B:iP X scope fr)(I:Inv X pins σ H s)(hs:s.heap.objs.size<=h2.objs.size):Bc X scope h2.objs.size (pushCells (h2.push {cls:=.type "dict",data:=.dict #[]}) scope.names) (cellsFrom (h2.objs.size+1) scope.names (bo X.env.cells scope.names [])):=by
 have look:∀x c,(bo X.env.cells scope.names []).lookup x=some c->X.env.cells.lookup x=some c:=
  eU scope.names [] (λ n hn=>I.ok.has n (B.has n hn)) λ x c e=>by simp at e
 have sz:=y0 h2 {cls:=.type "dict",data:=.dict #[]};refine⟨λ x c e=>?_,tL _ _ _ (λ x c e=>?_) (λ x y c e1 e2=>I.ok.inj x y c (look x c e1) (look y c e2)),λ x h=>?_,λ x c h e=>?_,λ x c h e=>?_⟩
 ·rw[<- sz]at e;rcases pv _ _ _ x c e with z|z
  ·exact .inl (look x c z)
  ·exact .inr ⟨l7 (by rw[sz];exact Nat.lt_succ_self _) z.1,z.2⟩
 ·obtain⟨v,hv⟩:=I.cell x c (look x c e);exact o8 (l7 hv.lt hs)
 ·rcases h with h|h
  ·exact kC _ _ _ (Option.isSome_iff_exists.mp (gz scope.names [] h))
  ·exact tM _ _ _ h
 ·rw[tN _ _ _ λ z=>by have:=B.cells _ z rfl;rw[h]at this;cases this]at e;exact look x c e
 ·exact tK (lo:=h2.objs.size+1) _ _ _ (A6 _) (.inl (j7 h)) c e
end
end L2
namespace L2
open PySem PySem.Spec PyProof.Rows
section
variable {X:Cx}{scope:Scope}{tgs:List Str}{fr:List Nat}{tg elt iter:Expr}{ifs:List Expr}{pos:Pos}{wi:TI}{g:TG}{tt:TT}{te:TE}
theorem toF{α:Type}{M:Model}{A:Around}{E:Value->Shared->Prop}{s:Shared}{t:Sem α}{Q Q':α->Shared->Prop}(hE:∀e s,E e s->False)(h:wpAny M A t Q E s)(hQ:∀a s,Q a s->Q' a s):wpAny M A t Q' (λ _ _=>False) s:=
 B4 h hQ hE
theorem nP{pins:List (Addr×Obj)}{σ:St}{H:Hp}{s:Shared}{R:Value->Addr->Result->Shared->Prop}{E:Value->Shared->Prop}{J:It}{fp:List Addr}{it:Addr}{tn:Nat->Heap->Prop}{Qe:List V->Hp->Prop} (B:iP X scope fr) (hc:X.calm=true) (hE:∀e s,X.xe e s->False) (hg:∀cl C fp s H,PG (bq X scope cl tgs fr C fp s H) tg g) (gk:gZ tgs.length g) (ht:∀cl C fp s H,Jl (bq X scope cl tgs fr C fp s H) ifs tt) (he:∀cl C fp s H,PE (bq X scope cl tgs fr C fp s H) elt te) (I:Inv X pins σ H s) (T:Turn X.prog X.w X.K tg J fp it tn) (st:tn 0 s.heap) (f:∀b∈fp,iO X pins H b) (W:Nat->Nat->List V->Hp->Prop) (m0:Nat) (w0:W 0 m0 [] H) (turn:∀i m acc H,W i m acc H->acc.length<=sizeLine/\((J.stop i H/\Qe acc H)\/(J.go i H/\∃N:List V->Hp->Prop,(∀AW H',N AW H'->∃m',m' < m/\W (i+1) m' AW H')/\∀x H',J.Br i H x H'->g x (eh tgs.length fr σ) H' λ σ2 H2=>tt σ2 H2 λ b H3=>
   if b=true then te σ2 H3 λ y H4=>N (acc++[y]) H4 else N acc H3)))
  (fin:∀(D C:Addr) (s1:Shared) (H1:Hp) (acc:List V) (aw:List Value),s.heap.objs.size<=D->s.heap.objs.size<=C->D≠C->Inv X pins σ H1 s1->H1 C=none->H1 D=none->(∃m,s1.heap.Ns C m)->
   s1.heap.PlainList D aw.toArray->Vals acc aw->acc.length<=sizeLine->Qe acc H1->R (.ref D) C (.ok .next) s1):
  wpAny (model X.prog X.w) X.A (newList []) (λ acc s3=>wpAny (model X.prog X.w) X.A (newFunctionEnv scope X.env.globals (bo X.env.cells scope.names []) [] X.env.qual none .none (some X.env)) (λ Lp s4=>
   codeAny (model X.prog X.w) X.A (.compStart (.ListComp elt [⟨tg,iter,ifs,0⟩] scope pos) 0 (.ref it) acc {Lp with scope:=relabel scope X.env}) (R acc Lp.locals) s4) E s3) E s:=by
 have Bi:∀b∈fp,b < s.heap.objs.size:=λ b hb=>by obtain⟨o,e,_⟩:=T.obj 0 _ st b hb;exact A0 e
 refine n5 (wF ?_);dsimp only;generalize Ow:s.heap.push {cls:=.type "list",dict:=none,data:=.seq ([]:List Value).toArray}=H2;have hC:H2.objs.size=s.heap.objs.size+1:=by rw[<- Ow,y0]
 have L0:=Iv (h2:=H2) B I (by omega);have KS:(pushCells (H2.push {cls:=.type "dict",data:=.dict #[]}) scope.names).Ns H2.objs.size (λ _=>none):=(Heap.Ns.new H2 (.type "dict")).keeps (pushCells_keeps _ _);have NH:∀b o,H2.get? b=some o->(pushCells (H2.push {cls:=.type "dict",data:=.dict #[]}) scope.names).get? b=some o:=λ b o e=>pushCells_keeps _ _ b o (i5 _ e);generalize pushCells (H2.push {cls:=.type "dict",data:=.dict #[]}) scope.names=h1 at L0 KS NH ⊢;have Ib:s.heap.objs.size≠H2.objs.size:=by omega
 have DI:s.heap.objs.size<=H2.objs.size:=by omega
 have below:∀b,b < s.heap.objs.size->b≠H2.objs.size/\b≠s.heap.objs.size:=λ b hb=>⟨by omega,by omega⟩;have old:∀b o,s.heap.get? b=some o->h1.get? b=some o:=λ b o e=>NH b o (Ow▸i5 _ e);have sY:h1.PlainList s.heap.objs.size #[]:=⟨_,NH _ _ (Ow▸k4 _ rfl)⟩;have O5:tn 0 h1:=T.keep _ _ _ st λ b _ o e=>old b o e;have NB:∀x c,(cellsFrom (H2.objs.size+1) scope.names (bo X.env.cells scope.names [])).lookup x=some c->X.env.cells.lookup x=some c\/H2.objs.size < c:=λ x c e=>(L0.look x c e).imp id λ z=>z.1;generalize cellsFrom (H2.objs.size+1) scope.names (bo X.env.cells scope.names [])=cl at L0 NB ⊢;generalize Tj:H2.objs.size=C at*;generalize K_:s.heap.objs.size=D at*;have Sb:∀b,b < D->b < s.heap.objs.size:=λ b hb=>by rw[K_];exact hb
 have fD:=I.jk (b:=D) (H':=H) (A3 K_) (I.aZ.fresh (A3 K_));have Ei:∀b,b≠X.env.locals->b∉X.fs->b∉pT X.stack:=λ b h1 h2 hb=>(y8.mp (I.ll b hb)).elim h1 h2;have uV:∀b∈fp,b∉pT X.stack:=λ b hb=>Ei b (f b hb).2.1 (f b hb).2.2.1;have SK:∀x c,cl.lookup x=some c->c≠D:=λ x c e=>(NB x c e).elim (fD.2.2.2.2.1 x c) λ z q=>absurd (l6 DI (q▸z)) (y6 _);have loop:∀s3:Shared,s3={s with heap:=h1}->
   codeAny (model X.prog X.w) X.A (.compLoop (.ListComp elt [⟨tg,iter,ifs,0⟩] scope pos) 0 (.ref it) (.ref D) (compEnvC scope cl C X.env)) (R (.ref D) C) s3:=by
  rintro s3 rfl;have SY:Inv (bq X scope cl tgs fr C fp s H) [] (eh tgs.length fr σ) H {s with heap:=h1}:=
   D7 B L0 I (by rw[K_];exact DI) f (λ b hb=>Sb b (Bi b hb)) rfl I.bare old KS
  refine ph (λ n s'=>∃(i:Nat) (acc:List V) (aw:List Value) (H':Hp),Inv (bq X scope cl tgs fr C fp s H) [] (eh tgs.length fr σ) H' s'/\tn i s'.heap/\(∀b∈fp,H' b=none)/\H' D=none/\
   s'.heap.PlainList D aw.toArray/\Vals acc aw/\W i n acc H') ?_ m0 ⟨0,[],[],H,SY,O5,λ b hb=>(f b hb).1,fD.1,sY,.nil,w0⟩
  rintro n s3 ⟨i,acc,aw,H3,I3,JE,Lb,Sd,⟨nl,Ac⟩,L6,w3⟩;obtain⟨hz,h⟩:=turn i n acc H3 w3;have Qn:Inv (bq X scope cl tgs fr C fp s H) [(D,{cls:=.type "list",data:=.seq aw.toArray nl})] (eh tgs.length fr σ) H3 s3:=I3.ir λ p hp=>by
   have e:p=(D,{cls:=.type "list",data:=.seq aw.toArray nl}):=by simpa using hp
   subst e;exact⟨Ac,Sd,Ib,Ei D fD.2.1 fD.2.2.1,λ v e=>by cases e⟩
  have fY:∀{H':Hp},(∀b∈fp,H' b=none)->∀b∈fp,iO (bq X scope cl tgs fr C fp s H) [(D,{cls:=.type "list",data:=.seq aw.toArray nl})] H' b:=λ hn b hb=>
   ⟨hn b hb,(below b (Bi b hb)).1,uV b hb,.inl hb,λ x c e=>(NB x c e).elim ((f b hb).2.2.2.2.1 x c) λ z q=>absurd (l7 (Bi b hb) (A2 DI (A5 (q▸z)))) (y6 _),λ p hp=>by
    have e:p=(D,{cls:=.type "list",data:=.seq aw.toArray nl}):=by simpa[bq]using hp
    subst e;exact B7 (below b (Bi b hb)).2⟩
  rcases h with⟨stop,q⟩|⟨go,N,hN,step⟩
  ·refine cG (T.done (bq X scope cl tgs fr C fp s H) rfl rfl rfl hc i _ s3 _ H3 _ Qn (fY Lb) JE stop) λ r s4 ⟨hr,I4⟩=>?_;subst hr;have pD:=I4.pin (D,{cls:=.type "list",data:=.seq aw.toArray nl}) (by simp);have IX:Inv X pins σ H3 s4:=I.Lr (ch:=fp) I4.os I4.base I4.aZ I4.bare λ b hb=>⟨(f b hb).2.2.2.1,(f b hb).2.1,(f b hb).2.2.2.2.1,(f b hb).2.2.2.2.2⟩;obtain⟨m4,Pw,_⟩:=I4.loc;exact fin D C s4 H3 acc aw (A6 _) DI Ib IX I4.free pD.2.1 ⟨m4,Pw⟩ ⟨nl,pD.1⟩ L6 hz q
  ·refine cG (T.item (bq X scope cl tgs fr C fp s H) rfl rfl rfl hc i _ s3 _ H3 _ Qn (fY Lb) JE go) λ r s4 ⟨u,hr,h4⟩=>?_;subst hr;refine cG h4 λ _ s5 ⟨x,H5,I5,r5,y5,BI,OE⟩=>?_;have O1:=I5.pinned (fY OE) (T.obj _ _ BI);refine toF hE (hg _ _ _ _ _ _ s5 _ H5 x u _ O1 r5 (gk x _ H5 _ (step x H5 y5))) λ _ s6 ⟨σ6,H6,I6,q6,ND,k6⟩=>?_;refine toF hE (ht _ _ _ _ _ _ s6 σ6 H6 _ I6 q6) λ ok s7 ⟨H7,I7,q7⟩=>?_;have wk:∀{H':Hp} {s':Shared} {pl:List (Addr×Obj)},Inv (bq X scope cl tgs fr C fp s H) pl σ6 H' s'->Inv (bq X scope cl tgs fr C fp s H) pl (eh tgs.length fr σ) H' s':=λ J=>
    J.weak ND.symm λ k v e=>by
     by_cases hk:tgs.length<=k
     ·rw[k6 k hk];exact e
     ·unfold eh at e;rw[c4 (by simpa using hk),i0,B8 (by omega)]at e;cases e
   cases ok with
   |false=>simp only[l0,B5]at q7 ⊢;obtain⟨m',hm,w7⟩:=hN _ _ q7;have pD:=I7.pin (D,{cls:=.type "list",data:=.seq aw.toArray nl}) (by simp);refine⟨m',hm,i+1,acc,aw,H7,wk (I7.ir (pins':=[]) λ p hp=>absurd hp (by simp)),T.keep _ _ _ BI λ b hb o e=>(I7.pin (b,o) (i9 _ (i9 _ (de hb e)))).1,λ b hb=>?_,pD.2.1,⟨nl,pD.1⟩,L6,w7⟩;obtain⟨o,e,d⟩:=T.obj _ _ BI b hb;exact(I7.pin (b,o) (i9 _ (i9 _ (de hb e)))).2.1
   |true=>
    simp only[if_true]at q7 ⊢;refine toF hE (he _ _ _ _ _ _ s7 σ6 H7 _ I7 q7) λ uy s8 ⟨y,H8,I8,r8,n8⟩=>?_;obtain⟨m',hm,w8⟩:=hN _ _ n8;have pD:=I8.pin (D,{cls:=.type "list",data:=.seq aw.toArray nl}) (by simp);have hits:aw.toArray.size<=sizeLine:=by have:=L6.length;simp only[o7];omega
    refine wpAny_list_append_plain (hsz:=hits) (show s8.heap.PlainList D aw.toArray from⟨nl,pD.1⟩) λ h9 N9 Pn=>?_;have I9:Inv (bq X scope cl tgs fr C fp s H) [] σ6 H8 {s8 with heap:=h9,toks:=s8.toks}:=
     (I8.ir (pins':=[]) λ p hp=>absurd hp (by simp)).turned (it:=D) (λ b o hb e=>Pn.extBut b o hb e) pD.2.1 Ib (.inr (A3 K_)) SK λ p hp=>absurd hp (by simp[bq])
    refine⟨m',hm,i+1,acc++[y],aw++[uy],H8,wk I9,T.keep _ _ _ BI λ b hb o e=>Pn.extBut b o (below b (Bi b hb)).2 (I8.pin (b,o) (i9 _ (i9 _ (de hb e)))).1,λ b hb=>?_,pD.2.1,?_,L6.append (.cons r8 .nil),w8⟩
    ·obtain⟨o,e,d⟩:=T.obj _ _ BI b hb;exact(I8.pin (b,o) (i9 _ (i9 _ (de hb e)))).2.1
    ·have e:(aw++[uy]).toArray=aw.toArray.push uy:=by simp
     rw[e];exact N9
 exact codeAny_compStart_list (loop _ rfl) (T.self _ 0 _ _ _ O5 (loop _ rfl))
theorem oG(B:iP X scope fr)(hc:X.calm=true)(hE:∀e s,X.xe e s->False)(hi:PI X tg iter wi) (hg:∀cl C fp s H,PG (bq X scope cl tgs fr C fp s H) tg g) (gk:gZ tgs.length g) (ht:∀cl C fp s H,Jl (bq X scope cl tgs fr C fp s H) ifs tt) (he:∀cl C fp s H,PE (bq X scope cl tgs fr C fp s H) elt te) (hs:∀x,foldedSetIterable iter X.env x=pure x:=by intro _;rfl):PE X (.ListComp elt [⟨tg,iter,ifs,0⟩] scope pos) (qg wi g tt te tgs.length fr):=by intro pins s σ H Q I h;rw[eval_ListComp];have w_:=di (scope:=scope) (env:=X.env) λ n hn=>I.ok.has n (B.has n hn);refine wpAny_comprehension_free (use:=none) rfl hs w_ B.kind B.names (B4 (hi pins s σ H _ I h) (λ xv s1 h1=>B4 h1 (λ L_ s2 h2=>?_) λ _ _ e=>e) λ _ _ e=>e);obtain⟨it,fp,tn,J,H2,rfl,I2,T,JF,f2,W,⟨m0,w0⟩,turn⟩:=h2;refine nP (R:=λ acc C=>compPost (model X.prog X.w) X.A X.xe none (EP X pins σ Q) acc C) (Qe:=λ acc H=>∀p,H p=none->Q (.ref p) (upd H p (.lst acc))) B hc hE hg gk ht he I2 T JF f2 W m0 w0 turn ?_;intro D C s1 H1 acc aw hD hC Ib I1 nC nD ⟨m,hn⟩ hl rv hz q;refine⟨m,hn,λ h' iR=>?_⟩;have fC:=I2.jk (b:=C) (H':=H1) hC nC;have fD:=I2.jk (b:=D) (H':=H1) hD nD;have I3:Inv X pins σ H1 {s1 with heap:=h',toks:=s1.toks}:=I1.turned (it:=C) (λ b o hb e=>iR.extBut b o hb e) nC fC.2.1 fC.2.2.2.1 fC.2.2.2.2.1 fC.2.2.2.2.2;obtain⟨k,e⟩:=hl.extBut iR.extBut Ib;exact⟨.ref D,upd H1 D (.lst acc),I3.mW nD ⟨hz,aw,k,rv,e⟩ fD.2.1 (A2 I2.sz hD) fD.2.2.2.2.1 fD.2.2.2.2.2,rfl,q D nD⟩
theorem sE{i:Nat}{y:Str}{py qh:Pos}(hN:X.N.Nodup)(hiy:X.N[i]?=some y)(hy:Loc X.env.scope y)(B:iP X scope fr)(hc:X.calm=true)(hE:∀e s,X.xe e s->False)(hi:PI X tg iter wi) (hg:∀cl C fp s H,PG (bq X scope cl tgs fr C fp s H) tg g) (gk:gZ tgs.length g) (ht:∀cl C fp s H,Jl (bq X scope cl tgs fr C fp s H) ifs tt) (he:∀cl C fp s H,PE (bq X scope cl tgs fr C fp s H) elt te) (hsw:swapsWith (.ListComp elt [⟨tg,iter,ifs,0⟩] scope pos) (some (.Name y py)) qh.line X.env=pure true:=by rfl) (hf:X.fn y=true\/X.env.scope.names.lookup y=some .local:=by first|exact .inl rfl|exact .inr rfl|assumption) (hs:∀x,foldedSetIterable iter X.env x=pure x:=by intro _;rfl):PS X (.Assign [.Name y py] (.ListComp elt [⟨tg,iter,ifs,0⟩] scope pos) qh) (BF (qg wi g tt te tgs.length fr) (ck i)):=by
 intro pins s σ H D0 I h;rw[exec_Assign_Name_used _ _ _ _ hsw];have w_:=di (scope:=scope) (env:=X.env) λ n hn=>I.ok.has n (B.has n hn);refine B0 (wpAny_standAt (B0 ?_));show wpAny _ X.A (do let _ <- comprehension (.ListComp elt [⟨tg,iter,ifs,0⟩] scope pos) scope X.env _ (newList []) false (eval iter X.env) (some (assign (.Name y py) X.env))) _ _ s;refine B0 (B4 (wpAny_comprehension_free (use:=some (assign (.Name y py) X.env)) (Q:=λ _ s'=>SP X pins D0 .next s') rfl hs w_ B.kind B.names
  (B4 (hi pins s σ H _ I h) (λ xv s1 h1=>B4 h1 (λ L_ s2 h2=>?_) λ _ _ e=>e) λ _ _ e=>e)) (λ _ s' hq=>B1 (B1 hq)) λ _ _ e=>e)
 obtain⟨it,fp,tn,J,H2,rfl,I2,T,JF,f2,W,⟨m0,w0⟩,turn⟩:=h2;refine nP (R:=λ acc C=>compPost (model X.prog X.w) X.A X.xe (some (assign (.Name y py) X.env)) (λ _ s'=>SP X pins D0 .next s') acc C) (Qe:=λ acc H=>∀p,H p=none->ck i (.ref p) σ (upd H p (.lst acc)) D0.nx) B hc hE hg gk ht he I2 T JF f2 W m0 w0 turn ?_;intro D C s1 H1 acc aw hD hC Ib I1 nC nD ⟨m,hn⟩ hl rv hz q;have fC:=I2.jk (b:=C) (H':=H1) hC nC;have fD:=I2.jk (b:=D) (H':=H1) hD nD;obtain⟨k,e⟩:=hl;have I3:Inv X pins σ (upd H1 D (.lst acc)) s1:=I1.mW nD ⟨hz,aw,k,rv,e⟩ fD.2.1 (A2 I2.sz hD) fD.2.2.2.2.1 fD.2.2.2.2.2;show wpAny _ X.A (assign (.Name y py) X.env (.ref D)) _ _ s1;refine wpAny_assign_Name (nh I3 hN hiy hy (show RelV (.ref D) (.ref D)from rfl) (λ s2 J2 ⟨a,DE,ha⟩=>?_) hf);have aC:C≠a:=by
  rcases ha with z|z
  ·rw[z];exact fC.2.1
  ·exact B7 (fC.2.2.2.2.1 _ _ z)
 refine⟨m,hn.sameBut DE aC,λ h' iR=>?_⟩;have Q3:(upd H1 D (.lst acc)) C=none:=by rw[aF (B7 Ib)];exact nC
 have I4:Inv X pins (σ.set i (some (.ref D))) (upd H1 D (.lst acc)) {s2 with heap:=h',toks:=s2.toks}:=J2.turned (it:=C) (λ b o hb e=>iR.extBut b o hb e) Q3 fC.2.1 fC.2.2.2.1 fC.2.2.2.2.1 fC.2.2.2.2.2;exact⟨_,_,I4,q D nD⟩
end
end L2
namespace L2
open PySem PySem.Spec PyProof.Rows
def tI(x:Str)(lo hi:Option Int):Str:=⟨((x.cps.toList.drop (HT.bZ x.length 0 lo)).take (HT.bZ x.length x.length hi - HT.bZ x.length 0 lo)).toArray⟩
theorem xT(lo hi:Option Int)(n:Nat):Builtin.Str.strSliceIndices lo hi 1 n=sliceRange ((HT.bZ n 0 lo:Nat):Int) ((HT.bZ n n hi:Nat):Int) 1:=by obtain⟨h1,h2,h3⟩:=ia lo hi n;rw[<- h1,<- h2];rfl
set_option tactic.hygienic true in
theorem v_(x:Str)(lo hi:Option Int):Txt.slice x lo hi=tI x lo hi:=by
 have e:((Builtin.Str.strSliceIndices lo hi 1 x.length).filterMap (x.cps[·]?)).toArray=(tI x lo hi).cps:=by rw[xT,sliceRange_one,pick_run];rfl
 unfold Txt.slice;split
 ·rename_i h;have hl:(Builtin.Str.strSliceIndices lo hi 1 x.length).length=x.length:=by simpa using h
  rw[xT,sliceRange_one,w6,n9]at hl;have b1:=HT.sk x.length 0 (A8 _) lo;have b2:=HT.sk x.length x.length (A6 _) hi;have hlen:x.cps.toList.length=x.length:=by simp[Str.length]
  unfold tI;by_cases h0:x.length=0
  ·have:x.cps.toList=[]:=i4.mp (by omega);rw[this];cases x with
   |mk c=>simp at this;subst this;simp
  ·have ea:HT.bZ x.length 0 lo=0:=by omega
   have eb:HT.bZ x.length x.length hi=x.length:=by omega
   rw[ea,eb,drop_zero,Nat.sub_zero,take_of_length_le (by omega)]
 ·exact B6 Str.mk e
section
variable {X:Cx}
def Nd:V->Option Int->Option Int->Hp->VK->Prop:=λ x lo hi H Q=>∃z,x=.str z/\z.length<=sizeLine/\Q (.str (tI z lo hi)) H
theorem sS{h:Heap}{sl:Addr}{vl vu:Value}{lo hi:Option Int}(hs:h.IsSliceOf sl vl vu .none)(pl:IsPart vl lo)(pu:IsPart vu hi):∃l u:Option (Int×Tok),h.IsSlice sl l u none/\l.map (·.1)=lo/\u.map (·.1)=hi:=by
 cases pl with
 |none=>
  cases pu with
  |none=>exact⟨none,none,hs,rfl,rfl⟩
  |int i t=>exact⟨none,some (i,t),hs,rfl,rfl⟩
 |int i t=>
  cases pu with
  |none=>exact⟨some (i,t),none,hs,rfl,rfl⟩
  |int j u=>exact⟨some (i,t),some (j,u),hs,rfl,rfl⟩
theorem Fd:vG X Nd:=by intro pins s σ H x v vl vu lo hi sl Q I rx hs pl pu h;obtain⟨z,rfl,hz,q⟩:=h;obtain⟨t,rfl⟩:=rx;obtain⟨l,u,IW,rfl,rfl⟩:=sS hs pl pu;refine⟨"str",_,PySem.F.slot_str_getitem.lookup,typeIs_str _ _ _,wpAny_getItem_str_slice (l:=l) (u:=u) (st:=none) IW rfl ?_⟩;rw[<- v_]at q;exact post_val_or_str ⟨A2 (Txt.slice_le z _ _) hz,λ t' k=>⟨.str (Txt.slice z (l.map (·.1)) (u.map (·.1))),H,I.tok k,⟨_,rfl⟩,q⟩⟩
def JT:R2:=λ x y H Q=>∃z n,x=.str z/\y=.int n/\MulOk z n/\Q (.str (Txt.mul z n)) H
theorem sH:eN X (binaryOp .Mult) JT:=by intro pins s σ H x y v u Q I rx ry h;obtain⟨z,n,rfl,rfl,aZ,q⟩:=h;obtain⟨t,rfl⟩:=rx;obtain⟨t',rfl⟩:=ry;exact SB.mul aZ λ t' k=>⟨.str (Txt.mul z n),H,I.tok k,⟨_,rfl⟩,q⟩
theorem rC(hc:X.calm=true):cQ X (.builtin "all") (λ xs H Q=>∃(p:Addr) (bs:List Bool),xs=[.ref p]/\eA X.K H p (bs.map V.bl)/\Q (.bl (bs.all id)) H):=by
 intro pins s σ H xs us Q I r h;obtain⟨p,bs,rfl,hq,q⟩:=h;obtain⟨u,rfl,r1⟩:=vals1 r;cases r1;obtain⟨aw,rv,pl,hz⟩:=I.list hq;refine call_all_walk (wpAny_pyIter_list pl.isList ?_);have fk:p≠s.heap.objs.size:=by obtain⟨o,n,e,_⟩:=pl;exact z9 (A0 e)
 have hlen:aw.length=bs.length:=by rw[<- rv.length,w6]
 refine⟨s.heap.objs.size,_,_,_,_,_,λ i=>(bs[i]?).getD false,rfl,Walks.list (A:=X.A.in1) (show X.A.in1.handled=none from I.ok.hd hc) s.heap.objs.size p fk aw.toArray,⟨⟨_,k4 _ rfl,rfl,rfl⟩,pl.isList.at λ o e=>i5 _ e⟩,?_,λ h' tk hk=>?_⟩
 ·intro i v s' Q' E' hP hQ;have PQ:aw[i]?=some v:=by simpa using hP
  have hi:i < bs.length:=by rw[<- hlen];exact(c6.mp PQ).1
  have hb:(bs.map V.bl)[i]?=some (V.bl bs[i]):=by simp[hi]
  obtain⟨u,hu,ru⟩:=rv.get hb;rw[PQ]at hu;cases hu;have e:v=Value.bool bs[i]:=ru;subst e;have:(bs[i]?).getD false=bs[i]:=by simp[hi]
  dsimp only at hQ;rw[this]at hQ;exact wpAny_truthy_bool hQ
 ·refine⟨.bl (bs.all id),H,I.kept (t':=tk) λ b o e=>hk b o (by simpa using z9 (A0 e)) (i5 _ e),?_,q⟩;show Value.bool _=Value.bool _;congr 1;rw[o7,hlen];rw[q8];simp only[List.all_eq_true,mem_range,id];constructor
  ·intro h b hb;obtain⟨i,hi,rfl⟩:=mem_iff_getElem.mp hb;have:=h i hi;simpa[hi]using this
  ·intro h i hi;simpa[hi]using h bs[i] (p8 hi)
end
def Jm(x:Str):It:=⟨λ i _=>i < x.cps.size,λ i H v H'=>H'=H/\∃c,x.cps[i]?=some c/\v=.str ⟨#[c]⟩,λ i _=>i=x.cps.size⟩
theorem qd{P:Program}{w:World}{K:C0}{tg:Expr}(it:Addr)(x:Str)(t:Tok)(ty:String)(hty:["enumerate","zip","dict_itemiterator","dict_reverseitemiterator","odict_iterator","itertools.zip_longest","itertools.pairwise"].contains ty=false) (W:∀A':Around,A'.handled=none->Walks P w A' it [it] [it] x.cps.size (SignAt x) (λ i h=>h.IsStrIter it ty x t i)) (self:∀(A:Around) (i:Nat) (s:Shared) (Q:Value->Shared->Prop) (E:Value->Shared->Prop),s.heap.IsStrIter it ty x t i->Q (.ref it) s->wpAny (model P w) A (pyIter (.ref it)) Q E s):Turn P w K tg (Jm x) [it] it (λ i h=>h.IsStrIter it ty x t i) where
 mem:=by simp
 obj:=λ i h st b hb=>by
  have e:b=it:=by simpa using hb
  subst e;obtain⟨o,e,c,d⟩:=st;exact⟨o,e,λ v z=>by rw[d]at z;cases z⟩
 keep:=λ i h h' st k=>by obtain⟨o,e,c,d⟩:=st;exact⟨o,k it (by simp) o e,c,d⟩
 item:=by intro X hP hw hK hc i pins s σ H E I hf st hg;subst hP hw hK;obtain⟨f0,f1,f2,f3,f4,f5⟩:=hf it (by simp);refine(W X.A (I.ok.hd hc)).item i s _ _ hg st λ v h' tk hv ue kk=>?_;obtain⟨c,u,hx,rfl⟩:=hv;have I1:Inv X pins σ H {s with heap:=h',toks:=tk}:=I.turned (λ b o hb e=>kk b o (by simpa using hb) e) f0 f1 f3 f4 f5;obtain⟨o,e,cc,d⟩:=id ue;exact⟨_,rfl,qV (s:={s with heap:=h',toks:=tk}) e cc d hty ⟨.str ⟨#[c]⟩,H,I1,⟨u,rfl⟩,⟨rfl,c,hx,rfl⟩,ue,λ b hb=>(hf b hb).1⟩⟩
 done:=by intro X hP hw hK hc i pins s σ H E I hf st hg;subst hP hw hK;obtain⟨f0,f1,f2,f3,f4,f5⟩:=hf it (by simp);have hg:i=x.cps.size:=hg;subst hg;exact(W X.A (I.ok.hd hc)).done s _ _ st λ h' tk kk=>⟨rfl,I.turned (λ b o hb e=>kk b o (by simpa using hb) e) f0 f1 f3 f4 f5⟩
 self:=self
end L2
namespace L2
open PySem PySem.Spec PyProof.Rows
section
variable {X:Cx}
theorem tR.imp {r r':R2}(h:tR X r)(k:∀x y H Q,r' x y H Q->r x y H Q):tR X r':=λ value slice pins s σ H x y v u Q I rx ry q=>h value slice pins s σ H x y v u Q I rx ry (k x y H Q q)
theorem vG.imp {r r':V->Option Int->Option Int->Hp->VK->Prop}(h:vG X r)(k:∀x lo hi H Q,r' x lo hi H Q->r x lo hi H Q):vG X r':=
 λ pins s σ H x v vl vu lo hi sl Q I rx hs pl pu q=>h pins s σ H x v vl vu lo hi sl Q I rx hs pl pu (k x lo hi H Q q)
def SX(K:C0):R2:=λ x y H Q=>match x,y with
 | .ref p,.int i=>∃xs v,(eA K H p xs\/fz K H p xs)/\gE xs i=some v/\Q v H
 | .str z,.int i=>z.length<=sizeLine/\∃c,gE z.cps.toList i=some c/\Q (.str ⟨#[c]⟩) H
 |_,_=>False
theorem aV:tR X (SX X.K):=HA.imp λ x y H Q q=>by
 cases x <;> cases y <;> first
  |exact False.elim q
  |(obtain⟨xs,v,h|h,e,q⟩:=q
    ·exact .inl ⟨_,xs,_,v,rfl,rfl,h,e,q⟩
    ·exact .inr (.inl ⟨_,xs,_,v,rfl,rfl,h,e,q⟩))
  |(obtain⟨hz,c,e,q⟩:=q
    exact .inr (.inr ⟨_,_,c,rfl,rfl,hz,e,q⟩))
def SW(K:C0):V->Option Int->Option Int->Hp->VK->Prop:=λ x lo hi H Q=>match x with
 | .str z=>z.length<=sizeLine/\Q (.str (tI z lo hi)) H
 | .ref a=>JR K (.ref a) lo hi H Q\/JQ K (.ref a) lo hi H Q
 |_=>False
theorem ib:vG X (SW X.K):=(Fd.or (BL.or Fc)).imp λ x lo hi H Q q=>by cases x <;> first|exact False.elim q|exact .inl ⟨_,rfl,q⟩|exact .inr q
end
end L2
namespace L2
open PySem PySem.Spec PyProof.Rows
structure bW(P:Program)(w:World)(K:C0)(mg:Str->Option Value)(base:Heap)(k:Nat)(x:Str)(ps:List Str)(sp:Sp):Prop where
 ex:∃(f:Addr) (fd:FuncData),cu P w K mg base fh k f fd ps sp/\mg x=some (.ref f)/\PySem.W.keepIn K (.ref f)=true/\Binds K fd ps []
theorem bW.of {P:Program}{w:World}{K:C0}{mg:Str->Option Value}{base:Heap}{k:Nat}{x qual:Str}{ps:List Str}{sp:Sp}{st:Stmt}{f:Addr}{fd:FuncData}(F:jH K x qual st f fd)(G:cu P w K mg base fh k f fd ps sp)(hm:mg x=some (.ref f))(b:Binds K fd ps []):bW P w K mg base k x ps sp:=⟨f,fd,G,hm,F.kp,b⟩
def tD(sp:Sp)(t:TA):TE:=λ σ H Q=>t σ H λ vs H1=>sp vs H1 Q E0
section
variable {X:Cx}{x:Str}{p pos:Pos}{e:Expr}{es:List Expr}{t:TA}{k j:Nat}{ps:List Str}{sp:Sp}
theorem GO(d:bW X.prog X.w X.K X.mg X.base k x ps sp)(hr:cB k X.A)(hg:Gl X x)(ha:PA X (e::es) t)(hdb:(x==("__debug__":Str))=false:=by decide)(he:starEach (e::es) X.env=(false,eval e X.env)::starEach es X.env:=by rfl) (hpl:(backTo pos (starEach es X.env)).any (·.1)=false:=by rfl):PE X (.Call (.Name x p) (e::es) [] pos) (tD sp t):=by
 obtain⟨f,fd,G,hm,kp,b⟩:=d.ex;intro pins s σ H Q I h;have h':Eh sp [] E0 t σ H Q:=by
  show t σ H λ vs H1=>sp (vs++[]) H1 Q E0;have e:(λ(vs:List V) (H1:Hp)=>sp (vs++[]) H1 Q E0)=λ vs H1=>sp vs H1 Q E0:=by funext vs H1;rw[q9]
  rw[e];exact h
 exact C9 (E:=E0) G hr hg hm kp b .nil Ki ha hdb he hpl pins s σ H Q I h'
end
def rD(X:Cx)(scope:Scope)(fr:List Nat):Bool:=
 (scope.kind==.function)&&(scope.names.all λ y=>(y.2 != .cell||scope.names.lookup y.1==some .cell)&&(y.2 != .local||scope.names.lookup y.1==some .local)&&(y.2 != .free||X.env.kindOf y.1==some .cell||X.env.kindOf y.1==some .free))&&
 (fr.all λ j=>decide (j < X.N.length)&&scope.names.lookup (X.N.getD j "")==some .free)
theorem cb{X:Cx}{scope:Scope}{fr:List Nat}(h:rD X scope fr=true):iP X scope fr:=by
 unfold rD at h;rw[p7,p7]at h;obtain⟨⟨h1,h2⟩,h3⟩:=h;rw[List.all_eq_true]at h2 h3;refine⟨by simpa using h1,λ y hy hl=>?_,λ y hy hl=>?_,λ n hn=>?_,λ j hj=>?_⟩
 ·have:=h2 y hy;simp only[p7]at this;have:=this.1.1;rw[hl]at this;simpa using this
 ·have:=h2 y hy;simp only[p7]at this;have:=this.1.2;rw[hl]at this;simpa using this
 ·have:=h2 _ hn;simp only[p7]at this;have:=this.2;simpa using this
 ·have:=h3 j hj;rw[p7]at this;exact⟨by simpa using this.1,by simpa using this.2⟩
section
variable {X:Cx}{tg:Expr}
def NN(K:C0)(tl:TE):TI:=λ σ H R=>tl σ H λ x H1=>match x with
 | .str z=>R (Jm z) H1
 | .ref a=>(∃xs,eA K H1 a xs/\R (Mx K a) H1)\/(∃xs,fz K H1 a xs/\R (OY K a) H1)
 |_=>False
theorem GD{l:Expr}{tl:TE}(hl:PE X l tl):PI X tg l (NN X.K tl):=by
 intro pins s σ H R I h;have rM:PE X l (λ σ' H' Q=>Q=Q/\tl σ' H' Q):=λ pins s σ H Q I q=>hl pins s σ H Q I q.2;refine cG (hl pins s σ H _ I h) λ v s1 ⟨x,H1,I1,r1,q1⟩=>?_;have fp:∀b∈[s1.heap.objs.size],iO X pins H1 b:=λ b hb=>by
  have e:b=s1.heap.objs.size:=by simpa using hb
  subst e;exact I1.jk (A6 _) (I1.aZ.fresh (A6 _))
 cases x with
 |str z=>
  have q:R (Jm z) H1:=q1;obtain⟨t,rfl⟩:=r1;cases ha:z.cps.all (· < 128)
  ·exact wpAny_pyIter_wide ha ⟨s1.heap.objs.size,[s1.heap.objs.size],_,Jm z,H1,rfl,I1.kept (t':=s1.toks) λ b o e=>i5 _ e,qd _ z t "str_iterator" (by decide) (λ A' hA=>Walks.strWide hA _ z t) (λ _ _ _ _ _ st h=>wpAny_pyIter_striter_wide st h),⟨_,k4 _ rfl,rfl,rfl⟩,fp,q⟩
  ·exact wpAny_pyIter_ascii ha ⟨s1.heap.objs.size,[s1.heap.objs.size],_,Jm z,H1,rfl,I1.kept (t':=s1.toks) λ b o e=>i5 _ e,qd _ z t "str_ascii_iterator" (by decide) (λ A' hA=>Walks.strAscii hA _ z t) (λ _ _ _ _ _ st h=>wpAny_pyIter_striter_ascii st h),⟨_,k4 _ rfl,rfl,rfl⟩,fp,q⟩
 |ref a=>
  cases(show v=Value.ref a from r1);rcases q1 with⟨xs,hq,q⟩|⟨xs,hq,q⟩
  ·obtain⟨aw,rv,p,hz⟩:=I1.list hq;exact wpAny_pyIter_list p.isList ⟨s1.heap.objs.size,[s1.heap.objs.size],_,_,H1,rfl,I1.kept (t':=s1.toks) λ b o e=>i5 _ e,vT a _,⟨_,k4 _ rfl,rfl,rfl⟩,fp,q⟩
  ·obtain⟨aw,rv,p,hz⟩:=I1.tuple hq;exact wpAny_pyIter_tuple (show s1.heap.IsTuple a aw.toArray from p) ⟨s1.heap.objs.size,[s1.heap.objs.size],_,_,H1,rfl,I1.kept (t':=s1.toks) λ b o e=>i5 _ e,rX a _,⟨_,k4 _ rfl,rfl,rfl⟩,fp,q⟩
 |_=>exact False.elim q1
end
end L2
namespace L2
open PySem PySem.Spec PyProof.Rows
inductive IK where
 |i (n:Int)
 |t (ks:List IK)
noncomputable instance:DecidableEq IK:=λ a b=>Classical.propDecidable (a=b)
mutual
def IK.dep:IK->Nat
 | .i _=>0
 | .t ks=>IK.lX ks+1
def IK.lX:List IK->Nat
 |[]=>0
 |k::ks=>max k.dep (IK.lX ks)
end
mutual
def zX:IK->Int
 | .i n=>hashInt n
 | .t ks=>reduceHash (Builtin.Tuple.tupleHashOf (oT ks))
def oT:List IK->List Int
 |[]=>[]
 |k::ks=>zX k::oT ks
end
mutual
def xA:IK->Nat
 | .i _=>1
 | .t ks=>fW ks+1
def fW:List IK->Nat
 |[]=>0
 |k::ks=>xA k+fW ks
end
mutual
def cT(h:Heap):IK->Value->Prop
 | .i n,v=>∃t,v=.int n t
 | .t ks,v=>∃(a:Addr) (o:Obj) (aw:List Value) (n:Nat),v=.ref a/\h.get? a=some o/\o.cls=.type "tuple"/\o.data=.seq aw.toArray n/\b_ h ks aw
def b_(h:Heap):List IK->List Value->Prop
 |[],vs=>vs=[]
 |k::ks,vs=>∃v r,vs=v::r/\cT h k v/\b_ h ks r
end
mutual
def nF:IK->PyData
 | .i n=>.int n
 | .t ks=>.tuple (fV ks)
def fV:List IK->List PyData
 |[]=>[]
 |k::ks=>nF k::fV ks
end
theorem qQ:∀ks:List IK,oT ks=ks.map zX
 |[]=>by unfold oT;rfl
 |k::ks=>by unfold oT;rw[qQ ks];rfl
theorem qP:∀(ks ls:List IK),fW (ks++ls)=fW ks+fW ls
 |[],ls=>by rw[nil_append];unfold fW;split <;> omega
 |k::ks,ls=>by rw[cons_append];have:=qP ks ls;show xA k+fW (ks++ls)=xA k+fW ks+fW ls;omega
theorem zV(k:IK):fW [k]=xA k:=by show xA k+fW []=xA k;unfold fW;omega
theorem zW:fW []=0:=by unfold fW;rfl
theorem iH:∀{ks:List IK} {k:IK},k∈ks->k.dep<=IK.lX ks
 |k0::ks,k,h=>by
  show k.dep<=max k0.dep (IK.lX ks);rcases y8.mp h with rfl|h
  ·exact Nat.le_max_left _ _
  ·exact A2 (iH h) (Nat.le_max_right _ _)
section
variable {prog:Program}{w:World}
theorem DC:∀(n:Nat) (k:IK),k.dep<=n->∀{A:Around} {E:Value->Shared->Prop} {s:Shared} {v:Value} {Q:Int->Shared->Prop},A.units+k.dep < cLine->cT s.heap k v->Q (zX k) {s with toks:=s.toks+xA k}->wpAny (model prog w) A (pyHash v) Q E s:=by
 intro n
 induction n with
 |zero=>
  intro k hk A E s v Q hu hi h;cases k with
  |i m=>unfold cT at hi;obtain⟨t,rfl⟩:=hi;unfold zX xA at h;exact wpAny_pyHash_int h
  |t ks=>unfold IK.dep at hk;omega
 |succ n ih=>
  intro k hk A E s v Q hu hi h;cases k with
  |i m=>unfold cT at hi;obtain⟨t,rfl⟩:=hi;unfold zX xA at h;exact wpAny_pyHash_int h
  |t ks=>
   unfold cT at hi;obtain⟨a,o,aw,m,rfl,ho,hc,hd,hits⟩:=hi;have iD:IK.lX ks<=n:=by unfold IK.dep at hk;omega
   have S5:A.units+(IK.lX ks+1) < cLine:=by unfold IK.dep at hu;exact hu
   have hT:s.TypeIs (.ref a) "tuple":=⟨o,ho,hc⟩;unfold pyHash;(first|unfold pyHashByItsType|skip);(first|refine B0 (wpAny_cRoomFor_or (.inr (show A.units < cLine by omega)) ?_)|skip);refine B0 (x6 hT F.slot_tuple_hash.lookup ?_);show wpAny _ _ (if(some (Value.builtin "tuple.__hash__")==some Value.none)=true then _ else _) Q E s;rw[B9 (by rw[beq_builtin_none];exact k8)];refine B0 (x6 hT F.slot_tuple_hash.lookup ?_);show wpAny _ _ (callSpecialIfBoundUnlessNone? (.ref a) "__hash__" _ >>= _) Q E s;refine B0 (wpAny_callSpecialIfBoundUnlessNone?_slot hT F.slot_tuple_hash (p6 F.slot_tuple_hash hT F.entry_tuple_hash ?_ (F.args_tuple_hash_1 _)));show wpAny _ _ (Builtin.Tuple.tupleItemsOf (.ref a) >>= _) _ _ s;refine B0 (wpAny_tupleItemsOf ho hd (B0 ?_));rw[<- Array.forIn_toList];refine wpAny_forIn_list _ (λ rest (b:Array Int) s'=>∃done left,ks=done++left/\b_ s.heap left rest/\b.toList=done.map zX/\s'={s with toks:=s.toks+fW done}) _ ?_ ?_ _ _ ⟨[],ks,rfl,hits,rfl,by rw[zW];rfl⟩
   ·rintro x rest b s' ⟨done,left,rfl,hl,hb,rfl⟩;cases left with
    |nil=>unfold b_ at hl;cases hl
    |cons k1 left=>
     unfold b_ at hl;obtain⟨v,r,e,h1,h2⟩:=hl;cases e;have hm:=iH (ks:=done++k1::left) (k:=k1) (by simp);refine B0 (ih k1 (by omega) (A:=A.in1) (show A.units+1+_ < cLine by omega) h1 ?_);have fin:∃d2 l2,done++k1::left=d2++l2/\b_ s.heap l2 rest/\(b.push (zX k1)).toList=d2.map zX/\({s with toks:=s.toks+fW done+xA k1}:Shared)={s with toks:=s.toks+fW d2}:=
      ⟨done++[k1],left,by simp,h2,by simp[hb],by rw[qP,zV,Nat.add_assoc]⟩
     first|exact B1 fin|exact B0 (B1 (B1 fin))
   ·rintro b s' ⟨done,left,rfl,hl,hb,rfl⟩;cases left with
    |cons k1 left=>unfold b_ at hl;obtain⟨v,r,e,_⟩:=hl;cases e
    |nil=>
     rw[q9]at h;show wpAny _ _ (retInt (Builtin.Tuple.tupleHashOf b.toList)) _ _ _;rw[hb,<- qQ];refine wpAny_ret_mkInt ?_;show wpAny _ _ (if(decide (-(2:Int)^63<=Builtin.Tuple.tupleHashOf (oT done))&&decide (Builtin.Tuple.tupleHashOf (oT done) < 2^63))=true then _ else _) Q E _;unfold zX xA reduceHash at h;by_cases hr:(decide (-(2:Int)^63<=Builtin.Tuple.tupleHashOf (oT done))&&decide (Builtin.Tuple.tupleHashOf (oT done) < 2^63))=true
     ·rw[B8 hr]at h ⊢;exact B1 (by simpa[Nat.add_assoc]using h)
     ·rw[B9 hr]at h ⊢;exact B0 (B2 (B1 (by simpa[Nat.add_assoc]using h)))
end
end L2
namespace L2
open PySem PySem.Spec PyProof.Rows
mutual
theorem lQ{h:Heap}:∀(k:IK) {v:Value},cT h k v->∃as,Reads h v (nF k) as
 | .i n,v,x=>by unfold cT at x;obtain⟨t,rfl⟩:=x;unfold nF;exact⟨_,Reads.int n t⟩
 | .t ks,v,x=>by unfold cT at x;obtain⟨a,o,aw,n,rfl,ho,hc,hd,q⟩:=x;obtain⟨as,r⟩:=nE ks q;unfold nF;exact⟨_,reads_tuple_at ho hc hd (by simpa using r)⟩
theorem nE{h:Heap}:∀(ks:List IK) {vs:List Value},b_ h ks vs->∃as,ReadsAll h vs (fV ks) as
 |[],vs,x=>by unfold b_ at x;subst x;unfold fV;exact⟨_,ReadsAll.nil⟩
 |k::ks,vs,x=>by unfold b_ at x;obtain⟨v,r,rfl,h1,h2⟩:=x;obtain⟨as,a⟩:=lQ k h1;obtain⟨bs,b⟩:=nE ks h2;unfold fV;exact⟨_,ReadsAll.cons a b⟩
end
mutual
theorem oR:∀k:IK,(nF k).canLay0=true
 | .i n=>by unfold nF;simp[PyData.canLay0]
 | .t ks=>by unfold nF;simp only[PyData.canLay0];exact qN ks
theorem qN:∀ks:List IK,PyData.canLayAll0 (fV ks)=true
 |[]=>by unfold fV;simp[PyData.canLayAll0]
 |k::ks=>by unfold fV;simp only[PyData.canLayAll0];rw[oR k,qN ks];rfl
end
mutual
theorem oS:∀k:IK,(nF k).depth=k.dep
 | .i n=>by unfold nF IK.dep;simp[PyData.depth]
 | .t ks=>by unfold nF IK.dep;simp only[PyData.depth];rw[qO ks]
theorem qO:∀ks:List IK,PyData.depthAll (fV ks)=IK.lX ks
 |[]=>by unfold fV IK.lX;simp[PyData.depthAll]
 |k::ks=>by unfold fV IK.lX;simp only[PyData.depthAll];rw[oS k,qO ks]
end
mutual
theorem zU:∀a b:IK,PyData.eqv (nF a) (nF b)=true↔a=b
 | .i n,.i m=>by unfold nF;simp[PyData.eqv]
 | .i n,.t ks=>by unfold nF;simp[PyData.eqv]
 | .t ks,.i n=>by unfold nF;simp[PyData.eqv]
 | .t ks,.t ls=>by unfold nF;simp only[PyData.eqv,IK.t.injEq];exact uS ks ls
theorem uS:∀as bs:List IK,PyData.eqvAll (fV as) (fV bs)=true↔as=bs
 |[],[]=>by unfold fV;simp[PyData.eqvAll]
 |[],b::bs=>by unfold fV;simp[PyData.eqvAll]
 |a::as,[]=>by unfold fV;simp[PyData.eqvAll]
 |a::as,b::bs=>by unfold fV;simp only[PyData.eqvAll,p7,List.cons.injEq];rw[zU a b,uS as bs]
end
mutual
theorem zT{h:Heap}:∀(x y:IK) {v:Value},cT h x v->cT h y v->x=y
 | .i n,.i m,v,a,b=>by unfold cT at a b;obtain⟨t,rfl⟩:=a;obtain⟨u,e⟩:=b;cases e;rfl
 | .i n,.t ks,v,a,b=>by unfold cT at a b;obtain⟨t,rfl⟩:=a;obtain⟨_,_,_,_,e,_⟩:=b;cases e
 | .t ks,.i n,v,a,b=>by unfold cT at a b;obtain⟨t,rfl⟩:=b;obtain⟨_,_,_,_,e,_⟩:=a;cases e
 | .t ks,.t ls,v,a,b=>by unfold cT at a b;obtain⟨a1,o1,i1,n1,rfl,g1,_,d1,q1⟩:=a;obtain⟨a2,o2,i2,n2,e,g2,_,d2,q2⟩:=b;cases e;rw[g1]at g2;cases g2;rw[d1]at d2;cases d2;rw[uR ks ls q1 q2]
theorem uR{h:Heap}:∀(xs ys:List IK) {vs:List Value},b_ h xs vs->b_ h ys vs->xs=ys
 |[],[],vs,_,_=>rfl
 |[],y::ys,vs,a,b=>by unfold b_ at a b;subst a;obtain⟨_,_,e,_⟩:=b;cases e
 |x::xs,[],vs,a,b=>by unfold b_ at a b;subst b;obtain⟨_,_,e,_⟩:=a;cases e
 |x::xs,y::ys,vs,a,b=>by unfold b_ at a b;obtain⟨v,r,rfl,a1,a2⟩:=a;obtain⟨v2,r2,e,b1,b2⟩:=b;cases e;rw[zT x y a1 b1,uR xs ys a2 b2]
end
theorem HE{h:Heap}{k:IK}{v:Value}(x:cT h k v){d:Addr}{o:Obj}{es:Array DictEntry}{ep:Nat}(ho:h.get? d=some o)(hd:o.data=.dict es ep){h':Heap}(hs:Heap.SameBut d h h'):cT h' k v:=by
 have gen:∀(n:Nat) (k:IK),k.dep<=n->∀v,cT h k v->cT h' k v:=by
  intro n
  induction n with
  |zero=>
   intro k hk v x;cases k with
   |i m=>unfold cT at x ⊢;exact x
   |t ks=>unfold IK.dep at hk;omega
  |succ n ih=>
   intro k hk v x;cases k with
   |i m=>unfold cT at x ⊢;exact x
   |t ks=>
    unfold cT at x ⊢;obtain⟨a,o',aw,m,e,wY,hc,mw,r⟩:=x;have fk:a≠d:=λ z=>by subst z;rw[ho]at wY;cases wY;rw[hd]at mw;cases mw
    refine⟨a,o',aw,m,e,(hs.2 a fk).trans wY,hc,mw,?_⟩;have iD:IK.lX ks<=n:=by unfold IK.dep at hk;omega
    have all:∀(ls:List IK) (vs:List Value),(∀l∈ls,l.dep<=n)->b_ h ls vs->b_ h' ls vs:=by
     intro ls
     induction ls with
     |nil=>intro vs _ y;unfold b_ at y ⊢;exact y
     |cons l ls Ra=>intro vs hl y;unfold b_ at y ⊢;obtain⟨v,r,e,h1,h2⟩:=y;exact⟨v,r,e,ih l (hl l (k7 ..)) v h1,Ra r (λ z hz=>hl z (j3 _ hz)) h2⟩
    exact all ks aw (λ l hl=>A2 (iH hl) iD) r
 exact gen k.dep k (A6 _) v x
section
variable {prog:Program}{w:World}
theorem zS:∀(n:Nat) (k:IK),k.dep<=n->∀{A:Around} {E:Value->Shared->Prop} {s:Shared} {v:Value} {Q:Bool->Shared->Prop},cT s.heap k v->Q true s->wpAny (model prog w) A (eqIsQuiet n v) Q E s:=by
 intro n
 induction n with
 |zero=>
  intro k hk A E s v Q hi h;cases k with
  |i m=>unfold cT at hi;obtain⟨t,rfl⟩:=hi;rw[eqIsQuiet_byValue _ rfl];exact B1 h
  |t ks=>unfold IK.dep at hk;omega
 |succ n ih=>
  intro k hk A E s v Q hi h;cases k with
  |i m=>unfold cT at hi;obtain⟨t,rfl⟩:=hi;rw[eqIsQuiet_byValue _ rfl];exact B1 h
  |t ks=>
   unfold cT at hi;obtain⟨a,o,aw,m,rfl,ho,hc,hd,hits⟩:=hi;have iD:IK.lX ks<=n:=by unfold IK.dep at hk;omega
   have hT:s.TypeIs (.ref a) "tuple":=⟨o,ho,hc⟩;unfold eqIsQuiet;refine B0 (x6 hT F.slot_tuple_eq.lookup ?_);show wpAny _ _ (isInstance (.ref a) (.type "tuple") >>= _) _ _ s;refine B0 (wpAny_isInstance hT isSubtype_tuple_tuple ?_);simp only[Bool.not_true,l0,B5];refine B0 (x9 ho hd (B0 ?_));show wpAny _ _ (forIn aw.toArray _ _) _ _ s;rw[<- Array.forIn_toList];refine wpAny_forIn_list _ (λ rest r s'=>r.1=none/\s'=s/\∃left,(∀l∈left,l∈ks)/\b_ s.heap left rest) _ ?_ ?_ _ _ ⟨rfl,rfl,ks,λ l hl=>hl,hits⟩
   ·rintro x rest r s' ⟨hr,rfl,left,DD,hl⟩;cases left with
    |nil=>unfold b_ at hl;cases hl
    |cons k1 left=>unfold b_ at hl;obtain⟨v,r',e,h1,h2⟩:=hl;cases e;refine B0 (ih k1 (A2 (iH (DD k1 (k7 ..))) iD) h1 ?_);simp only[Bool.not_true,l0,B5];exact B1 ⟨rfl,rfl,left,λ l hl=>DD l (j3 _ hl),h2⟩
   ·rintro⟨r1,r2⟩ s' ⟨hr,rfl,_⟩;simp only at hr;subst hr;exact B1 h
def h_(prog:Program)(w:World):HeapKind prog w IK where
 is:=λ h k a=>k.dep<=5/\cT h k (.ref a)
 hash:=zX
 draws:=xA
 room:=λ A=>A.units+8 < cLine
 inj:=λ hx hy=>zT _ _ hx.2 hy.2
 keeps:=λ x ho hd hs=>⟨x.1,HE x.2 ho hd hs⟩
 pyHash:=λ hu hk h=>DC 5 _ hk.1 (by have:=hk.1;omega) hk.2 h
 eqBool:=λ{A E s x y a b Q} hu hx hy h=>by
  obtain⟨as,ra⟩:=lQ x hx.2;obtain⟨bs,rb⟩:=lQ y hy.2;refine SeqAt.eqAt_reads (nF x) (nF y) A s _ _ _ _ ra rb (oR x) (oR y) ?_ prog w E Q ?_
  ·rw[oS,oS];have:=hx.1;have:=Nat.min_le_left x.dep y.dep;omega
  ·have e:PyData.eqv (nF x) (nF y)=decide (x=y):=by rw[q8,decide_eq_true_eq];exact zU x y
   rw[e];exact h
 quiet:=λ hk h=>zS 8 _ (A2 hk.1 (by decide)) hk.2 h
end
end L2
namespace L2
open PySem PySem.Spec PyProof.Rows
section
variable {κ:Type}[DecidableEq κ]
def eR(kvs:List (κ×V))(k:κ):Option V:=(kvs.find? λ kv=>decide (kv.1=k)).map (·.2)
def putK(kvs:List (κ×V))(k:κ)(v:V):List (κ×V):=
 if(kvs.any λ kv=>decide (kv.1=k))=true then kvs.map (λ kv=>if kv.1=k then(kv.1,v)else kv)else kvs++[(k,v)]
theorem kR{p:κ×V}{r:List (κ×V)}{k:κ}(e:p.1=k):eR (p::r) k=some p.2:=by simp[eR,r6,e]
theorem kS{p:κ×V}{r:List (κ×V)}{k:κ}(e:¬p.1=k):eR (p::r) k=eR r k:=by simp[eR,r6,e]
theorem kU(k:κ):∀kvs:List (κ×V),(kvs.any λ kv=>decide (kv.1=k))=(eR kvs k).isSome
 |[]=>rfl
 |p::r=>by
  rw[any_cons];by_cases e:p.1=k
  ·simp only[kR e,x8 e,Bool.true_or,Option.isSome_some]
  ·rw[kS e,r9 e,Bool.false_or];exact kU k r
theorem d_(kvs:List (κ×V))(k:κ)(v:V):(putK kvs k v).length<=kvs.length+1:=by
 unfold putK;split
 ·rw[w6];omega
 ·rw[k9,p5,length_nil];omega
theorem iM.dO {o:Option V}{u:Option Value}(r:iM o u):o.isSome=u.isSome:=by
 cases o with
 |none=>cases u with
  |none=>rfl
  |some _=>exact(show False from r).elim
 |some _=>cases u with
  |none=>exact(show False from r).elim
  |some _=>rfl
theorem KV.val {kvs:List (κ×V)}{vs:List (κ×Value)}(r:KV kvs vs)(k:κ):iM (eR kvs k) (valueAt vs k):=by
 unfold KV at r
 induction r with
 |nil=>exact True.intro
 |@cons p q ps qs h t ih=>
  obtain⟨h1,h2⟩:=h;by_cases e:p.1=k
  ·have e':q.1=k:=h1.symm.trans e;have b:valueAt (q::qs) k=some q.2:=by simp[valueAt,r6,e']
   rw[kR e,b];exact h2
  ·have e':¬q.1=k:=λ z=>e (h1.trans z);have b:valueAt (q::qs) k=valueAt qs k:=by simp[valueAt,r6,e']
   rw[kS e,b];exact ih
theorem KV.any {kvs:List (κ×V)}{vs:List (κ×Value)}(r:KV kvs vs)(k:κ):(kvs.any λ kv=>decide (kv.1=k))=vs.any λ kv=>decide (kv.1=k):=by
 unfold KV at r
 induction r with
 |nil=>rfl
 |cons h t ih=>rw[any_cons,any_cons,ih,h.1]
theorem KV.yo {kvs:List (κ×V)}{vs:List (κ×Value)}(r:KV kvs vs)(k:κ){y:V}{u:Value}(ry:RelV y u):KV (kvs.map λ kv=>if kv.1=k then(kv.1,y)else kv) (vs.map λ kv=>if kv.1=k then(kv.1,u)else kv):=by
 unfold KV at r ⊢
 induction r with
 |nil=>exact .nil
 |@cons p q ps qs h t ih=>
  rw[y7,y7];refine .cons ?_ ih;obtain⟨h1,h2⟩:=h;by_cases e:p.1=k
  ·rw[B8 e,B8 (h1.symm.trans e)];exact⟨h1,ry⟩
  ·rw[B9 e,B9 (λ z=>e (h1.trans z))];exact⟨h1,h2⟩
theorem KV.put {kvs:List (κ×V)}{vs:List (κ×Value)}(r:KV kvs vs)(k:κ){y:V}{u:Value}(ry:RelV y u):KV (putK kvs k y) (stored vs k u):=by
 unfold putK stored;rw[r.any k];by_cases e:(vs.any λ kv=>decide (kv.1=k))=true
 ·rw[B8 e,B8 e];exact r.yo k ry
 ·rw[B9 e,B9 e];exact Paired.snoc r ⟨rfl,ry⟩
theorem KV.length {kvs:List (κ×V)}{vs:List (κ×Value)}(r:KV kvs vs):kvs.length=vs.length:=y4 r
end
theorem lO{P:Program}{w:World}{k:Key}{u:Value}(r:RelV (kV k) u):(cj P w).is k u=true:=by
 cases k with
 |inl i=>obtain⟨t,e⟩:=(show ∃t,u=Value.int i t from r);subst e;exact qH P w i t
 |inr x=>obtain⟨t,e⟩:=(show ∃t,u=Value.str x t from r);subst e;exact qG P w x t
theorem nB{P:Program}{w:World}:∀{ks:List Key} {us:List Value},Vals (ks.map kV) us->ItemsAre (cj P w) ks us
 |[],_,r=>by rw[map_nil]at r;cases r;exact .nil
 |k::ks,_,r=>by
  rw[y7]at r;cases r with
  |cons h t=>exact .cons (lO h) (nB t)
abbrev KT(H:Hp):List (List Key×V)->List (List Key×Addr×Value)->Prop:=Paired λ p q=>p.1=q.1/\H q.2.1=some (.tup (p.1.map kV))/\RelV p.2 q.2.2
theorem KT.val {H:Hp}{kvs:List (List Key×V)}{xs:List (List Key×Addr×Value)}(r:KT H kvs xs)(k:List Key):iM (eR kvs k) ((atKey xs k).map (·.2)):=by
 induction r with
 |nil=>exact True.intro
 |@cons p q ps qs h t ih=>
  obtain⟨h1,_,h2⟩:=h;by_cases e:p.1=k
  ·have e':q.1=k:=h1.symm.trans e;have b:atKey (q::qs) k=some q.2:=by simp[atKey,r6,e']
   rw[kR e,b];exact h2
  ·have e':¬q.1=k:=λ z=>e (h1.trans z);have b:atKey (q::qs) k=atKey qs k:=by simp[atKey,r6,e']
   rw[kS e,b];exact ih
theorem KT.yo {H:Hp}{kvs:List (List Key×V)}{xs:List (List Key×Addr×Value)}(r:KT H kvs xs)(k:List Key){y:V}{u:Value}(ry:RelV y u):KT H (kvs.map λ kv=>if kv.1=k then(kv.1,y)else kv) (xs.map (putAt k u)):=by
 induction r with
 |nil=>exact .nil
 |@cons p q ps qs h t ih=>
  rw[y7,y7];refine .cons ?_ ih;obtain⟨h1,h2,h3⟩:=h;unfold putAt;by_cases e:p.1=k
  ·rw[B8 e,B8 (h1.symm.trans e)];exact⟨h1,h2,ry⟩
  ·rw[B9 e,B9 (λ z=>e (h1.trans z))];exact⟨h1,h2,h3⟩
theorem KT.put {H:Hp}{kvs:List (List Key×V)}{xs:List (List Key×Addr×Value)}(r:KT H kvs xs)(k:List Key){b:Addr}{y:V}{u:Value}(hb:H b=some (.tup (k.map kV)))(ry:RelV y u):KT H (putK kvs k y) (storedH xs k b u):=by
 have e:(kvs.any λ kv=>decide (kv.1=k))=(atKey xs k).isSome:=by rw[kU,(r.val k).dO,o6]
 unfold putK storedH;rw[e];by_cases q:(atKey xs k).isSome=true
 ·rw[B8 q,B8 q];exact r.yo k ry
 ·rw[B9 q,B9 q];exact Paired.snoc r ⟨rfl,hb,ry⟩
theorem KT.keeps {H H':Hp}{kvs:List (List Key×V)}{xs:List (List Key×Addr×Value)}(r:KT H kvs xs)(ht:∀b ys,H b=some (.tup ys)->H' b=some (.tup ys)):KT H' kvs xs:=
 Paired.qI r λ _ _ z=>⟨z.1,ht _ _ z.2.1,z.2.2⟩
section
variable {P:Program}{w:World}{H:Hp}{h:Heap}{a:Addr}
theorem Em{u:HO}(ok:fg P w H h)(e:Rd H a u):bp P w H h a u:=e.ok ok
theorem nO{kvs:List (Key×V)}(ok:fg P w H h)(e:Rd H a (.dK kvs)):kvs.length<=sizeLine/\(a==sysModules)=false/\∃vs,KV kvs vs/\h.DictOf (cj P w) a vs:=
 show bp P w H h a (.dK kvs)from Em ok e
theorem va{kvs:List (Key×V)}(ok:fg P w H h)(e:H a=some (.dK kvs)):kvs.length<=sizeLine/\(a==sysModules)=false/\∃vs,KV kvs vs/\h.DictOf (cj P w) a vs:=nO ok (.inl e)
theorem lM{ks:List Key}(ok:fg P w H h)(e:H a=some (.tup (ks.map kV))):(tupleKind (cj P w)).is h ks a:=by obtain⟨_,aw,r,o,h1,h2,n,h3⟩:=(show bp P w H h a (.tup (ks.map kV))from ok a _ e);exact⟨o,aw.toArray,n,h1,h2,h3,by simpa using nB r⟩
theorem qY{kvs:List (List Key×V)}(ok:fg P w H h)(e:Rd H a (.dT kvs)):kvs.length<=sizeLine/\(a==sysModules)=false/\
  ∃xs,KT H kvs xs/\h.DictOfH (tupleKind (cj P w)) a xs:=by
 obtain⟨z,y,xs,r,o,es,ep,h1,h2,h3,h4,h5⟩:=(show bp P w H h a (.dT kvs)from Em ok e);refine⟨z,y,xs,r,o,es,ep,h1,h2,h3,h4,λ x hx=>?_,h5⟩;have all:∀{l:List (List Key×V)} {m:List (List Key×Addr×Value)},KT H l m->∀x∈m,(tupleKind (cj P w)).is h x.1 x.2.1:=by
  intro l m q
  induction q with
  |nil=>intro x hx;exact nomatch hx
  |@cons p q ps qs hq t ih=>
   intro x hx;rcases y8.mp hx with e|hx
   ·subst e;exact lM ok (by rw[<- hq.1];exact hq.2.1)
   ·exact ih x hx
 exact all r x hx
theorem Ld{kvs:List (List Key×V)}(ok:fg P w H h)(e:H a=some (.dT kvs)):kvs.length<=sizeLine/\(a==sysModules)=false/\
  ∃xs,KT H kvs xs/\h.DictOfH (tupleKind (cj P w)) a xs:=qY ok (.inl e)
end
def mQ(H:Hp)(a:Addr)(y:V)(r:Option V):Prop:=
 (∃kvs k,Rd H a (.dK kvs)/\y=kV k/\r=eR kvs k)\/∃kvs k b,Rd H a (.dT kvs)/\y=.ref b/\H b=some (.tup (k.map kV))/\r=eR kvs k
def A_(H:Hp)(a:Addr)(y v:V)(H':Hp):Prop:=
 (∃kvs k,H a=some (.dK kvs)/\y=kV k/\kvs.length < sizeLine/\H'=upd H a (.dK (putK kvs k v)))\/
 ∃kvs k b,H a=some (.dT kvs)/\y=.ref b/\H b=some (.tup (k.map kV))/\kvs.length < sizeLine/\H'=upd H a (.dT (putK kvs k v))
theorem mQ.k {H:Hp}{a:Addr}{kvs:List (Key×V)}{k:Key}(e:H a=some (.dK kvs)):mQ H a (kV k) (eR kvs k):=.inl ⟨kvs,k,.inl e,rfl,rfl⟩
theorem A_.k {H:Hp}{a:Addr}{kvs:List (Key×V)}{k:Key}{v:V}(e:H a=some (.dK kvs))(hl:kvs.length < sizeLine):A_ H a (kV k) v (upd H a (.dK (putK kvs k v))):=.inl ⟨kvs,k,e,rfl,hl,rfl⟩
section
variable {X:Cx}{pins:List (Addr×Obj)}{σ:St}{H:Hp}{s:Shared}{a:Addr}{y v:V}{u r:Value}{o:Option V}{A:Around}{E:Value->Shared->Prop}
theorem Inv.big (I:Inv X pins σ H s):sysModules < s.heap.objs.size:=by have h:mainGlobals < s.heap.objs.size:=(I.mod.glob.keeps I.bk).lt;exact Nat.lt_trans (by decide) h
theorem xf{Q:Value->Shared->Prop}(hu:A.units+1 < cLine)(I:Inv X pins σ H s)(g:mQ H a y (some v))(ry:RelV y u)(h:∀w' s',Inv X pins σ H s'->RelV v w'->Q w' s'):wpAny (model X.prog X.w) A (getItem (.ref a) u) Q E s:=by
 rcases g with⟨kvs,k,e,ey,l⟩|⟨kvs,k,b,e,ey,eb,l⟩
 ·subst ey;obtain⟨z,hd,vs,rel,dd⟩:=nO I.aZ e;obtain⟨w',hw,gN⟩:=iM.some_of (v:=v) (o:=valueAt vs k) (by rw[l];exact rel.val k);exact wpAny_getItem_of (lO ry) dd.mapOf hw (h w' _ (I.tok _) gN)
 ·subst ey;cases(show u=Value.ref b from ry);obtain⟨z,hd,xs,rel,dd⟩:=qY I.aZ e;obtain⟨w',hw,gN⟩:=iM.some_of (v:=v) (o:=(atKey xs k).map (·.2)) (by rw[l];exact rel.val k);obtain⟨p,hp,eB⟩:=Option.map_eq_some_iff.mp hw;refine wpAny_getItem_heap (m7 hu) (lM I.aZ eb) dd hp ?_;rw[eB];exact h w' _ (I.tok _) gN
theorem OM{Q:Value->Shared->Prop}(hu:A.units+1 < cLine)(I:Inv X pins σ H s)(g:mQ H a y o)(ry:RelV y u)(h:∀s',Inv X pins σ H s'->Q (.bool o.isSome) s'):wpAny (model X.prog X.w) A (compareOp .In u (.ref a)) Q E s:=by
 rcases g with⟨kvs,k,e,ey,l⟩|⟨kvs,k,b,e,ey,eb,l⟩
 ·subst ey;obtain⟨z,hd,vs,rel,dd⟩:=nO I.aZ e;refine wpAny_in_of (lO ry) hd dd.mapOf ?_;rw[<- (rel.val k).dO,<- l];exact h _ (I.tok _)
 ·subst ey;cases(show u=Value.ref b from ry);obtain⟨z,hd,xs,rel,dd⟩:=qY I.aZ e;refine wpAny_in_heap (m7 hu) (lM I.aZ eb) hd dd ?_;have q:=(rel.val k).dO;rw[o6]at q;rw[<- q,<- l];exact h _ (I.tok _)
theorem DU{Q:Value->Shared->Prop}(hu:A.units+1 < cLine)(I:Inv X pins σ H s)(g:mQ H a y o)(ry:RelV y u)(h:∀s',Inv X pins σ H s'->Q (.bool (!o.isSome)) s'):wpAny (model X.prog X.w) A (compareOp .NotIn u (.ref a)) Q E s:=by
 rcases g with⟨kvs,k,e,ey,l⟩|⟨kvs,k,b,e,ey,eb,l⟩
 ·subst ey;obtain⟨z,hd,vs,rel,dd⟩:=nO I.aZ e;refine wpAny_notIn_of (lO ry) hd dd.mapOf ?_;rw[<- (rel.val k).dO,<- l];exact h _ (I.tok _)
 ·subst ey;cases(show u=Value.ref b from ry);obtain⟨z,hd,xs,rel,dd⟩:=qY I.aZ e;refine wpAny_notIn_heap (m7 hu) (lM I.aZ eb) hd dd ?_;have q:=(rel.val k).dO;rw[o6]at q;rw[<- q,<- l];exact h _ (I.tok _)
theorem gy{h':Heap}{t':Nat}{ob:HO}(I:Inv X pins σ H s)(mu:LA (H a))(hs:Heap.SameBut a s.heap h')(he:∃q,h'.get? a=some q)(new:bp X.prog X.w (upd H a ob) h' a ob):Inv X pins σ (upd H a ob) {s with heap:=h',toks:=t'}:=
 I.write (x:=a) (e:=a) mu (.inl rfl) (λ b q hb z=>(hs.2 b hb).trans z) he new
theorem tj{P:Program}{w:World}{H':Hp}{h':Heap}{kvs:List (Key×V)}{vs:List (Key×Value)}(z:kvs.length<=sizeLine)(hd:(a==sysModules)=false)(rel:KV kvs vs)(dd:h'.DictOf (cj P w) a vs):bp P w H' h' a (.dK kvs):=⟨z,hd,vs,rel,dd⟩
theorem xc{H':Hp}{Q:Unit->Shared->Prop}(hu:A.units+1 < cLine)(I:Inv X pins σ H s)(g:A_ H a y v H')(ry:RelV y u)(rv:RelV v r)(h:∀s',Inv X pins σ H' s'->Q () s'):wpAny (model X.prog X.w) A (setItem (.ref a) u r) Q E s:=by
 rcases g with⟨kvs,k,e,ey,l,eH⟩|⟨kvs,k,b,e,ey,eb,l,eH⟩
 ·subst ey eH;obtain⟨z,hd,vs,rel,dd⟩:=va I.aZ e;have hz:vs.length<=sizeLine:=by rw[<- rel.length];exact z
  have hl:(putK kvs k v).length<=sizeLine:=by have:=d_ kvs k v;omega
  refine wpAny_setItem_pairs (hsz:=hz) (lO ry) dd λ h' ve hs=>h _ ?_;have he:∃q,h'.get? a=some q:=let⟨q,_,_,hq,_⟩:=ve;⟨q,hq⟩
  exact gy I (by rw[e];exact True.intro) hs he (tj hl hd (rel.put k rv) ve)
 ·subst ey eH;cases(show u=Value.ref b from ry);obtain⟨z,hd,xs,rel,dd⟩:=Ld I.aZ e;have hz:xs.length<=sizeLine:=by rw[<- y4 rel];exact z
  have hl:(putK kvs k v).length<=sizeLine:=by have:=d_ kvs k v;omega
  refine wpAny_setItem_heap (hsz:=hz) (m7 hu) (lM I.aZ eb) dd λ h' ve hs=>h _ ?_;obtain⟨q,es,ep,hq,h2,h3,h4,_,h5⟩:=ve;refine gy I (by rw[e];exact True.intro) hs ⟨q,hq⟩ ⟨hl,hd,_,(rel.put k eb rv).keeps λ c ys ec=>?_,q,es,ep,hq,h2,h3,h4,h5⟩;rw[aF (bJ ec e (λ z=>nomatch z))];exact ec
end
section
variable {X:Cx}{pins:List (Addr×Obj)}{σ:St}{H:Hp}{s:Shared}{a:Addr}{kvs:List (Key×V)}{k:Key}{u:Value}{A:Around}{E:Value->Shared->Prop}
theorem Le{Q:Value->Shared->Prop}(I:Inv X pins σ H s)(e:Rd H a (.dK kvs))(h:∀t s',Inv X pins σ H s'->Q (.int kvs.length t) s'):wpAny (model X.prog X.w) A (call (.builtin "len") [.ref a]) Q E s:=by obtain⟨z,hd,vs,rel,dd⟩:=nO I.aZ e;refine call_len_dict hd dd (by rw[<- rel.length];rw[A7]at z;omega) ?_;rw[<- rel.length];exact h _ _ (I.tok _)
end
theorem rf{X:Cx}{pins:List (Addr×Obj)}{σ:St}{H:Hp}{s:Shared}{a:Addr}{y:V}{o:Option V}(I:Inv X pins σ H s)(g:mQ H a y o):s.TypeIs (.ref a) "dict":=by
 rcases g with⟨kvs,k,e,_,_⟩|⟨kvs,k,b,e,_,_,_⟩
 ·obtain⟨_,_,vs,_,dd⟩:=nO I.aZ e;exact dd.typeIs
 ·obtain⟨_,_,xs,_,dd⟩:=qY I.aZ e;exact dd.typeIs
theorem q_{P:Program}{w:World}{H:Hp}(h:Heap)(hb:sysModules < h.objs.size):bp P w H (h.push {cls:=.type "dict",data:=.dict #[]}) h.objs.size (.dK []):=
 ⟨A8 _,beq_eq_false_iff_ne.mpr (B7 (z9 hb)),[],.nil,Heap.DictOf.new h⟩
def E6:TE:=λ _ H Q=>∀p,H p=none->Q (.ref p) (upd H p (.dK []))
section
variable {X:Cx}{pos:Pos}
theorem yZ:PE X (.Dict [] [] pos) E6:=λ pins s σ H Q I h=>
 wpAny_Dict_empty ⟨.ref s.heap.objs.size,_,I.laid (a:=s.heap.objs.size) (o:=.dK []) (t':=s.toks) (λ _ _ q=>i5 _ q) (A6 _) (q_ s.heap I.big),rfl,h _ (I.aZ.fresh (A6 _))⟩
end
end L2
namespace L2
open PySem PySem.Spec PyProof.Rows
mutual
def fU(K:C0)(H:Hp):IK->V->Prop
 | .i n,v=>v=.int n
 | .t ks,v=>∃p xs,v=.ref p/\fz K H p xs/\jB K H ks xs
def jB(K:C0)(H:Hp):List IK->List V->Prop
 |[],xs=>xs=[]
 |k::ks,xs=>∃x r,xs=x::r/\fU K H k x/\jB K H ks r
end
section
variable {X:Cx}{pins:List (Addr×Obj)}{σ:St}{H:Hp}{s:Shared}
mutual
theorem lL(I:Inv X pins σ H s):∀(k:IK) {v:V} {u:Value},fU X.K H k v->RelV v u->cT s.heap k u
 | .i n,v,u,h,r=>by unfold fU at h;subst h;unfold cT;exact r
 | .t ks,v,u,h,r=>by unfold fU at h;obtain⟨p,xs,rfl,hq,hk⟩:=h;cases(show u=Value.ref p from r);obtain⟨aw,rv,⟨o,ho,hc,n,hd⟩,_⟩:=I.tuple hq;unfold cT;exact⟨p,o,aw,n,rfl,ho,hc,hd,uP I ks hk rv⟩
theorem uP(I:Inv X pins σ H s):∀(ks:List IK) {xs:List V} {us:List Value},jB X.K H ks xs->Vals xs us->b_ s.heap ks us
 |[],xs,us,h,r=>by unfold jB at h;subst h;cases r;unfold b_;rfl
 |k::ks,xs,us,h,r=>by
  unfold jB at h;obtain⟨x,Ed,rfl,h1,h2⟩:=h;cases r with
  |cons r1 r2=>unfold b_;exact⟨_,_,rfl,lL I k h1 r1,uP I ks h2 r2⟩
end
end
abbrev eM:=IK×Addr×V
def OH(x:IK×Addr×Value):DictEntry:=⟨zX x.1,.ref x.2.1,x.2.2⟩
abbrev xB:List eM->List (IK×Addr×Value)->Prop:=Paired λ p q=>p.1=q.1/\p.2.1=q.2.1/\RelV p.2.2 q.2.2
def OL(a:Addr)(kvs:List eM)(h:Heap):Prop:=kvs.length<=sizeLine/\(a==sysModules)=false/\∃xs,xB kvs xs/\∃o es ep,h.get? a=some o/\o.ExactDict/\o.data=.dict es ep/\es.toList=xs.map OH/\(xs.map (·.1)).Nodup
def pb(a:Addr)(kvs:List eM):HO:=.ext (OL a kvs)
theorem pd{P:Program}{w:World}{H:Hp}{h:Heap}{a:Addr}{kvs:List eM}(x:OL a kvs h):bp P w H h a (pb a kvs):=by obtain⟨z,y,xs,r,o,es,ep,e,c⟩:=id x;exact⟨x,⟨o,e⟩,λ h1 h2 ⟨z,y,xs,r,o,es,ep,e,c⟩ q=>⟨z,y,xs,r,o,es,ep,q o e,c⟩⟩
noncomputable def hX (kvs:List eM)(k:IK):Option V:=(kvs.find? λ p=>decide (p.1=k)).map (·.2.2)
noncomputable def il (kvs:List eM)(k:IK)(p:Addr)(v:V):List eM:=if(hX kvs k).isSome=true then kvs.map (λ x=>if x.1=k then(x.1,x.2.1,v)else x)else kvs++[(k,p,v)]
theorem qz(kvs:List eM)(k:IK)(p:Addr)(v:V):(il kvs k p v).length<=kvs.length+1:=by
 unfold il;split
 ·simp
 ·simp
theorem xB.val {kvs:List eM}{xs:List (IK×Addr×Value)}(r:xB kvs xs)(k:IK):iM (hX kvs k) ((atKey xs k).map (·.2)):=by
 induction r with
 |nil=>exact True.intro
 |@cons p q ps qs h t ih=>
  obtain⟨h1,_,h2⟩:=h;unfold hX atKey at ih ⊢;by_cases e:p.1=k
  ·have e':q.1=k:=h1.symm.trans e;simp only[r6,x8 e,x8 e',Option.map_some];exact h2
  ·have e':¬q.1=k:=λ z=>e (h1.trans z);simp only[r6,r9 e,r9 e'];exact ih
theorem xB.yo {kvs:List eM}{xs:List (IK×Addr×Value)}(r:xB kvs xs)(k:IK){y:V}{u:Value}(ry:RelV y u):xB (kvs.map λ x=>if x.1=k then(x.1,x.2.1,y)else x) (xs.map (putAt k u)):=by
 induction r with
 |nil=>exact .nil
 |@cons p q ps qs h t ih=>
  rw[y7,y7];refine .cons ?_ ih;obtain⟨h1,h2,h3⟩:=h;unfold putAt;by_cases e:p.1=k
  ·rw[B8 e,B8 (h1.symm.trans e)];exact⟨h1,h2,ry⟩
  ·rw[B9 e,B9 (λ z=>e (h1.trans z))];exact⟨h1,h2,h3⟩
theorem oQ{o:Option V}{u:Option Value}(r:iM o u):o.isSome=u.isSome:=r.dO
theorem xB.put {kvs:List eM}{xs:List (IK×Addr×Value)}(r:xB kvs xs)(k:IK){b:Addr}{y:V}{u:Value}(ry:RelV y u):xB (il kvs k b y) (storedH xs k b u):=by
 have e:(hX kvs k).isSome=(atKey xs k).isSome:=by rw[oQ (r.val k),o6]
 unfold il storedH;rw[e];by_cases q:(atKey xs k).isSome=true
 ·rw[B8 q,B8 q];exact r.yo k ry
 ·rw[B9 q,B9 q];exact Paired.snoc r ⟨rfl,rfl,ry⟩
structure mj(K:C0)(H:Hp)(a:Addr)(kvs:List eM):Prop where
 at_:H a=some (pb a kvs)
 key:∀p∈kvs,p.1.dep<=5/\fU K H p.1 (.ref p.2.1)
section
variable {X:Cx}{pins:List (Addr×Obj)}{σ:St}{H:Hp}{s:Shared}{a b:Addr}{kvs:List eM}{k:IK}{A:Around}{E:Value->Shared->Prop}{v:V}{u r:Value}
theorem mj.of (I:Inv X pins σ H s)(d:mj X.K H a kvs):kvs.length<=sizeLine/\(a==sysModules)=false/\∃xs,xB kvs xs/\s.heap.DictOfH (h_ X.prog X.w) a xs:=by
 obtain⟨⟨z,y,xs,rel,o,es,ep,h1,h2,h3,h4,h5⟩,_,_⟩:=(show bp X.prog X.w H s.heap a (pb a kvs)from I.aZ a _ d.at_);refine⟨z,y,xs,rel,o,es,ep,h1,h2,h3,h4,?_,h5⟩;have all:∀{l:List eM} {m:List (IK×Addr×Value)},xB l m->(∀p∈l,p.1.dep<=5/\fU X.K H p.1 (.ref p.2.1))->∀x∈m,(h_ X.prog X.w).is s.heap x.1 x.2.1:=by
  intro l m q
  induction q with
  |nil=>intro _ x hx;cases hx
  |@cons p q ps qs hq t ih=>
   intro hl x hx;rcases y8.mp hx with rfl|hx
   ·obtain⟨c1,c2⟩:=hl p (k7 ..);rw[hq.1,hq.2.1]at c2;rw[hq.1]at c1;exact⟨c1,lL I _ c2 rfl⟩
   ·exact ih (λ p hp=>hl p (j3 _ hp)) x hx
 exact all rel d.key
theorem ie(hu:A.units+64 < cLine):(h_ X.prog X.w).room A.in1:=(show A.units+1+8 < cLine by omega)
theorem vZ{Q:Value->Shared->Prop}(hu:A.units+64 < cLine)(I:Inv X pins σ H s)(d:mj X.K H a kvs)(hk:k.dep<=5)(pS:fU X.K H k (.ref b))(g:hX kvs k=some v)(h:∀w' s',Inv X pins σ H s'->RelV v w'->Q w' s'):wpAny (model X.prog X.w) A (getItem (.ref a) (.ref b)) Q E s:=by obtain⟨z,hd,xs,rel,dd⟩:=d.of I;obtain⟨w',hw,gN⟩:=iM.some_of (v:=v) (o:=(atKey xs k).map (·.2)) (by rw[<- g];exact rel.val k);obtain⟨p,hp,eB⟩:=Option.map_eq_some_iff.mp hw;refine wpAny_getItem_heap (ie hu) ⟨hk,lL I k pS rfl⟩ dd hp ?_;rw[eB];exact h w' _ (I.tok _) gN
theorem MC{Q:Value->Shared->Prop}(hu:A.units+64 < cLine)(I:Inv X pins σ H s)(d:mj X.K H a kvs)(hk:k.dep<=5)(pS:fU X.K H k (.ref b))(h:∀s',Inv X pins σ H s'->Q (.bool (hX kvs k).isSome) s'):wpAny (model X.prog X.w) A (compareOp .In (.ref b) (.ref a)) Q E s:=by obtain⟨z,hd,xs,rel,dd⟩:=d.of I;refine wpAny_in_heap (ie hu) ⟨hk,lL I k pS rfl⟩ hd dd ?_;have q:=oQ (rel.val k);rw[o6]at q;rw[<- q];exact h _ (I.tok _)
theorem BD{Q:Value->Shared->Prop}(hu:A.units+64 < cLine)(I:Inv X pins σ H s)(d:mj X.K H a kvs)(hk:k.dep<=5)(pS:fU X.K H k (.ref b))(h:∀s',Inv X pins σ H s'->Q (.bool (!(hX kvs k).isSome)) s'):wpAny (model X.prog X.w) A (compareOp .NotIn (.ref b) (.ref a)) Q E s:=by obtain⟨z,hd,xs,rel,dd⟩:=d.of I;refine wpAny_notIn_heap (ie hu) ⟨hk,lL I k pS rfl⟩ hd dd ?_;have q:=oQ (rel.val k);rw[o6]at q;rw[<- q];exact h _ (I.tok _)
theorem vY{Q:Unit->Shared->Prop}(hu:A.units+64 < cLine)(I:Inv X pins σ H s)(d:mj X.K H a kvs)(hk:k.dep<=5)(pS:fU X.K H k (.ref b))(hl:kvs.length < sizeLine)(rv:RelV v r)(h:∀s',Inv X pins σ (upd H a (pb a (il kvs k b v))) s'->Q () s'):wpAny (model X.prog X.w) A (setItem (.ref a) (.ref b) r) Q E s:=by
 obtain⟨z,hd,xs,rel,dd⟩:=d.of I;have hz:xs.length<=sizeLine:=by rw[<- y4 rel];exact z
 have rM:(il kvs k b v).length<=sizeLine:=by have:=qz kvs k b v;omega
 refine wpAny_setItem_heap (hsz:=hz) (ie hu) ⟨hk,lL I k pS rfl⟩ dd λ h' ve hs=>h _ ?_;obtain⟨q,es,ep,hq,h2,h3,h4,_,h5⟩:=ve;exact gy I (by rw[d.at_];exact True.intro) hs ⟨q,hq⟩ (pd ⟨rM,hd,_,rel.put k rv,q,es,ep,hq,h2,h3,h4,h5⟩)
end
section
variable {X:Cx}{pos:Pos}
theorem u_(h:Heap)(hb:sysModules < h.objs.size):OL h.objs.size [] (h.push {cls:=.type "dict",data:=.dict #[]}):=
 ⟨A8 _,beq_eq_false_iff_ne.mpr (B7 (z9 hb)),[],.nil,_,#[],0,k4 _ rfl,⟨rfl,rfl,rfl⟩,rfl,rfl,nodup_nil⟩
def E7:TE:=λ _ H Q=>∀p,H p=none->Q (.ref p) (upd H p (pb p []))
theorem y_:PE X (.Dict [] [] pos) E7:=λ pins s σ H Q I h=>
 wpAny_Dict_empty ⟨.ref s.heap.objs.size,_,I.laid (a:=s.heap.objs.size) (o:=pb s.heap.objs.size []) (t':=s.toks) (λ _ _ q=>i5 _ q) (A6 _) (pd (u_ s.heap I.big)),rfl,h _ (I.aZ.fresh (A6 _))⟩
end
section
variable {prog:Program}{w:World}
theorem FT{d:Addr}(hd:(d==sysModules)=false):MeetsIn prog w (Builtin.«dict.__len__» ⟨[.ref d],[]⟩) (λ _ R s=>∃o es ep,s.heap.get? d=some o/\o.data=.dict es ep/\R (.ok (.ret (.int es.size s.toks))) {s with toks:=s.toks+1}):=
 .of_wp λ A R s ⟨o,es,ep,ho,HR,h⟩=>by show wpAny _ _ (dictSize d >>= _) _ _ s;unfold dictSize;refine B0 (B0 (wpAny_dictEntries ho HR (B1 ?_)));show wpAny _ _ (Builtin.Dict.pendingCount d >>= _) _ _ s;refine B0 (wpAny_pendingCount_other hd (wpAny_ret_mkInt ?_));rw[Nat.add_zero];exact h
theorem rB{A:Around}{E:Value->Shared->Prop}{s:Shared}{d:Addr}{o:Obj}{es:Array DictEntry}{ep:Nat}{Q:Value->Shared->Prop}(hd:(d==sysModules)=false)(ho:s.heap.get? d=some o)(hc:o.cls=.type "dict")(HR:o.data=.dict es ep)(hz:es.size<=sizeLine) (h:∀t n,Q (.int es.size t) {s with toks:=n}):wpAny (model prog w) A (call (.builtin "len") [.ref d]) Q E s:=by
 have hT:s.TypeIs (.ref d) "dict":=⟨o,ho,hc⟩;have IW:sizeLine=16777216:=by decide
 have K2:((es.size:Nat):Int) < 2^63:=by omega
 refine Calls.call_function_entry kind_len plain_len entry_len (args_len1 _) ?_;unfold Builtin.«len»;refine B0 (m:=oneArg "len" _) (B1 ?_);refine B0 (m:=callSpecial? (.ref d) (Str.ofString "__len__")) (i3 (name:=Str.ofString "__len__") hT F.slot_dict_len (call_meetsIn F.slot_dict_len hT F.entry_dict_len (F.args_dict_len_1 _) (FT hd) ⟨o,es,ep,ho,HR,?_⟩));show wpAny _ _ _ _ _ {s with toks:=s.toks+1};refine B0 (y3 (B1 (B0 (wpAny_letGo ?_))));show wpAny _ _ (if((es.size:Nat):Int) < 0 then _ else _) _ _ _;rw[B9 (by omega)];show wpAny _ _ (if((es.size:Nat):Int) ≥ 2^63 then _ else _) _ _ _;rw[B9 (by omega)];exact B0 (wpAny_mkInt (B1 ⟨_,rfl,h _ _⟩))
end
section
variable {X:Cx}{pins:List (Addr×Obj)}{σ:St}{H:Hp}{s:Shared}{a:Addr}{kvs:List eM}{A:Around}{E:Value->Shared->Prop}
theorem Jv{Q:Value->Shared->Prop}(I:Inv X pins σ H s)(e:H a=some (pb a kvs))(h:∀t s',Inv X pins σ H s'->Q (.int kvs.length t) s'):wpAny (model X.prog X.w) A (call (.builtin "len") [.ref a]) Q E s:=by
 obtain⟨⟨z,y,xs,rel,o,es,ep,h1,h2,h3,h4,h5⟩,_,_⟩:=(show bp X.prog X.w H s.heap a (pb a kvs)from I.aZ a _ e);have e1:es.size=kvs.length:=by rw[<- j9,h4,w6];exact(y4 rel).symm
 refine rB y h1 h2.1 h3 (by rw[e1];exact z) λ t n=>?_;rw[e1];exact h t _ (I.tok _)
end
end L2
namespace L2
open PySem PySem.Spec PyProof.Rows
structure jG where
 qual:Str
 params:Arguments
 body:Expr
 scope:Scope
 pm:Value
abbrev jf(f:Addr)(L:jG)(c:Addr)(cl:List (Str×Addr)):Heap->Prop:=λ h=>∃kB,h.get? f=some (PySem.W.kla_obj "<lambda>" L.qual L.params L.body L.scope cl L.pm c kB)
abbrev pj(c:Addr)(q:Str):Heap->Prop:=λ h=>h.CodeRec (.ref c) q
abbrev AM(c:Addr)(v:V):Heap->Prop:=λ h=>∃u,RelV v u/\h.IsCell c (some u)
abbrev eV(o:Obj)(c:Addr)(v:V):HO:=.cD o (.cD o (.ext (AM c v)))
theorem uO{h:Heap}{f c:Addr}{L:jG}{cl:List (Str×Addr)}{kB:Value}(e:h.get? f=some (PySem.W.kla_obj "<lambda>" L.qual L.params L.body L.scope cl L.pm c kB)):∃o,∀{P:Program} {w:World} {H:Hp},bp P w H h f (.cD o (.ext (jf f L c cl))):=
 ⟨_,λ{_ _ _}=>⟨e,⟨kB,e⟩,⟨_,e⟩,λ h1 h2 ⟨t,q⟩ k=>⟨t,k _ q⟩⟩⟩
theorem DY{h:Heap}{c:Addr}{q:Str}(x:h.CodeRec (.ref c) q):∃o,∀{P:Program} {w:World} {H:Hp},bp P w H h c (.cD o (.ext (pj c q))):=by obtain⟨c',o,vs,t,e,h1,h2,h3⟩:=id x;cases e;exact⟨o,λ{_ _ _}=>⟨h1,x,⟨o,h1⟩,λ a b ⟨c',o,vs,t,e,h1,h2,h3⟩ k=>by cases e;exact⟨_,o,vs,t,rfl,k _ h1,h2,h3⟩⟩⟩
theorem D1{h:Heap}{c:Addr}{v:V}{u:Value}(r:RelV v u)(x:h.IsCell c (some u)):∃o,h.get? c=some o/\∀{P:Program} {w:World} {H:Hp},bp P w H h c (eV o c v):=by obtain⟨o,h1,h2⟩:=id x;exact⟨o,h1,λ{_ _ _}=>⟨h1,h1,⟨u,r,x⟩,⟨o,h1⟩,λ a b ⟨u,r,o,h1,h2⟩ k=>⟨u,r,o,k _ h1,h2⟩⟩⟩
def lb(cs:List (Pos×Addr)):List Value:=cs.flatMap λ p=>[rawInt p.1.line,rawInt p.1.col,.ref p.2]
theorem om:∀cs,TriplesOk (lb cs)
 |[]=>trivial
 |p::cs=>om cs
theorem mY{pos:Pos}{u:Value}:∀{cs:List (Pos×Addr)},codeAmong pos (lb cs)=some u->∃p∈cs,u=.ref p.2
 |[],e=>by cases e
 |p::cs,e=>by
  have e:(if(((p.1.line:Int)==pos.line)&&((p.1.col:Int)==pos.col))=true then some (Value.ref p.2)else codeAmong pos (lb cs))=some u:=e;split at e
  ·exact⟨p,.head _,(u6 e).symm⟩
  ·obtain⟨q,h,r⟩:=mY e;exact⟨q,.tail _ h,r⟩
structure Eb(mg:Str->Option Value)(base:Heap)(c P:Addr):Prop where
 bm:∃bm ob,mg "__builtins__"=some (.ref bm)/\bm≠builtinsNs/\base.get? bm=some ob/\ob.cls=.type "module"/\ob.dict=some builtinsNs/\ob.data=.plain
 cd:PySem.W.CodeHd base c P
def EO(H:Hp)(P:Addr)(q:Str):Prop:=∃cs:List (Pos×Addr),H P=some (.j_ (lb cs).toArray)/\∀p∈cs,∃o,H p.2=some (.cD o (.ext (pj p.2 q)))
section
variable {X:Cx}{pins:List (Addr×Obj)}{σ:St}{H:Hp}{s:Shared}
theorem EO.grow {H H':Hp}{P:Addr}{q:Str}(t:EO H P q)(k:∀b o u,H b=some (.cD o u)->H' b=some (.cD o u))(e:H' P=H P):EO H' P q:=by obtain⟨cs,h1,h2⟩:=t;exact⟨cs,e.trans h1,λ p hp=>let⟨o,z⟩:=h2 p hp;⟨o,k _ _ _ z⟩⟩
def MK(P:Addr)(L:jG)(cells:List (Str×Addr)):TE:=λ σ H Q=>EO H P L.qual/\∀(f c:Addr) (H':Hp),H f=none->(∀x d,cells.lookup x=some d->d≠f)->(∀b u,b≠P->H b=some u->H' b=some u)->EO H' P L.qual->(∃o,H' c=some (.cD o (.ext (pj c L.qual))))->(∃o,H' f=some (.cD o (.ext (jf f L c (bo cells L.scope.names [])))))->Q (.ref f) H'
theorem mZ(cs:List (Pos×Addr))(pos:Pos)(c:Addr):(lb cs).toArray++#[rawInt pos.line,rawInt pos.col,.ref c]=(lb (cs++[(pos,c)])).toArray:=by simp[lb]
theorem GL{L:jG}{c P:Addr}{pos:Pos}(nH:X.env.code=.ref c)(B:Eb X.mg X.base c P)(Ai:defaultsOf L.params X.env=([],[]))(Ab:L.pm=(X.mg "__name__").getD .none)(hq:X.env.qual++"<lambda>"=L.qual) (uV:∀n,(n,NameKind.free)∈L.scope.names->X.env.kindOf n=some .cell\/X.env.kindOf n=some .free):PE X (.Lambda L.params L.body L.scope pos) (MK P L X.env.cells):=by
 intro pins s σ H Q I h;obtain⟨⟨cs,hP,Aj⟩,k⟩:=h;refine PySem.W.kla_eval Ai ?_;rw[hq];have w_:closureFor L.scope X.env=pure (bo X.env.cells L.scope.names []):=di λ n hn=>I.ok.has n (uV n hn);have oP:s.heap.get? P=some (PySem.W.tabObj (lb cs).toArray):=I.aZ P _ hP;have hg:s.heap.Ns mainGlobals X.mg:=I.mod.glob.keeps I.bk;have C:=B.cd.keeps I.bk;obtain⟨bm,ob,b1,b2,b3,b4,b5,b6⟩:=B.bm;have RP:mainGlobals≠P:=λ q=>by obtain⟨o,es,ep,e,hd,_⟩:=id hg;rw[q,oP]at e;cases e;cases hd
 have RW:bm≠P:=λ q=>by have e:=I.bk _ _ b3;rw[q,oP]at e;cases e;cases b4
 have RX:bm≠mainGlobals:=λ q=>by obtain⟨o,es,ep,e,hd,_⟩:=id hg;have e2:=I.bk _ _ b3;rw[q,e]at e2;cases e2;rw[hd]at b6;cases b6
 have hb:s.heap.BuiltinsAt X.mg P:=⟨bm,ob,b1,b2,RX,RW,I.bk _ _ b3,b4,b5,b6⟩;have P':∀{f:Addr},s.heap.objs.size<=f->∀x d,X.env.cells.lookup x=some d->d≠f:=λ hf x d e z=>by obtain⟨v,o,ho,_⟩:=I.cell x d e;exact absurd (A0 ho) (by rw[z];exact Nat.not_lt.mpr hf)
 cases hc:codeAmong pos (lb cs).toArray.toList with
 |none=>
  refine PySem.W.kla_makeFunction w_ I.ok.glob hg nH C oP (by simpa using om cs) hc RP hb λ c' kB h' tk hx DH eQ NW KI=>?_;rw[<- Ab];have hf:h'.objs.size=h'.objs.size:=rfl;generalize hF:h'.objs.size=f at*;have NV:s.heap.objs.size<=f:=A2 DH (A5 eQ);have nc:H c'=none:=I.aZ.fresh DH;have nf:H f=none:=I.aZ.fresh NV;have cf:c'≠f:=z9 eQ;have cP:c'≠P:=λ z=>by rw[z,hP]at nc;cases nc
  have fP:f≠P:=λ z=>by rw[z,hP]at nf;cases nf
  have up:∀b o,h'.get? b=some o->(h'.push (PySem.W.kla_obj "<lambda>" L.qual L.params L.body L.scope (bo X.env.cells L.scope.names []) L.pm c' kB)).get? b=some o:=λ b o e=>i5 _ e;have hl:(h'.push (PySem.W.kla_obj "<lambda>" L.qual L.params L.body L.scope (bo X.env.cells L.scope.names []) L.pm c' kB)).get? f=some (PySem.W.kla_obj "<lambda>" L.qual L.params L.body L.scope (bo X.env.cells L.scope.names []) L.pm c' kB):=by rw[<- hF];exact k4 _ rfl
  have KJ:(h'.push (PySem.W.kla_obj "<lambda>" L.qual L.params L.body L.scope (bo X.env.cells L.scope.names []) L.pm c' kB)).CodeRec (.ref c') L.qual:=by obtain⟨c2,o,vs,t,e,h1,h2,h3⟩:=NW;exact⟨c2,o,vs,t,e,up _ _ h1,h2,h3⟩
  have KI:=up _ _ KI;rw[mZ]at KI;have kp:∀b o,b≠P->s.heap.get? b=some o->(h'.push (PySem.W.kla_obj "<lambda>" L.qual L.params L.body L.scope (bo X.env.cells L.scope.names []) L.pm c' kB)).get? b=some o:=λ b o n e=>up b o (hx b o n e);generalize h'.push (PySem.W.kla_obj "<lambda>" L.qual L.params L.body L.scope (bo X.env.cells L.scope.names []) L.pm c' kB)=g at*;obtain⟨of,zf⟩:=uO (L:=L) hl;obtain⟨oc,zc⟩:=DY KJ;obtain⟨H',eH⟩:∃H':Hp,H'=upd (upd (upd H c' (.cD oc (.ext (pj c' L.qual)))) P (.j_ (lb (cs++[(pos,c')])).toArray)) f (.cD of (.ext (jf f L c' (bo X.env.cells L.scope.names [])))):=⟨_,rfl⟩;have Hf:H' f=some (.cD of (.ext (jf f L c' (bo X.env.cells L.scope.names [])))):=by rw[eH];exact aG
  have HP:H' P=some (.j_ (lb (cs++[(pos,c')])).toArray):=by rw[eH,aF fP.symm];exact aG
  have Hc:H' c'=some (.cD oc (.ext (pj c' L.qual))):=by rw[eH,aF cf,aF cP];exact aG
  have Ho:∀b,b≠f->b≠P->b≠c'->H' b=H b:=λ b n1 n2 n3=>by rw[eH,aF n1,aF n2,aF n3]
  have old:∀b u,b≠P->H b=some u->H' b=some u:=λ b u n e=>(Ho b (bB e nf) n (bB e nc)).trans e;have I2:Inv X pins σ H' {s with heap:=g,toks:=tk}:=by
   refine I.un (H':=H') (h':=g) (t':=tk) ⟨λ b o e n _ _=>kp b o (λ z=>by rw[z,hP]at n;cases n) e,λ b o e n _ _=>⟨o.slots,kp b o (λ z=>by rw[z,hP]at n;cases n) e⟩,λ b o e n _=>?_,λ b o e _=>?_,λ b xs e=>old b _ (λ z=>by rw[z,hP]at e;cases e) e,λ b o u e=>old b _ (λ z=>by rw[z,hP]at e;cases e) e,λ b ps e=>?_⟩ λ b u e=>?_
   ·have lt:=A0 e;rw[Ho b (z9 (l7 lt NV)) (λ z=>by rw[z,hP]at n;cases n) (z9 (l7 lt DH))];exact n
   ·by_cases z:b=P
    ·subst z;exact⟨_,KI⟩
    ·exact⟨o,kp b o z e⟩
   ·by_cases z:b=P
    ·subst z;rw[hP]at e;cases e;exact⟨#[rawInt pos.line,rawInt pos.col,.ref c'],by rw[HP,mZ]⟩
    ·exact⟨#[],by rw[old b _ z e];simp⟩
   ·by_cases z1:b=f
    ·subst z1;rw[Hf]at e;cases e;exact zf
    ·by_cases z2:b=P
     ·subst z2;rw[HP]at e;cases e;exact KI
     ·by_cases z3:b=c'
      ·subst z3;rw[Hc]at e;cases e;exact zc
      ·rw[Ho b z1 z2 z3]at e;refine(I.aZ b u e).my (λ d v hd q=>kp d v ?_ q) (λ d q=>old d _ (λ z=>by rw[z,hP]at q;cases q) q) λ d xs q=>old d _ (λ z=>by rw[z,hP]at q;cases q) q;rcases hd with rfl|hd
       ·exact z2
       ·exact λ z=>by rw[z,hP]at hd;cases hd
  refine⟨.ref f,H',I2,rfl,k f c' H' nf (P' NV) old ⟨_,HP,λ p hp=>?_⟩ ⟨oc,Hc⟩ ⟨of,Hf⟩⟩;rcases w9.mp hp with hp|hp
  ·obtain⟨o,z⟩:=Aj p hp;exact⟨o,old _ _ (λ y=>by rw[y,hP]at z;cases z) z⟩
  ·rw[l8.mp hp];exact⟨oc,Hc⟩
 |some u=>
  obtain⟨p,hp,rfl⟩:=mY (by simpa using hc);refine PySem.W.kla_makeFunctionHit w_ I.ok.glob hg nH C oP (by simpa using om cs) hc hb λ kB h' tk hx hsz=>?_;rw[<- Ab];have nf:H h'.objs.size=none:=I.aZ.fresh hsz;have fP:h'.objs.size≠P:=λ z=>by rw[z,hP]at nf;cases nf
  have hl:(h'.push (PySem.W.kla_obj "<lambda>" L.qual L.params L.body L.scope (bo X.env.cells L.scope.names []) L.pm p.2 kB)).get? h'.objs.size=some (PySem.W.kla_obj "<lambda>" L.qual L.params L.body L.scope (bo X.env.cells L.scope.names []) L.pm p.2 kB):=k4 _ rfl;obtain⟨of,zf⟩:=uO (L:=L) hl;have t:∀b u,H b=some u->upd H h'.objs.size (.cD of (.ext (jf h'.objs.size L p.2 (bo X.env.cells L.scope.names [])))) b=some u:=λ b u e=>by rw[aF (bB e nf)];exact e
  have I2:=I.laid (t':=tk) (a:=h'.objs.size) (h':=h'.push (PySem.W.kla_obj "<lambda>" L.qual L.params L.body L.scope (bo X.env.cells L.scope.names []) L.pm p.2 kB)) (λ b u e=>i5 _ (hx b u e)) hsz (o:=.cD of (.ext (jf h'.objs.size L p.2 (bo X.env.cells L.scope.names [])))) zf;obtain⟨oc,zc⟩:=Aj p hp;exact⟨.ref h'.objs.size,_,I2,rfl,k _ p.2 _ nf (P' hsz) (λ b u _ e=>t b u e) ⟨cs,t _ _ hP,λ p hp=>let⟨o,z⟩:=Aj p hp;⟨o,t _ _ z⟩⟩ ⟨oc,t _ _ zc⟩ ⟨of,aG⟩⟩
end
end L2
namespace L3
open PySem PySem.Spec L2
inductive D where
 |bf|bl (b:Bool)|int (i:Int)|str (x:Str)|ty (n:String)|ref (a:Addr)
 |tup (xs:List D)
 |fl (xs:List D)
def Bn(K:C0)(H:Hp)(p:Addr)(xs:List V):Prop:=
 (∃o,H p=some (.cD o (.lst xs)))\/∃(o:Obj) (aw:Array Value) (n:Nat),K.lookup p=some o/\o.cls=.type "list"/\o.dict=none/\o.data=.seq aw n/\aw.size<=sizeLine/\Vals xs aw.toList
theorem Bn.sq {K:C0}{H:Hp}{p:Addr}{xs:List V}(h:Bn K H p xs):eA K H p xs:=by
 rcases h with h|h
 ·exact .inl (.inr h)
 ·exact .inr h
mutual
def Dat(K:C0)(H:Hp):D->V->Prop
 | .bf,v=>v=.bf
 | .bl b,v=>v=.bl b
 | .int i,v=>v=.int i
 | .str x,v=>v=.str x
 | .ty n,v=>v=.ty n
 | .ref a,v=>v=.ref a
 | .tup ds,v=>∃p xs,v=.ref p/\fz K H p xs/\ax K H ds xs
 | .fl ds,v=>∃p xs,v=.ref p/\Bn K H p xs/\ax K H ds xs
def ax(K:C0)(H:Hp):List D->List V->Prop
 |[],xs=>xs=[]
 |d::ds,xs=>∃x r,xs=x::r/\Dat K H d x/\ax K H ds r
end
structure ak(H H':Hp):Prop where
 tup:∀b xs,H b=some (.tup xs)->H' b=some (.tup xs)
 cD:∀b o u,H b=some (.cD o u)->H' b=some (.cD o u)
theorem ak.refl (H:Hp):ak H H:=⟨λ _ _ h=>h,λ _ _ _ h=>h⟩
theorem ak.trans {H H1 H2:Hp}(a:ak H H1)(b:ak H1 H2):ak H H2:=⟨λ c xs h=>b.tup c xs (a.tup c xs h),λ c o u h=>b.cD c o u (a.cD c o u h)⟩
theorem ak.laid {H:Hp}{p:Addr}{o:HO}(h:H p=none):ak H (upd H p o):=
 ⟨λ b xs e=>by rw[aF (bB e h)];exact e,λ b ob u e=>by rw[aF (bB e h)];exact e⟩
theorem ak.lst {H:Hp}{p:Addr}{xs:List V}{o:HO}(h:H p=some (.lst xs)):ak H (upd H p o):=
 ⟨λ b ys e=>by rw[aF (bJ e h (by intro z;cases z))];exact e,λ b ob u e=>by rw[aF (bJ e h (by intro z;cases z))];exact e⟩
theorem ak.mut {H:Hp}{p:Addr}{u o:HO}(h:H p=some u)(n1:∀xs,u≠.tup xs)(n2:∀ob w,u≠.cD ob w):ak H (upd H p o):=
 ⟨λ b ys e=>by rw[aF (λ z=>by subst z;rw[h]at e;exact n1 ys (u6 e))];exact e,λ b ob w e=>by rw[aF (λ z=>by subst z;rw[h]at e;exact n2 ob w (u6 e))];exact e⟩
structure xq(H H':Hp):Prop where
 tup:∀b xs,H b=some (.tup xs)->H' b=some (.tup xs)
 ft:∀b o xs,H b=some (.cD o (.tup xs))->H' b=some (.cD o (.tup xs))
 fl:∀b o xs,H b=some (.cD o (.lst xs))->H' b=some (.cD o (.lst xs))
theorem ak.sub {H H':Hp}(t:ak H H'):xq H H':=⟨t.tup,λ b o _=>t.cD b o _,λ b o _=>t.cD b o _⟩
theorem uf{K:C0}{H H':Hp}(t:xq H H'){p:Addr}{xs:List V}(h:fz K H p xs):fz K H' p xs:=by
 rcases h with(h|⟨o,h⟩)|h
 ·exact .inl (.inl (t.tup _ _ h))
 ·exact .inl (.inr ⟨o,t.ft _ _ _ h⟩)
 ·exact .inr h
theorem uX{K:C0}{H H':Hp}(t:xq H H'){p:Addr}{xs:List V}(h:Bn K H p xs):Bn K H' p xs:=by
 rcases h with⟨o,h⟩|h
 ·exact .inl ⟨o,t.fl _ _ _ h⟩
 ·exact .inr h
theorem xW{K:C0}{H H':Hp}(t:ak H H'){p:Addr}{xs:List V}(h:fz K H p xs):fz K H' p xs:=uf t.sub h
theorem Ar{K:C0}{H H':Hp}(t:ak H H'){p:Addr}{xs:List V}(h:Bn K H p xs):Bn K H' p xs:=uX t.sub h
mutual
theorem Dat.mon {K:C0}{H H':Hp}(t:xq H H'):∀(d:D) {v:V},Dat K H d v->Dat K H' d v
 | .bf,v,h=>by unfold Dat at h ⊢;exact h
 | .bl b,v,h=>by unfold Dat at h ⊢;exact h
 | .int i,v,h=>by unfold Dat at h ⊢;exact h
 | .str x,v,h=>by unfold Dat at h ⊢;exact h
 | .ty n,v,h=>by unfold Dat at h ⊢;exact h
 | .ref a,v,h=>by unfold Dat at h ⊢;exact h
 | .tup ds,v,h=>by unfold Dat at h ⊢;obtain⟨p,xs,e,q,r⟩:=h;exact⟨p,xs,e,uf t q,ax.mon t ds r⟩
 | .fl ds,v,h=>by unfold Dat at h ⊢;obtain⟨p,xs,e,q,r⟩:=h;exact⟨p,xs,e,uX t q,ax.mon t ds r⟩
theorem ax.mon {K:C0}{H H':Hp}(t:xq H H'):∀(ds:List D) {xs:List V},ax K H ds xs->ax K H' ds xs
 |[],xs,h=>by unfold ax at h ⊢;exact h
 |d::ds,xs,h=>by unfold ax at h ⊢;obtain⟨x,r,e,a,b⟩:=h;exact⟨x,r,e,Dat.mon t d a,ax.mon t ds b⟩
end
theorem Dat.mono {K:C0}{H H':Hp}(t:ak H H')(d:D){v:V}(h:Dat K H d v):Dat K H' d v:=Dat.mon t.sub d h
theorem ax.mono {K:C0}{H H':Hp}(t:ak H H')(ds:List D){xs:List V}(h:ax K H ds xs):ax K H' ds xs:=ax.mon t.sub ds h
section
variable {K:C0}{H:Hp}
theorem cU{v:V}:Dat K H .bf v↔v=.bf:=by unfold Dat;exact Iff.rfl
theorem aP{b:Bool}{v:V}:Dat K H (.bl b) v↔v=.bl b:=by unfold Dat;exact Iff.rfl
theorem ar{i:Int}{v:V}:Dat K H (.int i) v↔v=.int i:=by unfold Dat;exact Iff.rfl
theorem aO{x:Str}{v:V}:Dat K H (.str x) v↔v=.str x:=by unfold Dat;exact Iff.rfl
theorem tm{n:String}{v:V}:Dat K H (.ty n) v↔v=.ty n:=by unfold Dat;exact Iff.rfl
theorem aA{a:Addr}{v:V}:Dat K H (.ref a) v↔v=.ref a:=by unfold Dat;exact Iff.rfl
theorem aQ{ds:List D}{v:V}:Dat K H (.tup ds) v↔∃p xs,v=.ref p/\fz K H p xs/\ax K H ds xs:=by rw[Dat]
theorem gT{ds:List D}{v:V}:Dat K H (.fl ds) v↔∃p xs,v=.ref p/\Bn K H p xs/\ax K H ds xs:=by rw[Dat]
theorem aj{xs:List V}:ax K H [] xs↔xs=[]:=by unfold ax;exact Iff.rfl
theorem ag{d:D}{ds:List D}{xs:List V}:ax K H (d::ds) xs↔∃x r,xs=x::r/\Dat K H d x/\ax K H ds r:=by rw[ax]
theorem ax.length:∀{ds:List D} {xs:List V},ax K H ds xs->xs.length=ds.length
 |[],xs,h=>by rw[aj]at h;subst h;rfl
 |d::ds,xs,h=>by rw[ag]at h;obtain⟨x,r,rfl,_,q⟩:=h;rw[p5,p5,q.length]
theorem ax.get:∀{ds:List D} {xs:List V} {i:Nat} {d:D},ax K H ds xs->ds[i]?=some d->∃x,xs[i]?=some x/\Dat K H d x
 |[],xs,i,d,h,e=>by simp at e
 |d0::ds,xs,i,d,h,e=>by
  rw[ag]at h;obtain⟨x,r,rfl,a,q⟩:=h;cases i with
  |zero=>simp at e;subst e;exact⟨x,rfl,a⟩
  |succ i=>obtain⟨y,h1,h2⟩:=ax.get q (by simpa using e);exact⟨y,by simpa using h1,h2⟩
theorem ax.Aq:∀{ds:List D} {xs:List V} {i:Nat} {x:V},ax K H ds xs->xs[i]?=some x->∃d,ds[i]?=some d/\Dat K H d x
 |[],xs,i,x,h,e=>by rw[aj]at h;subst h;simp at e
 |d0::ds,xs,i,x,h,e=>by
  rw[ag]at h;obtain⟨y,r,rfl,a,q⟩:=h;cases i with
  |zero=>simp at e;subst e;exact⟨d0,rfl,a⟩
  |succ i=>obtain⟨d,h1,h2⟩:=ax.Aq q (by simpa using e);exact⟨d,by simpa using h1,h2⟩
theorem ax.append:∀{ds es:List D} {xs ys:List V},ax K H ds xs->ax K H es ys->ax K H (ds++es) (xs++ys)
 |[],es,xs,ys,h,q=>by rw[aj]at h;subst h;exact q
 |d::ds,es,xs,ys,h,q=>by rw[ag]at h;obtain⟨x,r,rfl,a,b⟩:=h;rw[cons_append,cons_append,ag];exact⟨x,_,rfl,a,b.append q⟩
theorem ax.one {d:D}{v:V}(h:Dat K H d v):ax K H [d] [v]:=by rw[ag];exact⟨v,[],rfl,h,by rw[aj]⟩
theorem ax.take:∀{ds:List D} {xs:List V} (n:Nat),ax K H ds xs->ax K H (ds.take n) (xs.take n)
 |ds,xs,0,h=>by simp[aj]
 |[],xs,n+1,h=>by rw[aj]at h;subst h;simp[aj]
 |d::ds,xs,n+1,h=>by rw[ag]at h;obtain⟨x,r,rfl,a,b⟩:=h;rw[take_succ_cons,take_succ_cons,ag];exact⟨x,_,rfl,a,b.take n⟩
theorem ax.drop:∀{ds:List D} {xs:List V} (n:Nat),ax K H ds xs->ax K H (ds.drop n) (xs.drop n)
 |ds,xs,0,h=>h
 |[],xs,n+1,h=>by rw[aj]at h;subst h;simp[aj]
 |d::ds,xs,n+1,h=>by rw[ag]at h;obtain⟨x,r,rfl,a,b⟩:=h;exact b.drop n
theorem ax.set {d:D}{x:V}(hd:Dat K H d x):∀{ds:List D} {xs:List V} (n:Nat),ax K H ds xs->ax K H (ds.set n d) (xs.set n x)
 |[],xs,n,h=>by rw[aj]at h;subst h;simp[aj]
 |d0::ds,xs,0,h=>by rw[ag]at h;obtain⟨y,r,rfl,a,b⟩:=h;rw[set_cons_zero,set_cons_zero,ag];exact⟨x,_,rfl,hd,b⟩
 |d0::ds,xs,n+1,h=>by rw[ag]at h;obtain⟨y,r,rfl,a,b⟩:=h;rw[set_cons_succ,set_cons_succ,ag];exact⟨y,_,rfl,a,b.set hd n⟩
theorem jo:∀(ns:List Int),ax K H (ns.map D.int) (ns.map V.int)
 |[]=>by simp[aj]
 |n::ns=>by rw[y7,y7,ag];exact⟨_,_,rfl,ar.mpr rfl,jo ns⟩
theorem rh:∀{bs:List Bool} {xs:List V},ax K H (bs.map D.bl) xs->xs=bs.map V.bl
 |[],xs,h=>by rw[map_nil,aj]at h;exact h
 |b::bs,xs,h=>by rw[y7,ag]at h;obtain⟨x,r,rfl,a,q⟩:=h;rw[aP]at a;rw[a,rh q];rfl
end
def fj:Key->D
 | .inl i=>.int i
 | .inr x=>.str x
mutual
def mq:IK->D
 | .i n=>.int n
 | .t ks=>.tup (mE ks)
def mE:List IK->List D
 |[]=>[]
 |k::ks=>mq k::mE ks
end
mutual
theorem jq{K:C0}{H:Hp}:∀(k:IK) {v:V},Dat K H (mq k) v->fU K H k v
 | .i n,v,h=>by unfold mq at h;unfold fU;exact ar.mp h
 | .t ks,v,h=>by unfold mq at h;obtain⟨p,xs,rfl,hq,hx⟩:=aQ.mp h;unfold fU;exact⟨p,xs,rfl,hq,rg ks hx⟩
theorem rg{K:C0}{H:Hp}:∀(ks:List IK) {xs:List V},ax K H (mE ks) xs->jB K H ks xs
 |[],xs,h=>by unfold mE at h;unfold jB;exact aj.mp h
 |k::ks,xs,h=>by unfold mE at h;obtain⟨x,r,rfl,h1,h2⟩:=ag.mp h;unfold jB;exact⟨x,r,rfl,jq k h1,rg ks h2⟩
end
mutual
theorem oU:∀{a b:IK},mq a=mq b->a=b
 | .i n,.i m,h=>by unfold mq at h;cases h;rfl
 | .i n,.t ks,h=>by unfold mq at h;cases h
 | .t ks,.i n,h=>by unfold mq at h;cases h
 | .t ks,.t ls,h=>by unfold mq at h;rw[qR (D.tup.inj h)]
theorem qR:∀{as bs:List IK},mE as=mE bs->as=bs
 |[],[],_=>rfl
 |[],b::bs,h=>by unfold mE at h;cases h
 |a::as,[],h=>by unfold mE at h;cases h
 |a::as,b::bs,h=>by
  unfold mE at h;injection h with h1 h2
  rw[oU h1,qR h2]
end
theorem qL{a b:Key}(h:fj a=fj b):a=b:=by
 cases a with
 |inl i=>cases b with
  |inl j=>have e:D.int i=D.int j:=h;cases e;rfl
  |inr y=>have e:D.int i=D.str y:=h;cases e
 |inr x=>cases b with
  |inl j=>have e:D.str x=D.int j:=h;cases e
  |inr y=>have e:D.str x=D.str y:=h;cases e;rfl
theorem iI{K:C0}{H:Hp}{k:Key}{v:V}(h:Dat K H (fj k) v):v=kV k:=by
 cases k with
 |inl i=>exact ar.mp h
 |inr x=>exact aO.mp h
inductive XM where
 |lam (L:jG) (cl:List (Str×Addr))|vC (d:D)|j_ (q:Str)
inductive MO where
 |lst (ds:List D)
 |g_ (x:XM)
  |cE (t:Bool) (kvs:List (D×D))
abbrev Ba(K:C0)(H:Hp):List (D×D)->List (Key×V)->Prop:=Paired λ p q=>p.1=fj q.1/\Dat K H p.2 q.2
abbrev xx(K:C0)(H:Hp):List (D×D)->List eM->Prop:=Paired λ p q=>p.1=mq q.1/\q.1.dep<=5/\Dat K H p.1 (.ref q.2.1)/\Dat K H p.2 q.2.2
theorem Ba.mono {K:C0}{H H':Hp}(t:ak H H'){kvs:List (D×D)}{xs:List (Key×V)}(h:Ba K H kvs xs):Ba K H' kvs xs:=Paired.qI h λ p q z=>⟨z.1,Dat.mono t _ z.2⟩
theorem xx.mono {K:C0}{H H':Hp}(t:ak H H'){kvs:List (D×D)}{xs:List eM}(h:xx K H kvs xs):xx K H' kvs xs:=Paired.qI h λ p q z=>⟨z.1,z.2.1,Dat.mono t _ z.2.2.1,Dat.mono t _ z.2.2.2⟩
abbrev Mem:=Addr->Option MO
def ah(M:Mem)(a:Addr)(o:MO):Mem:=λ b=>if b=a then some o else M b
theorem af{M:Mem}{a:Addr}{o:MO}:ah M a o a=some o:=by unfold ah;rw[B8 rfl]
theorem av{M:Mem}{a b:Addr}{o:MO}(h:b≠a):ah M a o b=M b:=by unfold ah;rw[B9 h]
theorem dM{M:Mem}{a:Addr}{o u:MO}:ah (ah M a o) a u=ah M a u:=by funext b;unfold ah;split <;> rfl
def mP(K:C0)(H:Hp)(a:Addr):MO->Prop
 | .lst ds=>∃xs,H a=some (.lst xs)/\ax K H ds xs
 | .cE false kvs=>∃xs,H a=some (.dK xs)/\Ba K H kvs xs
 | .cE true kvs=>∃xs,H a=some (pb a xs)/\xx K H kvs xs
 | .g_ (.lam L cl)=>∃c,(∃o,H a=some (.cD o (.ext (jf a L c cl))))/\∃o,H c=some (.cD o (.ext (pj c L.qual)))
 | .g_ (.vC d)=>∃o v,H a=some (eV o a v)/\Dat K H d v
 | .g_ (.j_ q)=>EO H a q
def RelM(K:C0)(H:Hp)(M:Mem):Prop:=∀a o,M a=some o->mP K H a o
theorem mP.there {K:C0}{H:Hp}{a:Addr}{o:MO}(h:mP K H a o):∃u,H a=some u:=by
 cases o with
 |g_ x=>
  cases x with
  |lam L cl=>obtain⟨_,⟨o,h⟩,_⟩:=h;exact⟨_,h⟩
  |vC d=>obtain⟨o,v,h,_⟩:=h;exact⟨_,h⟩
  |j_ q=>obtain⟨cs,h,_⟩:=h;exact⟨_,h⟩
 |lst ds=>obtain⟨xs,h,_⟩:=h;exact⟨_,h⟩
 |cE t kvs=>
  cases t with
  |false=>obtain⟨xs,h,_⟩:=h;exact⟨_,h⟩
  |true=>obtain⟨xs,h,_⟩:=h;exact⟨_,h⟩
theorem mP.mono {K:C0}{H H':Hp}{a:Addr}{o:MO}(h:mP K H a o)(t:ak H H')(e:H' a=H a):mP K H' a o:=by
 cases o with
 |g_ x=>
  cases x with
  |lam L cl=>obtain⟨c,⟨o,h⟩,o',h'⟩:=h;exact⟨c,⟨o,e.trans h⟩,o',t.cD _ _ _ h'⟩
  |vC d=>obtain⟨o,v,h,q⟩:=h;exact⟨o,v,e.trans h,Dat.mono t d q⟩
  |j_ q=>exact EO.grow h t.cD e
 |lst ds=>obtain⟨xs,h,q⟩:=h;exact⟨xs,e.trans h,ax.mono t ds q⟩
 |cE b kvs=>
  cases b with
  |false=>obtain⟨xs,h,q⟩:=h;exact⟨xs,e.trans h,q.mono t⟩
  |true=>obtain⟨xs,h,q⟩:=h;exact⟨xs,e.trans h,q.mono t⟩
theorem RelM.free {K:C0}{H:Hp}{M:Mem}(h:RelM K H M){p:Addr}(n:H p=none):M p=none:=by
 cases e:M p with
 |none=>rfl
 |some o=>obtain⟨u,q⟩:=(h p o e).there;rw[n]at q;cases q
theorem RelM.laid {K:C0}{H:Hp}{M:Mem}(h:RelM K H M){p:Addr}{o:HO}(n:H p=none):RelM K (upd H p o) M:=λ a u e=>by obtain⟨w,q⟩:=(h a u e).there;exact(h a u e).mono (ak.laid n) (aF (bB q n))
theorem RelM.put {K:C0}{H:Hp}{M:Mem}(h:RelM K H M){p:Addr}{o:HO}{u:MO}(t:ak H (upd H p o))(new:mP K (upd H p o) p u):RelM K (upd H p o) (ah M p u):=λ a w e=>by
 by_cases ha:a=p
 ·subst ha;rw[af]at e;cases e;exact new
 ·rw[av ha]at e;exact(h a w e).mono t (aF ha)
def mO(M M':Mem):Prop:=∀a o,M a=some o->M' a=some o
theorem mO.refl (M:Mem):mO M M:=λ _ _ h=>h
theorem mO.put {M M':Mem}{p:Addr}{o:MO}(h:mO M M')(n:M p=none):mO M (ah M' p o):=λ a u e=>by rw[av (λ z=>by subst z;rw[n]at e;cases e)];exact h a u e
theorem RelM.sub {K:C0}{H:Hp}{M M':Mem}(h:RelM K H M')(s:mO M M'):RelM K H M:=λ a o e=>h a o (s a o e)
abbrev cI:=List (Option D)
structure cA(K:C0)(H:Hp)(δ:cI)(σ:St):Prop where
 len:δ.length=σ.length
 get:∀(i:Nat) (d:D),δ[i]?=some (some d)->∃v,σ[i]?=some (some v)/\Dat K H d v
theorem cA.mono {K:C0}{H H':Hp}{δ:cI}{σ:St}(h:cA K H δ σ)(t:ak H H'):cA K H' δ σ:=
 ⟨h.len,λ i d e=>let⟨v,q,r⟩:=h.get i d e;⟨v,q,Dat.mono t d r⟩⟩
theorem cA.set {K:C0}{H:Hp}{δ:cI}{σ:St}(h:cA K H δ σ){i:Nat}{d:D}{v:V}(r:Dat K H d v):cA K H (δ.set i (some d)) (σ.set i (some v)):=by
 refine⟨by rw[length_set,length_set];exact h.len,λ j e hj=>?_⟩;by_cases Oa:i=j
 ·subst Oa;have hi:i < δ.length:=by have:=(c6.mp hj).1;simpa using this
  rw[i7 hi]at hj;cases hj;exact⟨v,by rw[i7 (by rw[<- h.len];exact hi)],r⟩
 ·rw[j5 Oa]at hj;obtain⟨u,q,w⟩:=h.get j e hj;exact⟨u,by rw[j5 Oa];exact q,w⟩
abbrev bD:=D->Mem->Prop
abbrev bT:=cI->Mem->bD->Prop
abbrev eC:=cI->Mem->(Bool->Mem->Prop)->Prop
abbrev dP:=cI->Mem->(List D->Mem->Prop)->Prop
structure gL where
 nx:cI->Mem->Prop
 rt:bD
 bk:cI->Mem->Prop:=λ _ _=>False
 ct:cI->Mem->Prop:=λ _ _=>False
abbrev iL:=gL->cI->Mem->Prop
def gH(K:C0)(H:Hp)(Q2:bD)(Q:VK):Prop:=∀v H' d M',Dat K H' d v->RelM K H' M'->ak H H'->Q2 d M'->Q v H'
def rK(K:C0)(H:Hp)(Q2:Bool->Mem->Prop)(Q:Bool->Hp->Prop):Prop:=∀b H' M',RelM K H' M'->ak H H'->Q2 b M'->Q b H'
def LI(K:C0)(H:Hp)(Q2:List D->Mem->Prop)(Q:List V->Hp->Prop):Prop:=∀vs H' ds M',ax K H' ds vs->RelM K H' M'->ak H H'->Q2 ds M'->Q vs H'
def jJ(K:C0)(H:Hp)(N2:cI->Mem->Prop)(N:St->Hp->Prop):Prop:=∀σ' H' δ' M',cA K H' δ' σ'->RelM K H' M'->ak H H'->N2 δ' M'->N σ' H'
structure vI(K:C0)(H:Hp)(D2:gL)(E:Ends):Prop where
 nx:jJ K H D2.nx E.nx
 rt:gH K H D2.rt E.rt
 bk:jJ K H D2.bk E.bk
 ct:jJ K H D2.ct E.ct
theorem gH.mono {K:C0}{H H1:Hp}{Q2:bD}{Q:VK}(c:gH K H Q2 Q)(t:ak H H1):gH K H1 Q2 Q:=λ v H' d M' a b e q=>c v H' d M' a b (t.trans e) q
theorem rK.mono {K:C0}{H H1:Hp}{Q2:Bool->Mem->Prop}{Q:Bool->Hp->Prop}(c:rK K H Q2 Q)(t:ak H H1):rK K H1 Q2 Q:=λ v H' M' b e q=>c v H' M' b (t.trans e) q
theorem jJ.mono {K:C0}{H H1:Hp}{N2:cI->Mem->Prop}{N:St->Hp->Prop}(c:jJ K H N2 N)(t:ak H H1):jJ K H1 N2 N:=λ v H' d M' a b e q=>c v H' d M' a b (t.trans e) q
theorem vI.mono {K:C0}{H H1:Hp}{D2:gL}{E:Ends}(c:vI K H D2 E)(t:ak H H1):vI K H1 D2 E:=⟨c.nx.mono t,c.rt.mono t,c.bk.mono t,c.ct.mono t⟩
def up(K:C0)(t:bT):TE:=λ σ H Q=>∃δ M Q2,cA K H δ σ/\RelM K H M/\t δ M Q2/\gH K H Q2 Q
def Bd(K:C0)(t:eC):TT:=λ σ H Q=>∃δ M Q2,cA K H δ σ/\RelM K H M/\t δ M Q2/\rK K H Q2 Q
def O3(K:C0)(t:dP):TA:=λ σ H Q=>∃δ M Q2,cA K H δ σ/\RelM K H M/\t δ M Q2/\LI K H Q2 Q
def MA(K:C0)(t:iL):TS:=λ E σ H=>∃δ M D2,cA K H δ σ/\RelM K H M/\t D2 δ M/\vI K H D2 E
abbrev QE(X:Cx)(e:Expr)(t:bT):Prop:=PE X e (up X.K t)
abbrev QT(X:Cx)(e:Expr)(t:eC):Prop:=PT X e (Bd X.K t)
abbrev QW(X:Cx)(e:Expr)(t:eC):Prop:=PW X e (Bd X.K t)
abbrev QA(X:Cx)(es:List Expr)(t:dP):Prop:=PA X es (O3 X.K t)
abbrev QS(X:Cx)(st:Stmt)(t:iL):Prop:=PS X st (MA X.K t)
abbrev Bl(X:Cx)(aK:List Stmt)(t:iL):Prop:=rJ X aK (MA X.K t)
theorem bF{X:Cx}{e:Expr}{t t':TE}(h:PE X e t)(k:∀σ H Q,t' σ H Q->t σ H Q):PE X e t':=λ pins s σ H Q I q=>h pins s σ H Q I (k σ H Q q)
theorem yP{X:Cx}{e:Expr}{t t':TT}(h:PT X e t)(k:∀σ H Q,t' σ H Q->t σ H Q):PT X e t':=λ pins s σ H Q I q=>h pins s σ H Q I (k σ H Q q)
theorem En{X:Cx}{e:Expr}{t t':TT}(h:PW X e t)(k:∀σ H Q,t' σ H Q->t σ H Q):PW X e t':=λ wh pins s σ H Q I q=>h wh pins s σ H Q I (k σ H Q q)
theorem Er{X:Cx}{es:List Expr}{t t':TA}(h:PA X es t)(k:∀σ H Q,t' σ H Q->t σ H Q):PA X es t':=λ pos pins s σ H Q I q=>h pos pins s σ H Q I (k σ H Q q)
theorem ip{X:Cx}{st:Stmt}{t t':TS}(h:PS X st t)(k:∀E σ H,t' E σ H->t E σ H):PS X st t':=λ pins s σ H E I q=>h pins s σ H E I (k E σ H q)
theorem yR{X:Cx}{aK:List Stmt}{t t':TS}(h:rJ X aK t)(k:∀E σ H,t' E σ H->t E σ H):rJ X aK t':=λ pins s σ H E I q=>h pins s σ H E I (k E σ H q)
end L3
namespace L3
open PySem PySem.Spec L2
abbrev fb:=D->D->Mem->bD->Prop
def IC(K:C0)(r:R2)(r2:fb):Prop:=∀x y d e H M Q2 Q,Dat K H d x->Dat K H e y->RelM K H M->r2 d e M Q2->gH K H Q2 Q->r x y H Q
def OT(K:C0)(r:V->Hp->VK->Prop)(r2:D->Mem->bD->Prop):Prop:=∀x d H M Q2 Q,Dat K H d x->RelM K H M->r2 d M Q2->gH K H Q2 Q->r x H Q
def ID(K:C0)(r:List V->Hp->VK->Prop)(r2:List D->Mem->bD->Prop):Prop:=∀xs ds H M Q2 Q,ax K H ds xs->RelM K H M->r2 ds M Q2->gH K H Q2 Q->r xs H Q
def OU(K:C0)(r:V->List V->Hp->VK->Prop)(r2:D->List D->Mem->bD->Prop):Prop:=∀x xs d ds H M Q2 Q,Dat K H d x->ax K H ds xs->RelM K H M->r2 d ds M Q2->gH K H Q2 Q->r x xs H Q
def Lx(K:C0)(r:V->Option Int->Option Int->Hp->VK->Prop)(r2:D->Option Int->Option Int->Mem->bD->Prop):Prop:=∀x d lo hi H M Q2 Q,Dat K H d x->RelM K H M->r2 d lo hi M Q2->gH K H Q2 Q->r x lo hi H Q
def eW(X:Cx)(f:Value->Value->Sem Value)(r2:fb):Prop:=∃r,eN X f r/\IC X.K r r2
def OR(X:Cx)(f:Value->Sem Value)(r2:D->Mem->bD->Prop):Prop:=∃r,Ms X f r/\OT X.K r r2
def LC(X:Cx)(r2:fb):Prop:=∃r,tR X r/\IC X.K r r2
def Ly(X:Cx)(r2:D->Option Int->Option Int->Mem->bD->Prop):Prop:=∃r,vG X r/\Lx X.K r r2
def cY(X:Cx)(f:Value)(r2:List D->Mem->bD->Prop):Prop:=∃r,cQ X f r/\ID X.K r r2
def Ea(X:Cx)(id:String)(r2:D->List D->Mem->bD->Prop):Prop:=∃r,Mv X id r/\OU X.K r r2
section
variable {X:Cx}{a b c e:Expr}{ta tb tc:bT}{pos:Pos}
def gM(i:Nat):bT:=λ δ M Q=>match δ[i]? with
 |some (some d)=>Q d M
 |_=>False
def sC(d:D):bT:=λ _ M Q=>Q d M
theorem QU(i:Nat){x:Str}(hN:X.N[i]?=some x:=by rfl)(hv:EN X.env.scope x:=by first|exact Or.inl rfl|exact Or.inr (Or.inl rfl)|exact Or.inr (Or.inr rfl))(hd:(x==("__debug__":Str))=false:=by decide) (hcd:(x==("__classdict__":Str))=false:=by decide):QE X (.Name x pos) (gM i):=bF (yX hN hv hd hcd) λ σ H Q ⟨δ,M,Q2,hs,hm,q,k⟩=>by
 unfold gM at q;cases e:δ[i]? with
 |none=>rw[e]at q;exact q.elim
 |some o=>
  cases o with
  |none=>rw[e]at q;exact q.elim
  |some d=>rw[e]at q;obtain⟨v,h1,h2⟩:=hs.get i d e;exact⟨v,h1,k v H d M h2 hm (ak.refl H) q⟩
theorem J9{i j}:QE X (.Constant (.int i) j pos) (sC (.int i)):=bF GN λ σ H Q ⟨δ,M,Q2,hs,hm,q,k⟩=>k _ H (.int i) M (ar.mpr rfl) hm (ak.refl H) q
theorem Nq{i j}:QE X (.Constant (.bool i) j pos) (sC (.bl i)):=bF Kh λ σ H Q ⟨δ,M,Q2,hs,hm,q,k⟩=>k _ H (.bl i) M (aP.mpr rfl) hm (ak.refl H) q
theorem J4{i j}:QE X (.Constant (.str i) j pos) (sC (.str i)):=bF GH λ σ H Q ⟨δ,M,Q2,hs,hm,q,k⟩=>k _ H (.str i) M (aO.mpr rfl) hm (ak.refl H) q
theorem J6{j}:QE X (.Constant .none j pos) (sC .bf):=bF GJ λ σ H Q ⟨δ,M,Q2,hs,hm,q,k⟩=>k _ H .bf M (cU.mpr rfl) hm (ak.refl H) q
theorem Nl{x:Str}{n:String}(hg:Gl X x)(hm:X.mg x=none)(hv:bootBuiltins x=some (.type n))(hn:x≠"__name__":=by decide)(hd:(x==("__debug__":Str))=false:=by decide):QE X (.Name x pos) (sC (.ty n)):=
 bF (C_ (v:=.ty n) hg hm hv rfl hn hd) λ σ H Q ⟨δ,M,Q2,hs,hm,q,k⟩=>k _ H (.ty n) M (tm.mpr rfl) hm (ak.refl H) q
def yi(r2:fb)(ta tb:bT):bT:=λ δ M Q=>ta δ M λ d M1=>tb δ M1 λ e M2=>r2 d e M2 Q
theorem ki{K:C0}{r:R2}{r2:fb}(hr:IC K r r2):∀σ H Q,up K (yi r2 ta tb) σ H Q->Jy r (up K ta) (up K tb) σ H Q:=by rintro σ H Q ⟨δ,M,Q2,hs,hm,q,k⟩;refine⟨δ,M,_,hs,hm,q,λ x H1 d M1 hd bP t1 q1=>?_⟩;refine⟨δ,M1,_,hs.mono t1,bP,q1,λ y H2 e M2 he jC t2 q2=>?_⟩;exact hr x y d e H2 M2 Q2 Q (Dat.mono t2 d hd) he jC q2 (k.mono (t1.trans t2))
theorem Nm{op:Operator}{r2:fb}(o:eW X (binaryOp op) r2)(ha:QE X a ta)(hb:QE X b tb):QE X (.BinOp a op b pos) (yi r2 ta tb):=by obtain⟨r,ho,hr⟩:=o;exact bF (Kf ho ha hb) (ki hr)
def MU(r2:D->Mem->bD->Prop)(ta:bT):bT:=λ δ M Q=>ta δ M λ d M1=>r2 d M1 Q
theorem Nk{op:UnaryOp}{r2:D->Mem->bD->Prop}(o:OR X (unaryOp op) r2)(ha:QE X a ta):QE X (.UnaryOp op a pos) (MU r2 ta):=by obtain⟨r,ho,hr⟩:=o;refine bF (Ke ho ha) ?_;rintro σ H Q ⟨δ,M,Q2,hs,hm,q,k⟩;exact⟨δ,M,_,hs,hm,q,λ x H1 d M1 hd bP t1 q1=>hr x d H1 M1 Q2 Q hd bP q1 (k.mono t1)⟩
theorem J'{op:CmpOp}{r2:fb}(o:eW X (compareOp op) r2)(ha:QE X a ta)(hb:QE X b tb)(hm:behindInMarks op b=false):QE X (.Compare a [op] [b] pos) (yi r2 ta tb):=by obtain⟨r,ho,hr⟩:=o;exact bF (C8 ho ha hb hm) (ki hr)
def nk(t:bT):eC:=λ δ M Q=>t δ M λ d M1=>match d with
 | .bl k=>Q k M1
 |_=>False
theorem mX{K:C0}{H:Hp}{Q2:Bool->Mem->Prop}{Q:Bool->Hp->Prop}(k:rK K H Q2 Q):gH K H (λ d M1=>match d with| .bl k=>Q2 k M1|_=>False) (λ x H'=>∃k,x=.bl k/\Q k H'):=λ v H' d M' hd hm t q=>by
 cases d with
 |bl b=>exact⟨b,aP.mp hd,k b H' M' hm t q⟩
 |_=>exact q.elim
theorem F_{op:CmpOp}{r2:fb}(o:eW X (compareOp op) r2)(ha:QE X a ta)(hb:QE X b tb)(hm:behindInMarks op b=false):QT X (.Compare a [op] [b] pos) (nk (yi r2 ta tb)):=by obtain⟨r,ho,hr⟩:=o;refine yP (CU ho ha hb hm) ?_;rintro σ H Q ⟨δ,M,Q2,hs,hm,q,k⟩;exact ki hr σ H _ ⟨δ,M,_,hs,hm,q,mX k⟩
theorem FY(h:QE X e ta)(he:∀whole,isTrue e X.env whole=(do let v <- whole;standAt e.pos;holding [v] (truthy v)):=by intro _;rfl):QT X e (nk ta):=by refine yP (Gv h he) ?_;rintro σ H Q ⟨δ,M,Q2,hs,hm,q,k⟩;exact⟨δ,M,_,hs,hm,q,mX k⟩
variable {tA tB:eC}{rest:List Expr}
def Fp(t u:eC):eC:=λ δ M Q=>t δ M λ c M1=>if c=true then u δ M1 Q else Q false M1
def MW(t u:eC):eC:=λ δ M Q=>t δ M λ c M1=>if c=true then Q true M1 else u δ M1 Q
def Fh(t:eC):eC:=λ δ M Q=>t δ M λ c M1=>Q (!c) M1
theorem Cu(ha:QT X a tA):QW X (.BoolOp .And [a] pos) tA:=CS ha
theorem FW(ha:QT X a tA):QW X (.BoolOp .Or [a] pos) tA:=Gr ha
theorem FX(ha:QT X a tA)(hb:QW X (.BoolOp .And (b::rest) pos) tB):QW X (.BoolOp .And (a::b::rest) pos) (Fp tA tB):=En (Gu ha hb) λ σ H Q ⟨δ,M,Q2,hs,hm,q,k⟩=>by
 refine⟨δ,M,_,hs,hm,q,λ c H1 M1 bP t1 q1=>?_⟩;cases c with
 |true=>rw[B8 rfl]at q1 ⊢;exact⟨δ,M1,Q2,hs.mono t1,bP,q1,k.mono t1⟩
 |false=>rw[B9 k8]at q1 ⊢;exact k _ _ _ bP t1 q1
theorem J0(ha:QT X a tA)(hb:QW X (.BoolOp .Or (b::rest) pos) tB):QW X (.BoolOp .Or (a::b::rest) pos) (MW tA tB):=En (Kc ha hb) λ σ H Q ⟨δ,M,Q2,hs,hm,q,k⟩=>by
 refine⟨δ,M,_,hs,hm,q,λ c H1 M1 bP t1 q1=>?_⟩;cases c with
 |true=>rw[B8 rfl]at q1 ⊢;exact k _ _ _ bP t1 q1
 |false=>rw[B9 k8]at q1 ⊢;exact⟨δ,M1,Q2,hs.mono t1,bP,q1,k.mono t1⟩
theorem FZ(ha:QT X a tA):QT X (.UnaryOp .Not a pos) (Fh tA):=yP (Gw ha) λ σ H Q ⟨δ,M,Q2,hs,hm,q,k⟩=>⟨δ,M,_,hs,hm,q,λ c H1 M1 bP t1 q1=>k _ _ _ bP t1 q1⟩
def ym(ta tb:bT):bT:=λ δ M Q=>ta δ M λ d M1=>match d with
 | .bl c=>if c=true then tb δ M1 Q else Q (.bl false) M1
 |_=>False
theorem J5{op}(h:QE X a ta):QE X (.BoolOp op [a] pos) ta:=GI h
theorem Kb(ha:QE X a ta)(hb:QE X (.BoolOp .And (b::rest) pos) tb):QE X (.BoolOp .And (a::b::rest) pos) (ym ta tb):=bF (GQ ha hb) λ σ H Q ⟨δ,M,Q2,hs,hm,q,k⟩=>by
 refine⟨δ,M,_,hs,hm,q,λ x H1 d M1 hd bP t1 q1=>?_⟩;cases d with
 |bl c=>
  refine⟨c,aP.mp hd,?_⟩;have q1:if c=true then tb δ M1 Q2 else Q2 (.bl false) M1:=q1
  cases c with
  |true=>rw[B8 rfl]at q1 ⊢;exact⟨δ,M1,Q2,hs.mono t1,bP,q1,k.mono t1⟩
  |false=>rw[B9 k8]at q1 ⊢;exact k _ _ _ _ (aP.mpr rfl) bP t1 q1
 |_=>exact q1.elim
variable {es:List Expr}{t:dP}
def wc:dP:=λ _ M Q=>Q [] M
def nu(ta:bT)(tr:dP):dP:=λ δ M Q=>ta δ M λ d M1=>tr δ M1 λ ds M2=>Q (d::ds) M2
theorem Gi:QA X [] wc:=Er oH λ σ H Q ⟨δ,M,Q2,hs,hm,q,k⟩=>k [] H [] M (by rw[aj]) hm (ak.refl H) q
theorem CI(ha:QE X e ta)(hr:QA X es t)(hs:starEach (e::es) X.env=(false,eval e X.env)::starEach es X.env:=by rfl):QA X (e::es) (nu ta t):=Er (kh ha hr hs) λ σ H Q ⟨δ,M,Q2,hs,hm,q,k⟩=>by refine⟨δ,M,_,hs,hm,q,λ x H1 d M1 hd bP t1 q1=>?_⟩;refine⟨δ,M1,_,hs.mono t1,bP,q1,λ xs H2 ds M2 Ag jC t2 q2=>?_⟩;exact k (x::xs) H2 (d::ds) M2 (ag.mpr ⟨x,xs,rfl,Dat.mono t2 d hd,Ag⟩) jC (t1.trans t2) q2
def Ff(t:dP):bT:=λ δ M Q=>t δ M λ ds M1=>ds.length<=sizeLine/\Q (.tup ds) M1
theorem gg{K:C0}{H:Hp}{p:Addr}{xs:List V}{ds:List D}(hp:H p=none)(h:ax K H ds xs):Dat K (upd H p (.tup xs)) (.tup ds) (.ref p):=aQ.mpr ⟨p,xs,rfl,fz.of aG,ax.mono (ak.laid hp) ds h⟩
theorem J3{x1}(h:QA X es t):QE X (.Tuple es x1 pos) (Ff t):=bF (GG h) λ σ H Q ⟨δ,M,Q2,hs,hm,q,k⟩=>by refine⟨δ,M,_,hs,hm,q,λ xs H1 ds M1 hd bP t1 q1=>?_⟩;refine⟨by rw[hd.length];exact q1.1,λ p hp=>?_⟩;exact k _ _ (.tup ds) M1 (gg hp hd) (bP.laid hp) (t1.trans (ak.laid hp)) q1.2
def Fi(t:dP):bT:=λ δ M Q=>t δ M λ ds M1=>ds.length<=sizeLine/\∀p,M1 p=none->Q (.ref p) (ah M1 p (.lst ds))
theorem dG{K:C0}{H:Hp}{M:Mem}{p:Addr}{xs:List V}{ds:List D}(hp:H p=none)(h:ax K H ds xs)(hm:RelM K H M):RelM K (upd H p (.lst xs)) (ah M p (.lst ds)):=
 hm.put (ak.laid hp) ⟨xs,aG,ax.mono (ak.laid hp) ds h⟩
theorem J7(h:QA X es t):QE X (.List es pos) (Fi t):=bF (GK h) λ σ H Q ⟨δ,M,Q2,hs,hm,q,k⟩=>by refine⟨δ,M,_,hs,hm,q,λ xs H1 ds M1 hd bP t1 q1=>?_⟩;refine⟨by rw[hd.length];exact q1.1,λ p hp=>?_⟩;exact k _ _ (.ref p) _ (aA.mpr rfl) (dG hp hd bP) (t1.trans (ak.laid hp)) (q1.2 p (bP.free hp))
theorem Nn{r2:fb}(o:LC X r2)(ha:QE X a ta)(hb:QE X b tb)(hs:pK b):QE X (.Subscript a b pos) (yi r2 ta tb):=by obtain⟨r,ho,hr⟩:=o;exact bF (Kg ho ha hb hs) (ki hr)
abbrev D':=cI->Mem->(Option Int->Mem->Prop)->Prop
def LG(K:C0)(H:Hp)(Q2:Option Int->Mem->Prop)(Q:Option Int->Hp->Prop):Prop:=∀o H' M',RelM K H' M'->ak H H'->Q2 o M'->Q o H'
def Qr(K:C0)(t:D'):TO:=λ σ H Q=>∃δ M Q2,cA K H δ σ/\RelM K H M/\t δ M Q2/\LG K H Q2 Q
abbrev QO(X:Cx)(e:Option Expr)(t:D'):Prop:=PO X e (Qr X.K t)
theorem Eo{e:Option Expr}{t t':TO}(h:PO X e t)(k:∀σ H Q,t' σ H Q->t σ H Q):PO X e t':=λ pins s σ H Q I q=>h pins s σ H Q I (k σ H Q q)
def oA:D':=λ _ M Q=>Q none M
def yh(t:bT):D':=λ δ M Q=>t δ M λ d M1=>match d with
 | .int i=>Q (some i) M1
 |_=>False
theorem CB:QO X none oA:=Eo C1 λ σ H Q ⟨δ,M,Q2,hs,hm,q,k⟩=>k _ _ _ hm (ak.refl H) q
theorem CA(h:QE X e ta):QO X (some e) (yh ta):=Eo (CZ h) λ σ H Q ⟨δ,M,Q2,hs,hm,q,k⟩=>by
 refine⟨δ,M,_,hs,hm,q,λ x H1 d M1 hd bP t1 q1=>?_⟩;cases d with
 |int i=>exact⟨i,ar.mp hd,k _ _ _ bP t1 q1⟩
 |_=>exact q1.elim
variable {lo hi:Option Expr}{tl th:D'}{p2:Pos}
def MV(r2:D->Option Int->Option Int->Mem->bD->Prop)(te:bT)(tl th:D'):bT:=λ δ M Q=>te δ M λ d M1=>tl δ M1 λ l M2=>th δ M2 λ u M3=>r2 d l u M3 Q
theorem CJ{r2:D->Option Int->Option Int->Mem->bD->Prop}(o:Ly X r2)(he:QE X e ta)(hl:QO X lo tl)(hu:QO X hi th):QE X (.Subscript e (.Slice lo hi none p2) pos) (MV r2 ta tl th):=by obtain⟨r,ho,hr⟩:=o;refine bF (yY ho he hl hu) ?_;rintro σ H Q ⟨δ,M,Q2,hs,hm,q,k⟩;refine⟨δ,M,_,hs,hm,q,λ x H1 d M1 hd bP t1 q1=>?_⟩;refine⟨δ,M1,_,hs.mono t1,bP,q1,λ l H2 M2 jC t2 q2=>?_⟩;refine⟨δ,M2,_,hs.mono (t1.trans t2),jC,q2,λ u H3 M3 HQ t3 q3=>?_⟩;exact hr x d l u H3 M3 Q2 Q (Dat.mono (t2.trans t3) d hd) HQ q3 (k.mono (t1.trans (t2.trans t3)))
def IP(r2:List D->Mem->bD->Prop)(t:dP):bT:=λ δ M Q=>t δ M λ ds M1=>r2 ds M1 Q
variable {x:Str}{p:Pos}{id T:String}
theorem vD{K:C0}{r:List V->Hp->VK->Prop}{r2:List D->Mem->bD->Prop}(hr:ID K r r2):∀σ H Q,up K (IP r2 t) σ H Q->LQ r (O3 K t) σ H Q:=by rintro σ H Q ⟨δ,M,Q2,hs,hm,q,k⟩;exact⟨δ,M,_,hs,hm,q,λ xs H1 ds M1 hd bP t1 q1=>hr xs ds H1 M1 Q2 Q hd bP q1 (k.mono t1)⟩
theorem CQ{r2:List D->Mem->bD->Prop}(o:cY X (.builtin id) r2)(hg:Gl X x)(hm:X.mg x=none)(hv:bootBuiltins x=some (.builtin id))(ha:QA X (e::es) t)(hn:x≠"__name__":=by decide)(hdb:(x==("__debug__":Str))=false:=by decide) (he:starEach (e::es) X.env=(false,eval e X.env)::starEach es X.env:=by rfl) (hpl:(backTo pos (starEach es X.env)).any (·.1)=false:=by rfl):QE X (.Call (.Name x p) (e::es) [] pos) (IP r2 t):=by obtain⟨r,ho,hr⟩:=o;exact bF (qD ho hg hm hv ha hn hdb he hpl) (vD hr)
theorem CN{r2:List D->Mem->bD->Prop}(o:cY X (.type T) r2)(hg:Gl X x)(hm:X.mg x=none)(hv:bootBuiltins x=some (.type T))(ha:QA X (e::es) t)(hn:x≠"__name__":=by decide)(hdb:(x==("__debug__":Str))=false:=by decide) (he:starEach (e::es) X.env=(false,eval e X.env)::starEach es X.env:=by rfl) (hpl:(backTo pos (starEach es X.env)).any (·.1)=false:=by rfl):QE X (.Call (.Name x p) (e::es) [] pos) (IP r2 t):=by obtain⟨r,ho,hr⟩:=o;exact bF (gn ho hg hm hv ha hn hdb he hpl) (vD hr)
end
end L3
namespace L3
open PySem PySem.Spec L2
def IL(T:String)(d:D)(M:Mem):Prop:=match d with
 | .str _=>T="str"
 | .ref a=>T="list"/\∃ds,M a=some (.lst ds)
 |_=>False
theorem IL.v {K:C0}{H:Hp}{M:Mem}{T:String}{d:D}{x:V}(h:IL T d M)(r:Dat K H d x)(hm:RelM K H M):LN K T x H:=by
 cases d with
 |str z=>cases(aO.mp r);exact h
 |ref a=>cases(aA.mp r);obtain⟨e,ds,q⟩:=h;obtain⟨xs,hx,_⟩:=hm a _ q;exact .inl ⟨e,xs,eA.of hx⟩
 |_=>exact h.elim
section
variable {X:Cx}{o e:Expr}{es:List Expr}{to:bT}{t:dP}{T id:String}{name:Str}{apos bQ:Pos}
def IQ(T:String)(r2:D->List D->Mem->bD->Prop)(to:bT)(t:dP):bT:=λ δ M Q=>to δ M λ d M1=>IL T d M1/\t δ M1 λ ds M2=>r2 d ds M2 Q
def Fo(T:String)(r2:D->List D->Mem->bD->Prop)(to:bT):bT:=λ δ M Q=>to δ M λ d M1=>IL T d M1/\r2 d [] M1 Q
theorem Ka{r2:D->List D->Mem->bD->Prop}(pa:PlainAttrs T)(slot:Slot T name id)(hty:typeOf (.builtin id)=pure (.type "method_descriptor"))(hm:Ea X id r2)(ho:QE X o to) (hbase:attributeBase o name X.env (eval o X.env)=eval o X.env:=by rfl) (hline:(apos.endLine==bQ.line)=true:=by rfl):QE X (.Call (.Attribute o name apos) [] [] bQ) (Fo T r2 to):=by obtain⟨r,h1,hr⟩:=hm;refine bF (GP pa slot hty h1 ho hbase hline) ?_;rintro σ H Q ⟨δ,M,Q2,hs,hm,q,k⟩;exact⟨δ,M,_,hs,hm,q,λ x H1 d M1 hd bP t1 q1=>⟨q1.1.v hd bP,hr x [] d [] H1 M1 Q2 Q hd (by rw[aj]) bP q1.2 (k.mono t1)⟩⟩
theorem Np{r2:D->List D->Mem->bD->Prop}(pa:PlainAttrs T)(slot:Slot T name id)(hty:typeOf (.builtin id)=pure (.type "method_descriptor"))(hm:Ea X id r2)(ho:QE X o to)(ha:QA X (e::es) t) (hbase:attributeBase o name X.env (eval o X.env)=eval o X.env:=by rfl) (hfew:((backTo bQ (starEach (e::es) X.env)).all (λ x=>!x.1)&&(backToKw bQ (keywordEach [] X.env)).all (λ x=>x.1.isSome)
   &&decide ((e::es).length+([]:List Keyword).length+(if([]:List Keyword).isEmpty then 0 else 1) < 30))=true:=by rfl)
  (hline:(apos.endLine==bQ.line)=true:=by rfl) (hs:starEach (e::es) X.env=(false,eval e X.env)::starEach es X.env:=by rfl) (hplain:(backTo bQ (starEach es X.env)).any (·.1)=false:=by rfl):
  QE X (.Call (.Attribute o name apos) (e::es) [] bQ) (IQ T r2 to t):=by
 obtain⟨r,h1,hr⟩:=hm;refine bF (Ep pa slot hty h1 ho ha hbase hfew hline hs hplain) ?_;rintro σ H Q ⟨δ,M,Q2,hs,hm,q,k⟩;refine⟨δ,M,_,hs,hm,q,λ x H1 d M1 hd bP t1 q1=>⟨q1.1.v hd bP,δ,M1,_,hs.mono t1,bP,q1.2,λ xs H2 ds M2 Ag jC t2 q2=>?_⟩⟩;exact hr x xs d ds H2 M2 Q2 Q (Dat.mono t2 d hd) Ag jC q2 (k.mono (t1.trans t2))
end
abbrev gK:=List D->Mem->bD->Prop
def cW(K:C0)(sp:gK):Sp:=λ vs H Q _=>∃ds M Q2,ax K H ds vs/\RelM K H M/\sp ds M Q2/\gH K H Q2 Q
def sD(sp:gK)(t:dP):bT:=λ δ M Q=>t δ M λ ds M1=>sp ds M1 Q
abbrev dj(P:Program)(w:World)(K:C0)(mg:Str->Option Value)(base:Heap)(k:Nat)(x:Str)(ps:List Str)(sp:gK):Prop:=bW P w K mg base k x ps (cW K sp)
section
variable {X:Cx}{x:Str}{p pos:Pos}{e:Expr}{es:List Expr}{t:dP}{k j:Nat}{ps:List Str}{sp:gK}
theorem J_(d:dj X.prog X.w X.K X.mg X.base k x ps sp)(hr:cB k X.A)(hg:Gl X x)(ha:QA X (e::es) t)(hdb:(x==("__debug__":Str))=false:=by decide)(he:starEach (e::es) X.env=(false,eval e X.env)::starEach es X.env:=by rfl) (hpl:(backTo pos (starEach es X.env)).any (·.1)=false:=by rfl):QE X (.Call (.Name x p) (e::es) [] pos) (sD sp t):=by refine bF (GO d hr hg ha hdb he hpl) ?_;rintro σ H Q ⟨δ,M,Q2,hs,hm,q,k⟩;exact⟨δ,M,_,hs,hm,q,λ xs H1 ds M1 hd bP t1 q1=>⟨ds,M1,Q2,hd,bP,q1,k.mono t1⟩⟩
end
def fF(N:List Str)(ds:List D):cI:=ds.map some++List.replicate (N.length - ds.length) none
theorem ni{K:C0}{H:Hp}{N:List Str}{ds:List D}{vs:List V}(h:ax K H ds vs):cA K H (fF N ds) (L2.start N vs):=by
 have hl:=h.length;refine⟨by unfold fF L2.start;simp[hl],λ i d e=>?_⟩;unfold fF at e;by_cases hi:i < ds.length
 ·rw[c4 (by simpa using hi),m8]at e;cases q:ds[i]? with
  |none=>rw[q]at e;cases e
  |some d'=>
   rw[q]at e;have e:d'=d:=by simpa using e
   subst e;obtain⟨v,hv,r⟩:=h.get q;refine⟨v,?_,r⟩;unfold L2.start;rw[c4 (by simp;omega),m8,hv];rfl
 ·rw[a9 (by simpa using hi),i0]at e;split at e <;> cases e
def fin2(Q:bD):bD:=λ d M'=>∃iT,mO iT M'/\Q d iT
theorem aB{Q:bD}{d:D}{M:Mem}(q:Q d M):fin2 Q d M:=⟨M,mO.refl M,q⟩
section
variable {P:Program}{w:World}{K:C0}{mg:Str->Option Value}{base:Heap}
theorem QZ{x qual:Str}{st:Stmt}{f:Addr}{fd:FuncData}{N ps:List Str}{k:Nat}{sp:gK}(F:jH K x qual st f fd)(S:aR N ps (aq st))(len:∀ds M Q,sp ds M Q->ds.length=ps.length) (dw:∀(dD:Value) (A:Around) (outer:List Env) (s:Shared) (H:Hp) (E:XK) (ds:List D) (M:Mem) (Q:bD),cB k (A.deeper (PyProof.Rows.envOfC qual (aq st) s.heap.objs.size f dD))->sp ds M Q->
   ∃t,Bl (mJ fh P w K mg base N qual (aq st) f dD A outer s H E).Dq (bx st) t/\t {nx:=λ _ M'=>fin2 Q .bf M',rt:=fin2 Q} (fF N ds) M):cu P w K mg base fh (k+1) f fd ps (cW K sp):=by
 refine F.ok S (λ vs H Q E h=>?_) (λ dD A outer s H vs Q E hr h=>?_)
 ·obtain⟨ds,M,Q2,hd,_,hs,_⟩:=h;rw[hd.length];exact len ds M Q2 hs
 ·obtain⟨ds,M,Q2,hd,hm,hs,kk⟩:=h;obtain⟨t,ht,q⟩:=dw dD A outer s H E ds M Q2 hr hs;refine⟨_,ht,fF N ds,M,_,ni hd,hm,q,⟨?_,?_,?_,?_⟩⟩
  ·exact λ σ' H' δ' M' _ eg t' ⟨iT,s,q⟩=>kk _ H' .bf iT (cU.mpr rfl) (eg.sub s) t' q
  ·exact λ v H' d M' mw eg t' ⟨iT,s,q⟩=>kk v H' d iT mw (eg.sub s) t' q
  ·exact λ σ' H' δ' M' _ eg t' q=>q
  ·exact λ σ' H' δ' M' _ eg t' q=>q
end
section
variable {X:Cx}{st:Stmt}{rest:List Stmt}{t u:iL}{te:bT}{e:Expr}{pos:Pos}
def uo:iL:=λ E δ M=>E.nx δ M
def yg(t u:iL):iL:=λ E δ M=>t {E with nx:=u E} δ M
theorem Cw:Bl X [] uo:=yR CW λ E σ H ⟨δ,M,D2,hs,hm,q,k⟩=>k.nx σ H δ M hs hm (ak.refl H) q
theorem Cv(h:QS X st t):Bl X [st] t:=CV h
theorem yK(h1:QS X st t)(h2:Bl X rest u):Bl X (st::rest) (yg t u):=yR (yQ h1 h2) λ E σ H ⟨δ,M,D2,hs,hm,q,k⟩=>by refine⟨δ,M,_,hs,hm,q,⟨λ σ' H' δ' M' iR eg t' q'=>?_,k.rt,k.bk,k.ct⟩⟩;exact⟨δ',M',D2,iR,eg,q',k.mono t'⟩
def qp(te:bT):iL:=λ E δ M=>te δ M λ _ M1=>E.nx δ M1
theorem Cy(he:QE X e te)(hs:swapsWith e none pos.line X.env=pure false:=by rfl):QS X (.Expr e pos) (qp te):=ip (CY he hs) λ E σ H ⟨δ,M,D2,hs,hm,q,k⟩=>
 ⟨δ,M,_,hs,hm,q,λ x H1 d M1 hd bP t1 q1=>k.nx σ H1 δ M1 (hs.mono t1) bP t1 q1⟩
def Fg(te:bT):iL:=λ E δ M=>te δ M E.rt
theorem Gb(he:QE X e te):QS X (.Return (some e) pos) (Fg te):=ip (Gy he) λ E σ H ⟨δ,M,D2,hs,hm,q,k⟩=>⟨δ,M,_,hs,hm,q,k.rt⟩
def BN(c:eC)(t u:iL):iL:=λ E δ M=>c δ M λ b M1=>if b=true then t E δ M1 else u E δ M1
theorem J1{c:Expr}{a b:List Stmt}{tc:eC}(hc:QT X c tc)(ha:Bl X a t)(hb:Bl X b u):QS X (.If c a b pos) (BN tc t u):=ip (Kd hc ha hb) λ E σ H ⟨δ,M,D2,hs,hm,q,k⟩=>by
 refine⟨δ,M,_,hs,hm,q,λ b H1 M1 bP t1 q1=>?_⟩;cases b with
 |true=>rw[B8 rfl]at q1 ⊢;exact⟨δ,M1,D2,hs.mono t1,bP,q1,k.mono t1⟩
 |false=>rw[B9 k8]at q1 ⊢;exact⟨δ,M1,D2,hs.mono t1,bP,q1,k.mono t1⟩
abbrev gB:=D->cI->Mem->(cI->Mem->Prop)->Prop
abbrev mh:=List D->cI->Mem->(cI->Mem->Prop)->Prop
def Ee(K:C0)(t:gB):TG:=λ v σ H Q=>∃d δ M Q2,Dat K H d v/\cA K H δ σ/\RelM K H M/\t d δ M Q2/\jJ K H Q2 Q
def MB(K:C0)(t:mh):vF:=λ vs σ H Q=>∃ds δ M Q2,ax K H ds vs/\cA K H δ σ/\RelM K H M/\t ds δ M Q2/\jJ K H Q2 Q
abbrev QG(X:Cx)(tg:Expr)(t:gB):Prop:=PG X tg (Ee X.K t)
abbrev Lz(X:Cx)(tg:List Expr)(t:mh):Prop:=IE X tg (MB X.K t)
theorem yW{tg:Expr}{g g':TG}(h:PG X tg g)(k:∀v σ H Q,g' v σ H Q->g v σ H Q):PG X tg g':=λ pins s σ H v u Q I r q=>h pins s σ H v u Q I r (k v σ H Q q)
theorem yV{tg:List Expr}{g g':vF}(h:IE X tg g)(k:∀v σ H Q,g' v σ H Q->g v σ H Q):IE X tg g':=λ pins s σ H v u Q I r q=>h pins s σ H v u Q I r (k v σ H Q q)
def hName(i:Nat):gB:=λ d δ M Q=>Q (δ.set i (some d)) M
theorem i_{K:C0}{i:Nat}:∀v σ H Q,Ee K (hName i) v σ H Q->ck i v σ H Q:=λ v σ H Q ⟨d,δ,M,Q2,hd,hs,hm,q,k⟩=>k _ H _ M (hs.set hd) hm (ak.refl H) q
theorem CH{i:Nat}{x:Str}(hN:X.N.Nodup)(hi:X.N[i]?=some x)(hx:Loc X.env.scope x)(hf:X.fn x=true\/X.env.scope.names.lookup x=some .local:=by first|exact .inl rfl|exact .inr rfl|assumption):QG X (.Name x pos) (hName i):=
 yW (bc hN hi hx hf) i_
def mI:mh:=λ ds δ M Q=>match ds with
 |[]=>Q δ M
 |_=>False
def cC(t:gB)(u:mh):mh:=λ ds δ M Q=>match ds with
 |d::r=>t d δ M λ δ' M'=>u r δ' M' Q
 |_=>False
theorem CG:Lz X [] mI:=yV kg λ v σ H Q ⟨ds,δ,M,Q2,hd,hs,hm,q,k⟩=>by
 cases ds with
 |nil=>exact⟨aj.mp hd,k _ H _ M hs hm (ak.refl H) q⟩
 |cons d r=>exact q.elim
theorem yM{e:Expr}{es:List Expr}{t:gB}{u:mh}(h1:QG X e t)(h2:Lz X es u) (hs:(assignEach (e::es) X.env).map (·.2)=assign e X.env::(assignEach es X.env).map (·.2):=by rfl):Lz X (e::es) (cC t u):=yV (dv h1 h2 hs) λ v σ H Q ⟨ds,δ,M,Q2,hd,hs,hm,q,k⟩=>by
 cases ds with
 |nil=>exact q.elim
 |cons d r=>obtain⟨x,xs,rfl,hx,NQ⟩:=ag.mp hd;refine⟨x,xs,rfl,d,δ,M,_,hx,hs,hm,q,λ σ' H' δ' M' iR eg t' q'=>?_⟩;exact⟨r,δ',M',Q2,ax.mono t' r NQ,iR,eg,q',k.mono t'⟩
def mH(n:Nat)(t:mh):gB:=λ d δ M Q=>match d with
 | .tup ds=>ds.length=n/\t ds δ M Q
 |_=>False
theorem Gg{es:List Expr}{k:Nat}{t:mh}{n:Nat}(hc:X.calm=true)(h:Lz X es t) (hn:(assignEach es X.env).length=n:=by rfl) (hst:(assignEach es X.env).findIdx? (·.1)=none:=by rfl):QG X (.Tuple es k pos) (mH n t):=yW (oF hc h hn hst) λ v σ H Q ⟨d,δ,M,Q2,hd,hs,hm,q,k⟩=>by
 cases d with
 |tup ds=>obtain⟨p,xs,rfl,hq,hx⟩:=aQ.mp hd;exact⟨p,xs,rfl,hq,by rw[hx.length];exact q.1,ds,δ,M,Q2,hx,hs,hm,q.2,k⟩
 |_=>exact q.elim
abbrev iK:=D->D->D->Mem->(Mem->Prop)->Prop
def LH(K:C0)(H:Hp)(N2:Mem->Prop)(N:Hp->Prop):Prop:=∀H' M',RelM K H' M'->ak H H'->N2 M'->N H'
def IB(K:C0)(r:xr)(r2:iK):Prop:=∀o i v d j e H M Q2 Q,Dat K H d o->Dat K H j i->Dat K H e v->RelM K H M->r2 d j e M Q2->LH K H Q2 Q->r o i v H Q
def AX(X:Cx)(r2:iK):Prop:=∃r,pL X r/\IB X.K r r2
def hSub(to ti:bT)(t:iK):gB:=λ e δ M Q=>to δ M λ d M1=>ti δ M1 λ j M2=>t d j e M2 λ M3=>Q δ M3
theorem Gh{o i:Expr}{to ti:bT}{t:iK}(ho:QE X o to)(hi:QE X i ti)(hs:AX X t) (ha:∀v,assign (.Subscript o i pos) X.env v=(do
   let ov <- holding [v] (eval o X.env)
   let iv <- holding [v,ov] (eval i X.env)
   standAt pos
   holding [v,ov,iv] (setItem ov iv v)
   release [v,ov,iv] []):=by intro _;rfl):QG X (.Subscript o i pos) (hSub to ti t):=by
 obtain⟨r,h1,hr⟩:=hs;refine yW (GF ho hi h1 ha) ?_;rintro v σ H Q ⟨e,δ,M,Q2,hd,hs,hm,q,k⟩;refine⟨δ,M,_,hs,hm,q,λ x H1 d M1 hx bP t1 q1=>?_⟩;refine⟨δ,M1,_,hs.mono t1,bP,q1,λ y H2 j M2 hy jC t2 q2=>?_⟩;exact hr x y v d j e H2 M2 _ _ (Dat.mono t2 d hx) hy (Dat.mono (t1.trans t2) e hd) jC q2 λ H3 M3 HQ t3 q3=>k σ H3 δ M3 (hs.mono (t1.trans (t2.trans t3))) HQ (t1.trans (t2.trans t3)) q3
def qr(te:bT)(g:gB):iL:=λ E δ M=>te δ M λ d M1=>g d δ M1 E.nx
theorem rF{K:C0}{g:TG}{g2:gB}(hg:∀v σ H Q,Ee K g2 v σ H Q->g v σ H Q):∀E σ H,MA K (qr te g2) E σ H->BF (up K te) g E σ H:=by rintro E σ H ⟨δ,M,D2,hs,hm,q,k⟩;exact⟨δ,M,_,hs,hm,q,λ x H1 d M1 hd bP t1 q1=>hg x σ H1 _ ⟨d,δ,M1,_,hd,hs.mono t1,bP,q1,k.nx.mono t1⟩⟩
theorem Ge{tg e:Expr}{g:gB}(he:QE X e te)(hg:QG X tg g)(hs:swapsWithSole [tg] e pos.line X.env=pure false:=by rfl)(hw:swappedStores [tg] e X.env=pure none:=by rfl) (h1:(assignEach [tg] X.env).map (·.2)=[assign tg X.env]:=by rfl):QS X (.Assign [tg] e pos) (qr te g):=ip (GB he hg hs hw h1) (rF λ _ _ _ _ h=>h)
theorem Ga{i:Nat}{x:Str}{e:Expr}{pos':Pos}(hN:X.N.Nodup)(hi:X.N[i]?=some x)(hx:Loc X.env.scope x)(he:QE X e te)(hs:swapsWith e (some (.Name x pos')) pos.line X.env=pure false:=by rfl) (hf:X.fn x=true\/X.env.scope.names.lookup x=some .local:=by first|exact .inl rfl|exact .inr rfl|assumption):QS X (.Assign [.Name x pos'] e pos) (qr te (hName i)):=ip (Gx hN hi hx he hs hf) (rF i_)
end
end L3
namespace L3
open PySem PySem.Spec L2
inductive Src where
 |fix (ds:List D)
 |at(a:Addr)
 |fn (f:Mem->Option (List D))
def items(s:Src)(M:Mem):Option (List D):=match s with
 | .fix ds=>some ds
 | .at a=>match M a with
  |some (.lst ds)=>some ds
  |_=>none
 | .fn f=>f M
def pM(K:C0)(H1:Hp)(J:It)(src:Src):Prop:=∀H M ds,ak H1 H->RelM K H M->items src M=some ds->
 (∀i,i < ds.length->J.go i H)/\(∀i,i=ds.length->J.stop i H)/\(∀i x H',i < ds.length->J.Br i H x H'->ak H H'/\RelM K H' M/\∃d,ds[i]?=some d/\Dat K H' d x)
abbrev nW:=cI->Mem->(Src->Mem->Prop)->Prop
def LM(K:C0)(t:nW):TI:=λ σ H R=>∃δ M R2,cA K H δ σ/\RelM K H M/\t δ M R2/\∀J H' src M',pM K H' J src->RelM K H' M'->ak H H'->R2 src M'->R J H'
abbrev QI(X:Cx)(tg iter:Expr)(t:nW):Prop:=PI X tg iter (LM X.K t)
theorem uE{X:Cx}{tg iter:Expr}{t t':TI}(h:PI X tg iter t)(k:∀σ H R,t' σ H R->t σ H R):PI X tg iter t':=λ pins s σ H R I q=>h pins s σ H R I (k σ H R q)
def iW(z:Str):List D:=z.cps.toList.map λ c=>D.str ⟨#[c]⟩
def cF(lo:Int)(n:Nat):List D:=(List.range n).map λ i=>D.int (lo+(i:Nat))
theorem bA(lo:Int)(n:Nat):(cF lo n).length=n:=by simp[cF]
theorem lH{lo:Int}{n i:Nat}(h:i < n):(cF lo n)[i]?=some (.int (lo+(i:Nat))):=by simp[cF,h]
theorem zM{K:C0}{H1:Hp}{z:Str}:pM K H1 (Jm z) (.fix (iW z)):=λ H M ds t hm e=>by
 cases e;have hl:(iW z).length=z.cps.size:=by simp[iW]
 refine⟨λ i hi=>by rw[hl]at hi;exact hi,λ i hi=>by rw[hl]at hi;exact hi,λ i x H' hi y=>?_⟩;obtain⟨e,c,hc,rfl⟩:=y;subst e;refine⟨ak.refl _,hm,.str ⟨#[c]⟩,?_,aO.mpr rfl⟩;simp[iW,hc]
theorem zL{K:C0}{H1:Hp}{a:Addr}{xs:List V}{ds:List D}(h:fz K H1 a xs)(hd:ax K H1 ds xs):pM K H1 (OY K a) (.fix ds):=λ H M es t hm e=>by cases e;have hq:=xW t h;have hx:=ax.mono t ds hd;have hl:=hx.length;refine⟨λ i hi=>⟨xs,xs[i]'(by omega),hq,by simp[hl,hi]⟩,λ i hi=>⟨xs,hq,by omega⟩,λ i x H' hi y=>?_⟩;obtain⟨e,y⟩:=y;obtain⟨d,h1,h2⟩:=hx.Aq (y xs hq);subst e;exact⟨ak.refl _,hm,d,h1,h2⟩
theorem zN{K:C0}{H1:Hp}{a:Addr}:pM K H1 (Mx K a) (.at a):=λ H M ds t hm e=>by
 have e:(match M a with|some (.lst ds)=>some ds|_=>none)=some ds:=e;cases q:M a with
 |none=>rw[q]at e;cases e
 |some o=>
  cases o with
  |cE b kvs=>rw[q]at e;cases e
  |g_ x=>rw[q]at e;cases e
  |lst es=>rw[q]at e;have e:es=ds:=u6 e;subst e;obtain⟨xs,hx,hd⟩:=hm a _ q;have hq:eA K H a xs:=eA.of hx;have hl:=hd.length;refine⟨λ i hi=>⟨xs,xs[i]'(by omega),hq,by simp[hl,hi]⟩,λ i hi=>⟨xs,hq,by omega⟩,λ i x H' hi y=>?_⟩;obtain⟨e,y⟩:=y;obtain⟨d,h1,h2⟩:=hd.Aq (y xs hq);subst e;exact⟨ak.refl _,hm,d,h1,h2⟩
theorem Dy{K:C0}{H1:Hp}{a:Addr}{xs:List V}{ds:List D}(h:Bn K H1 a xs)(hd:ax K H1 ds xs):pM K H1 (Mx K a) (.fix ds):=λ H M es t hm e=>by cases e;have hq:=(Ar t h).sq;have hx:=ax.mono t ds hd;have hl:=hx.length;refine⟨λ i hi=>⟨xs,xs[i]'(by omega),hq,by simp[hl,hi]⟩,λ i hi=>⟨xs,hq,by omega⟩,λ i x H' hi y=>?_⟩;obtain⟨e,y⟩:=y;obtain⟨d,h1,h2⟩:=hx.Aq (y xs hq);subst e;exact⟨ak.refl _,hm,d,h1,h2⟩
theorem sR{K:C0}{H1:Hp}{lo:Int}{n:Nat}:pM K H1 (Mw lo n) (.fix (cF lo n)):=λ H M ds t hm e=>by cases e;rw[bA];refine⟨λ i hi=>hi,λ i hi=>A3 hi.symm,λ i x H' hi y=>?_⟩;obtain⟨e,rfl⟩:=y;subst e;exact⟨ak.refl _,hm,_,lH hi,ar.mpr rfl⟩
section
variable {X:Cx}{tg l:Expr}{tl:bT}{ta:dP}{a b:Expr}{p pos:Pos}
def Hx(tl:bT):nW:=λ δ M R=>tl δ M λ d M1=>match d with
 | .str z=>R (.fix (iW z)) M1
 | .tup ds=>R (.fix ds) M1
 | .fl ds=>R (.fix ds) M1
 | .ref a=>match M1 a with
  |some (.lst _)=>R (.at a) M1
  |_=>False
 |_=>False
theorem Gf(hl:QE X l tl):QI X tg l (Hx tl):=uE (GD hl) λ σ H R ⟨δ,M,R2,hs,hm,q,k⟩=>by
 refine⟨δ,M,_,hs,hm,q,λ x H1 d M1 hd bP t1 q1=>?_⟩;cases d with
 |str z=>cases(aO.mp hd);exact k _ H1 _ M1 zM bP t1 q1
 |tup ds=>obtain⟨p,xs,rfl,hq,hx⟩:=aQ.mp hd;exact .inr ⟨xs,hq,k _ H1 _ M1 (zL hq hx) bP t1 q1⟩
 |fl ds=>obtain⟨p,xs,rfl,hq,hx⟩:=gT.mp hd;exact .inl ⟨xs,hq.sq,k _ H1 _ M1 (Dy hq hx) bP t1 q1⟩
 |ref a=>
  cases(aA.mp hd);have q1:(match M1 a with|some (.lst _)=>R2 (.at a) M1|_=>False):=q1;cases e:M1 a with
  |none=>rw[e]at q1;exact q1.elim
  |some o=>
   cases o with
   |cE b kvs=>rw[e]at q1;exact q1.elim
   |g_ x=>rw[e]at q1;exact q1.elim
   |lst es=>rw[e]at q1;obtain⟨xs,hx,_⟩:=bP a _ e;exact .inl ⟨xs,eA.of hx,k _ H1 _ M1 zN bP t1 q1⟩
 |_=>exact q1.elim
def OZ(j:Int):Prop:= -(2^62)<=j/\j < 2^62
theorem cK{j:Int}(h0: -1000000000<=j)(h1:j<=1000000000):OZ j:=by
 constructor
 ·exact Int.le_trans (by decide) h0
 ·exact m6 h1 (by decide)
def zI(ta:dP):nW:=λ δ M R=>ta δ M λ ds M1=>match ds with
 |[.int j]=>OZ j/\R (.fix (cF 0 j.toNat)) M1
 |_=>False
theorem wq(hg:Gl X "range")(hm:X.mg "range"=none)(ha:QA X [a] ta)(hs:starEach [a] X.env=[(false,eval a X.env)]:=by rfl):QI X tg (.Call (.Name "range" p) [a] [] pos) (zI ta):=uE (wu hg hm ha hs) λ σ H R ⟨δ,M,R2,hs,hm,q,k⟩=>by
 refine⟨δ,M,_,hs,hm,q,λ xs H1 ds M1 hd bP t1 q1=>?_⟩;cases ds with
 |nil=>exact q1.elim
 |cons d r=>
  cases r with
  |cons d2 r2=>cases d <;> exact q1.elim
  |nil=>
   cases d with
   |int j=>obtain⟨x,r,rfl,hx,hr⟩:=ag.mp hd;cases(aj.mp hr);cases(ar.mp hx);obtain⟨⟨b1,b2⟩,q1⟩:=q1;exact⟨j,rfl,b1,b2,k _ H1 _ M1 sR bP t1 q1⟩
   |_=>exact q1.elim
end
end L3
namespace L3
open PySem PySem.Spec L2
def Fm(wi:nW)(g:gB)(tb:iL):iL:=λ E δ M=>wi δ M λ src M1=>∃(B:Nat) (W:Nat->cI->Mem->Prop),W 0 δ M1/\∀i δ M,W i δ M->i<=B/\match items src M with
 |none=>False
 |some ds=>match ds[i]? with
  |none=>i=ds.length/\E.nx δ M
  |some d=>g d δ M λ δ2 M2=>tb {E with nx:=W (i+1),ct:=W (i+1),bk:=E.nx} δ2 M2
section
variable {X:Cx}{tg iter:Expr}{wi:nW}{g:gB}{tb:iL}{body:List Stmt}{pos:Pos}
theorem Gd(hp:PassesOwn (model X.prog X.w) X.A X.env X.xe)(hc:X.calm=true)(hi:QI X tg iter wi)(hg:QG X tg g)(hb:Bl X body tb)(hs:∀x,foldedSetIterable iter X.env x=pure x:=by intro _;rfl):QS X (.For tg iter body [] pos) (Fm wi g tb):=ip (Gz hp hc hi hg hb hs) λ E σ H ⟨δ,M,D2,hs,hm,q,k⟩=>by
 refine⟨δ,M,_,hs,hm,q,λ J H1 src M1 ok bP t1 q1=>?_⟩;obtain⟨B,W,w0,turn⟩:=q1;refine⟨λ i m σ' H'=>m=B+1 - i/\∃δ' M',cA X.K H' δ' σ'/\RelM X.K H' M'/\ak H1 H'/\W i δ' M',⟨B+1,rfl,δ,M1,hs.mono t1,bP,ak.refl _,w0⟩,?_⟩;rintro i m σ' H' ⟨rfl,δ',M',iR,eg,t',w'⟩;obtain⟨hB,h⟩:=turn i δ' M' w';cases ei:items src M' with
 |none=>rw[ei]at h;exact h.elim
 |some ds=>
  rw[ei]at h;obtain⟨go,stop,Br⟩:=ok H' M' ds t' eg ei;cases ed:ds[i]? with
  |none=>simp only[ed]at h;exact .inl ⟨stop i h.1,k.nx σ' H' δ' M' iR eg (t1.trans t') h.2⟩
  |some d=>
   simp only[ed]at h;have Bh:i < ds.length:=(c6.mp ed).1;refine .inr ⟨go i Bh,λ σ2 H2=>∃δ2 M2,cA X.K H2 δ2 σ2/\RelM X.K H2 M2/\ak H1 H2/\W (i+1) δ2 M2,λ σ2 H2 ⟨δ2,M2,a,b,c,w2⟩=>⟨B+1 - (i+1),by omega,rfl,δ2,M2,a,b,c,w2⟩,λ x H2 y=>?_⟩;obtain⟨t2,jC,d',e',mw⟩:=Br i x H2 Bh y;rw[ed]at e';cases e';refine⟨d,δ',M',_,mw,iR.mono t2,jC,h,λ σ3 H3 δ3 M3 Mb HQ t3 q3=>?_⟩;refine⟨δ3,M3,_,Mb,HQ,q3,⟨?_,?_,?_,?_⟩⟩
   ·exact λ σ4 H4 δ4 M4 a b c w4=>⟨δ4,M4,a,b,t'.trans (t2.trans (t3.trans c)),w4⟩
   ·exact k.rt.mono (t1.trans (t'.trans (t2.trans t3)))
   ·exact k.nx.mono (t1.trans (t'.trans (t2.trans t3)))
   ·exact λ σ4 H4 δ4 M4 a b c w4=>⟨δ4,M4,a,b,t'.trans (t2.trans (t3.trans c)),w4⟩
end
end L3
namespace L3
open PySem PySem.Spec L2
def sj(c:eC)(tb:iL):iL:=λ E δ M=>∃W:Nat->cI->Mem->Prop,(∃m,W m δ M)/\∀m δ M,W m δ M->c δ M λ b M1=>
 if b=true then ∃N:cI->Mem->Prop,(∀δ' M',N δ' M'->∃m',m' < m/\W m' δ' M')/\tb {E with nx:=N,ct:=N,bk:=E.nx} δ M1 else E.nx δ M1
section
variable {X:Cx}{c:Expr}{tc:eC}{tb:iL}{body:List Stmt}{pos:Pos}
theorem yL(hp:PassesOwn (model X.prog X.w) X.A X.env X.xe)(hc:QT X c tc)(hb:Bl X body tb):QS X (.While c body [] pos) (sj tc tb):=ip (yS hp hc hb) λ E σ H ⟨δ,M,D2,hs,hm,q,k⟩=>by
 obtain⟨W,⟨m0,w0⟩,turn⟩:=q;refine⟨λ m σ' H'=>∃δ' M',cA X.K H' δ' σ'/\RelM X.K H' M'/\ak H H'/\W m δ' M',⟨m0,δ,M,hs,hm,ak.refl _,w0⟩,?_⟩;rintro m σ' H' ⟨δ',M',iR,eg,t',w'⟩;refine⟨δ',M',_,iR,eg,turn m δ' M' w',λ b H1 M1 bP t1 q1=>?_⟩;cases b with
 |false=>simp only[l0,B5]at q1;exact k.nx σ' H1 δ' M1 (iR.mono t1) bP (t'.trans t1) q1
 |true=>
  simp only[if_true]at q1;obtain⟨N,hN,q1⟩:=q1;refine⟨λ σ2 H2=>∃δ2 M2,cA X.K H2 δ2 σ2/\RelM X.K H2 M2/\ak H H2/\N δ2 M2,λ σ2 H2 ⟨δ2,M2,a,b,c,n2⟩=>?_,?_⟩
  ·obtain⟨m',eg,w2⟩:=hN δ2 M2 n2;exact⟨m',eg,δ2,M2,a,b,c,w2⟩
  ·refine⟨δ',M1,_,iR.mono t1,bP,q1,⟨?_,?_,?_,?_⟩⟩
   ·exact λ σ4 H4 δ4 M4 a b c w4=>⟨δ4,M4,a,b,t'.trans (t1.trans c),w4⟩
   ·exact k.rt.mono (t'.trans t1)
   ·exact k.nx.mono (t'.trans t1)
   ·exact λ σ4 H4 δ4 M4 a b c w4=>⟨δ4,M4,a,b,t'.trans (t1.trans c),w4⟩
end
end L3
namespace L3
open PySem PySem.Spec L2
def gX(n:Nat)(fr:List Nat)(δ:cI):cI:=List.replicate n none++fr.map (λ j=>δ.getD j none)
theorem D6{K:C0}{H:Hp}{δ:cI}{σ:L2.St}(h:cA K H δ σ)(n:Nat)(fr:List Nat):cA K H (gX n fr δ) (eh n fr σ):=by
 refine⟨by simp[gX,eh],λ i d e=>?_⟩;unfold gX at e;by_cases hi:i < n
 ·rw[c4 (by simpa using hi),i0,B8 hi]at e;cases e
 ·rw[a9 (by simpa using hi),j2,m8]at e;cases ej:fr[i - n]? with
  |none=>rw[ej]at e;cases e
  |some j=>
   rw[ej]at e;have e:δ.getD j none=some d:=u6 e;have hj:j < δ.length:=by refine Nat.lt_of_not_le λ z=>?_;rw[c3,getElem?_eq_none z]at e;cases e
   have e':δ[j]?=some (some d):=by rw[c3,c9 hj]at e;rw[c9 hj];exact B6 some e
   obtain⟨v,hv,r⟩:=h.get j d e';refine⟨v,?_,r⟩;unfold eh;rw[a9 (by simpa using hi),j2,m8,ej];simp[c3,hv]
def lB(wi:nW)(g:gB)(tt:eC)(te:bT)(n:Nat)(fr:List Nat):cI->Mem->(List D->Mem->Prop)->Prop:=λ δ M Q=>wi δ M λ src M1=>∃(B:Nat) (W:Nat->List D->Mem->Prop),W 0 [] M1/\∀i acc M,W i acc M->i<=B/\acc.length<=sizeLine/\match items src M with
 |none=>False
 |some ds=>match ds[i]? with
  |none=>i=ds.length/\Q acc M
  |some d=>g d (gX n fr δ) M λ δ2 M2=>tt δ2 M2 λ b M3=>if b=true then te δ2 M3 λ y M4=>W (i+1) (acc++[y]) M4 else W (i+1) acc M3
theorem jy{K:C0}{wi:nW}{g:gB}{tt:eC}{te:bT}{n:Nat}{fr:List Nat}{Qe:List D->Mem->Prop}{σ:L2.St}{δ:cI}{H:Hp}{M:Mem}{Q:V->Hp->Prop}{gv:TG}(RN:∀v σ H Q,Ee K g v σ H Q->gv v σ H Q)(hs:cA K H δ σ)(hm:RelM K H M)(q:lB wi g tt te n fr δ M Qe) (k:∀acc xs H' M' p,ax K H' acc xs->RelM K H' M'->ak H H'->acc.length<=sizeLine->H' p=none->Qe acc M'->Q (.ref p) (upd H' p (.lst xs))):qg (LM K wi) gv (Bd K tt) (up K te) n fr σ H Q:=by
 refine⟨δ,M,_,hs,hm,q,λ J H1 src M1 ok bP t1 q1=>?_⟩;obtain⟨B,W,w0,turn⟩:=q1;refine⟨λ i m xs H'=>m=B+1 - i/\∃acc M',ax K H' acc xs/\RelM K H' M'/\ak H1 H'/\W i acc M',⟨B+1,rfl,[],M1,by rw[aj],bP,ak.refl _,w0⟩,?_⟩;rintro i m xs H' ⟨rfl,acc,M',mw,eg,t',w'⟩;obtain⟨hB,hz,h⟩:=turn i acc M' w';refine⟨by rw[mw.length];exact hz,?_⟩;cases ei:items src M' with
 |none=>rw[ei]at h;exact h.elim
 |some ds=>
  rw[ei]at h;obtain⟨go,stop,Br⟩:=ok H' M' ds t' eg ei;cases ed:ds[i]? with
  |none=>simp only[ed]at h;exact .inl ⟨stop i h.1,λ p hp=>k acc xs H' M' p mw eg (t1.trans t') hz hp h.2⟩
  |some d=>
   simp only[ed]at h;have Bh:i < ds.length:=(c6.mp ed).1;refine .inr ⟨go i Bh,λ ys H2=>∃D9 M2,ax K H2 D9 ys/\RelM K H2 M2/\ak H1 H2/\W (i+1) D9 M2,λ ys H2 ⟨D9,M2,a,b,c,w2⟩=>⟨B+1 - (i+1),by omega,rfl,D9,M2,a,b,c,w2⟩,λ x H2 y=>?_⟩;obtain⟨t2,jC,d',e',sT⟩:=Br i x H2 Bh y;rw[ed]at e';cases e';refine RN _ _ _ _ ⟨d,gX n fr δ,M',_,sT,D6 (hs.mono (t1.trans (t'.trans t2))) n fr,jC,h,λ σ3 H3 δ3 M3 Mb HQ t3 q3=>?_⟩;refine⟨δ3,M3,_,Mb,HQ,q3,λ b H4 M4 Px t4 q4=>?_⟩;cases b with
   |false=>rw[B9 k8]at q4 ⊢;exact⟨acc,M4,ax.mono (t2.trans (t3.trans t4)) acc mw,Px,t'.trans (t2.trans (t3.trans t4)),q4⟩
   |true=>rw[B8 rfl]at q4 ⊢;exact⟨δ3,M4,_,Mb.mono t4,Px,q4,λ yv H5 y5 M5 Rg RC t5 q5=>⟨acc++[y5],M5,(ax.mono (t2.trans (t3.trans (t4.trans t5))) acc mw).append (ax.one Rg),RC,t'.trans (t2.trans (t3.trans (t4.trans t5))),q5⟩⟩
section
variable {X:Cx}{scope:Scope}{tgs:List Str}{fr:List Nat}{tg elt iter:Expr}{ifs:List Expr}{pos:Pos}{wi:nW}{g:gB}{tt:eC}{te:bT}
abbrev Mu(X:Cx)(ifs:List Expr)(t:eC):Prop:=Jl X ifs (Bd X.K t)
def qo:eC:=λ _ M Q=>Q true M
theorem CD:Mu X [] qo:=λ pins s σ H Q I h=>C4 pins s σ H Q I (by
 obtain⟨δ,M,Q2,hs,hm,q,k⟩:=h;exact k _ _ _ hm (ak.refl H) q)
theorem CC{c:Expr}{t:eC}(h:QT X c t):Mu X [c] t:=C3 h
def Lv(X:Cx)(scope:Scope)(tgs:List Str)(fr:List Nat)(tg:Expr)(g2:gB):Prop:=
 ∃g:TG,(∀cl C fp s H,PG (bq X scope cl tgs fr C fp s H) tg g)/\gZ tgs.length g/\∀v σ H Q,Ee X.K g2 v σ H Q->g v σ H Q
theorem BC{i:Nat}{x:Str}{ps:Pos}(h:∀cl C fp s H,PG (bq X scope cl tgs fr C fp s H) (.Name x ps) (ck i))(hi:i < tgs.length):Lv X scope tgs fr (.Name x ps) (hName i):=⟨_,h,gu hi,i_⟩
def AZ(g:TG):Prop:=∀x σ H Q Q',(∀σ' H',Q σ' H'->Q' σ' H')->g x σ H Q->g x σ H Q'
def pN(g:vF):Prop:=∀xs σ H Q Q',(∀σ' H',Q σ' H'->Q' σ' H')->g xs σ H Q->g xs σ H Q'
theorem dJ{i:Nat}:AZ (ck i):=λ x σ H Q Q' k q=>k _ _ q
theorem lS:pN oZ:=λ xs σ H Q Q' k q=>⟨q.1,k _ _ q.2⟩
theorem km{t:TG}{u:vF}(ht:AZ t)(hu:pN u):pN (cX t u):=λ xs σ H Q Q' k ⟨v,r,e,q⟩=>⟨v,r,e,ht v σ H _ _ (λ σ' H' q'=>hu r σ' H' _ _ k q') q⟩
theorem iE{n:Nat}{t:TG}{u:vF}(h:gZ n t)(k:kJ n u)(ht:AZ t)(hu:pN u):kJ n (cX t u):=λ xs σ H Q ⟨v,r,e,q⟩=>by refine⟨v,r,e,ht v σ H _ _ (λ σ' H' ⟨q',l',k'⟩=>?_) (h v σ H _ q)⟩;refine hu r σ' H' _ _ (λ σ2 H2 ⟨q2,l2,k2⟩=>⟨q2,l2.trans l',λ j hj=>(k2 j hj).trans (k' j hj)⟩) (k r σ' H' _ q')
theorem An{K:C0}{m n:Nat}{t:vF}(h:kJ m t):gZ m (qW K n t):=λ x σ H Q ⟨a,xs,e,hq,hl,q⟩=>⟨a,xs,e,hq,hl,h xs σ H _ q⟩
theorem vX{K:C0}{i j:Nat}:∀v σ H Q,Ee K (mH 2 (cC (hName i) (cC (hName j) mI))) v σ H Q->qW K 2 (cX (ck i) (cX (ck j) oZ)) v σ H Q:=λ v σ H Q ⟨d,δ,M,Q2,hd,hs,hm,q,k⟩=>by
 cases d with
 |tup ds=>
  obtain⟨p,xs,rfl,hq,hx⟩:=aQ.mp hd;obtain⟨hl,q⟩:=q
  match ds,hl,hx,q with
  |[a,b],hl,hx,q=>obtain⟨x,r,rfl,ha,hx⟩:=ag.mp hx;obtain⟨y,r,rfl,hb,hx⟩:=ag.mp hx;cases(aj.mp hx);exact⟨p,[x,y],rfl,hq,rfl,x,[y],rfl,y,[],rfl,rfl,k _ H _ M ((hs.set ha).set hb) hm (ak.refl H) q⟩
 |_=>exact q.elim
theorem BB{i j k:Nat}{x y:Str}{px py pt:Pos}(h:∀cl C fp s H,PG (bq X scope cl tgs fr C fp s H) (.Tuple [.Name x px,.Name y py] k pt) (qW X.K 2 (cX (ck i) (cX (ck j) oZ))))(hi:i < tgs.length)(hj:j < tgs.length):Lv X scope tgs fr (.Tuple [.Name x px,.Name y py] k pt) (mH 2 (cC (hName i) (cC (hName j) mI))):=
 ⟨_,h,An (iE (gu hi) (iE (gu hj) Ao dJ lS) dJ (km dJ lS)),vX⟩
def ml(X:Cx)(scope:Scope)(tgs:List Str)(fr:List Nat)(tg iter:Expr)(ifs:List Expr)(elt:Expr)(wi:nW)(g:gB)(tt:eC)(te:bT):Prop:=
 iP X scope fr/\X.calm=true/\(∀e s,X.xe e s->False)/\QI X tg iter wi/\Lv X scope tgs fr tg g/\(∀cl C fp s H,Mu (bq X scope cl tgs fr C fp s H) ifs tt)/\(∀cl C fp s H,QE (bq X scope cl tgs fr C fp s H) elt te)
def qq(wi:nW)(g:gB)(tt:eC)(te:bT)(n:Nat)(fr:List Nat):bT:=λ δ M Q=>lB wi g tt te n fr δ M λ ds M'=>∀p,M' p=none->Q (.ref p) (ah M' p (.lst ds))
theorem Gq(C:ml X scope tgs fr tg iter ifs elt wi g tt te)(hs:∀x,foldedSetIterable iter X.env x=pure x:=by intro _;rfl):QE X (.ListComp elt [⟨tg,iter,ifs,0⟩] scope pos) (qq wi g tt te tgs.length fr):=by obtain⟨B,hc,hE,hi,⟨gv,hg,gk,gl⟩,ht,he⟩:=C;refine bF (oG (tt:=Bd X.K tt) (te:=up X.K te) B hc hE hi hg gk ht he hs) ?_;rintro σ H Q ⟨δ,M,Q2,hs,hm,q,k⟩;exact jy gl hs hm q λ acc xs H' M' p hd eg t' hz hp q'=>k _ _ (.ref p) _ (aA.mpr rfl) (dG hp hd eg) (t'.trans (ak.laid hp)) (q' p (eg.free hp))
theorem sy{i:Nat}{y:Str}{py qh:Pos}(hN:X.N.Nodup)(hiy:X.N[i]?=some y)(hy:Loc X.env.scope y)(C:ml X scope tgs fr tg iter ifs elt wi g tt te) (hsw:swapsWith (.ListComp elt [⟨tg,iter,ifs,0⟩] scope pos) (some (.Name y py)) qh.line X.env=pure true:=by rfl) (hf:X.fn y=true\/X.env.scope.names.lookup y=some .local:=by first|exact .inl rfl|exact .inr rfl|assumption) (hs:∀x,foldedSetIterable iter X.env x=pure x:=by intro _;rfl):QS X (.Assign [.Name y py] (.ListComp elt [⟨tg,iter,ifs,0⟩] scope pos) qh) (qr (qq wi g tt te tgs.length fr) (hName i)):=by obtain⟨B,hc,hE,hi,⟨gv,hg,gk,gl⟩,ht,he⟩:=C;refine ip (sE (tt:=Bd X.K tt) (te:=up X.K te) hN hiy hy B hc hE hi hg gk ht he hsw hf hs) ?_;rintro E σ H ⟨δ,M,D2,hs,hm,q,k⟩;exact jy gl hs hm q λ acc xs H' M' p hd eg t' hz hp q'=>k.nx _ _ _ _ (((hs.mono t').mono (ak.laid hp)).set (aA.mpr rfl)) (dG hp hd eg) (t'.trans (ak.laid hp)) (q' p (eg.free hp))
def wb(r3:List D->Mem->bD->Prop)(wi:nW)(g:gB)(tt:eC)(te:bT)(n:Nat)(fr:List Nat):bT:=λ δ M Q=>lB wi g tt te n fr δ M λ ds M'=>r3 ds M' Q
def mf(r2:List D->Mem->bD->Prop)(r3:List D->Mem->bD->Prop):Prop:=∀ds M p Q,M p=none->ds.length<=sizeLine->r3 ds M Q->r2 [.ref p] (ah M p (.lst ds)) (fin2 Q)
theorem As{K:C0}{H:Hp}{Q2:bD}{Q:VK}(k:gH K H Q2 Q):gH K H (fin2 Q2) Q:=λ v H' d M' hd hm t ⟨iT,s,q⟩=>k v H' d iT hd (hm.sub s) t q
variable {x:Str}{p:Pos}{id T:String}{bQ:Pos}
theorem qe{r:List V->Hp->VK->Prop}{r2 r3:List D->Mem->bD->Prop}{gv:TG}(gl:∀v σ H Q,Ee X.K g v σ H Q->gv v σ H Q)(hr:ID X.K r r2)(h3:mf r2 r3):∀σ H Q,up X.K (wb r3 wi g tt te tgs.length fr) σ H Q->LQ r (Eg (qg (LM X.K wi) gv (Bd X.K tt) (up X.K te) tgs.length fr) Jz) σ H Q:=by rintro σ H Q ⟨δ,M,Q2,hs,hm,q,k⟩;show qg (LM X.K wi) gv (Bd X.K tt) (up X.K te) tgs.length fr σ H (λ x H1=>r [x] H1 Q);refine jy gl hs hm q λ acc xs H' M' p hd eg t' hz hp q'=>?_;exact hr [.ref p] [.ref p] _ _ (fin2 Q2) Q (ax.one (aA.mpr rfl)) (dG hp hd eg) (h3 acc M' p Q2 (eg.free hp) hz q') (As (k.mono (t'.trans (ak.laid hp))))
theorem Gk{r2 r3:List D->Mem->bD->Prop}(o:cY X (.builtin id) r2)(h3:mf r2 r3)(hg:Gl X x)(hm:X.mg x=none)(hv:bootBuiltins x=some (.builtin id))(C:ml X scope tgs fr tg iter ifs elt wi g tt te)(hn:x≠"__name__":=by decide)(hdb:(x==("__debug__":Str))=false:=by decide) (hs:∀x,foldedSetIterable iter X.env x=pure x:=by intro _;rfl):QE X (.Call (.Name x p) [.ListComp elt [⟨tg,iter,ifs,0⟩] scope bQ] [] pos) (wb r3 wi g tt te tgs.length fr):=by obtain⟨B,hc,hE,hi,⟨gv,Od,gk,gl⟩,ht,he⟩:=C;obtain⟨r,ho,hr⟩:=o;exact bF (qD ho hg hm hv (kh (oG (tt:=Bd X.K tt) (te:=up X.K te) B hc hE hi Od gk ht he hs) oH) hn hdb) (qe gl hr h3)
theorem Gj{r2 r3:List D->Mem->bD->Prop}(o:cY X (.type T) r2)(h3:mf r2 r3)(hg:Gl X x)(hm:X.mg x=none)(hv:bootBuiltins x=some (.type T))(C:ml X scope tgs fr tg iter ifs elt wi g tt te)(hn:x≠"__name__":=by decide)(hdb:(x==("__debug__":Str))=false:=by decide) (hs:∀x,foldedSetIterable iter X.env x=pure x:=by intro _;rfl):QE X (.Call (.Name x p) [.ListComp elt [⟨tg,iter,ifs,0⟩] scope bQ] [] pos) (wb r3 wi g tt te tgs.length fr):=by obtain⟨B,hc,hE,hi,⟨gv,Od,gk,gl⟩,ht,he⟩:=C;obtain⟨r,ho,hr⟩:=o;exact bF (gn ho hg hm hv (kh (oG (tt:=Bd X.K tt) (te:=up X.K te) B hc hE hi Od gk ht he hs) oH) hn hdb) (qe gl hr h3)
variable {o:Expr}{to:bT}{name:Str}{apos:Pos}
end
end L3
namespace L3
open PySem PySem.Spec L2
section
variable {X:Cx}
def dI(C:Int->Int->Prop)(g:Int->Int->D):fb:=λ x y M Q=>match x,y with
 | .int i,.int j=>C i j/\Q (g i j) M
 |_,_=>False
def EK(g:Int->Int->D):fb:=λ x y M Q=>match x,y with
 | .int i,.int j=>Q (g i j) M
 |_,_=>False
theorem si{f:Value->Value->Sem Value}{C:Int->Int->Prop}{g:Int->Int->Int}(h:eN X f (rI C λ i j=>.int (g i j))):eW X f (dI C λ i j=>.int (g i j)):=⟨_,h,λ x y d e H M Q2 Q hd he hm q k=>by
 cases d <;> cases e <;> first
  |exact q.elim
  |(cases(ar.mp hd);cases(ar.mp he);exact⟨_,_,rfl,rfl,q.1,k _ H _ M (ar.mpr rfl) hm (ak.refl H) q.2⟩)⟩
theorem O7{f:Value->Value->Sem Value}{g:Int->Int->Int}(h:eN X f (Be λ i j=>.int (g i j))):eW X f (EK λ i j=>.int (g i j)):=⟨_,h,λ x y d e H M Q2 Q hd he hm q k=>by
 cases d <;> cases e <;> first
  |exact q.elim
  |(cases(ar.mp hd);cases(ar.mp he);exact⟨_,_,rfl,rfl,k _ H _ M (ar.mpr rfl) hm (ak.refl H) q⟩)⟩
theorem MT{f:Value->Value->Sem Value}{g:Int->Int->Bool}(h:eN X f (Be λ i j=>.bl (g i j))):eW X f (EK λ i j=>.bl (g i j)):=⟨_,h,λ x y d e H M Q2 Q hd he hm q k=>by
 cases d <;> cases e <;> first
  |exact q.elim
  |(cases(ar.mp hd);cases(ar.mp he);exact⟨_,_,rfl,rfl,k _ H _ M (aP.mpr rfl) hm (ak.refl H) q⟩)⟩
theorem zo:eW X (binaryOp .Sub) (EK λ i j=>.int (i - j)):=O7 GV
theorem iu:eW X (binaryOp .Mod) (dI (λ _ j=>0 < j) λ i j=>.int (i % j)):=si G0
theorem sJ:eW X (binaryOp .FloorDiv) (dI IJ λ i j=>.int (i / j)):=si Dd
theorem Kp:eW X (binaryOp .Pow) (dI LK λ i j=>.int (i^j.toNat)):=si GX
theorem Ko:eW X (binaryOp .BitXor) (EK λ i j=>.int (Builtin.bitXor i j)):=O7 GU
theorem lI:eW X (compareOp .Lt) (EK λ i j=>.bl (decide (i < j))):=MT Kk
theorem Ks:eW X (compareOp .Gt) (EK λ i j=>.bl (decide (j < i))):=MT Kl
theorem Nu:eW X (compareOp .GtE) (EK λ i j=>.bl (decide (j<=i))):=MT Km
def DW:fb:=λ x y M Q=>match x,y with
 | .int i,.int j=>Q (.int (i+j)) M
 | .str i,.str j=>i.length+j.length<=sizeLine/\Q (.str (i++j)) M
 | .tup xs,.tup ys=>xs≠[]/\xs.length+ys.length<=sizeLine/\Q (.tup (xs++ys)) M
 | .ref a,.ref b=>match M a,M b with
  |some (.lst xs),some (.lst ys)=>xs.length+ys.length<=sizeLine/\∀p,M p=none->Q (.ref p) (ah M p (.lst (xs++ys)))
  |_,_=>False
 |_,_=>False
theorem Kt:eW X (binaryOp .Add) DW:=⟨_,G5.or (sI.or (G4.or De)),λ x y d e H M Q2 Q hd he hm q k=>by
 cases d with
 |int i=>
  cases e with
  |int j=>cases(ar.mp hd);cases(ar.mp he);exact .inl ⟨_,_,rfl,rfl,k _ H _ M (ar.mpr rfl) hm (ak.refl H) q⟩
  |_=>exact q.elim
 |str i=>
  cases e with
  |str j=>cases(aO.mp hd);cases(aO.mp he);exact .inr (.inl ⟨_,_,rfl,rfl,q.1,k _ H _ M (aO.mpr rfl) hm (ak.refl H) q.2⟩)
  |_=>exact q.elim
 |tup xs=>
  cases e with
  |tup ys=>
   obtain⟨p,vs,rfl,hp,hx⟩:=aQ.mp hd;obtain⟨p2,ws,rfl,eB,hy⟩:=aQ.mp he;obtain⟨fk,hlen,q⟩:=q;refine .inr (.inr (.inr ⟨p,p2,vs,ws,rfl,rfl,hp,eB,?_,by rw[hx.length,hy.length];exact hlen,?_⟩))
   ·intro z;have:=hx.length;rw[z]at this;exact fk (i4.mp this.symm)
   ·refine⟨λ hz=>?_,λ hz p3 HJ=>?_⟩
    ·have Rh:ys=[]:=by have:=hy.length;rw[hz]at this;exact i4.mp this.symm
     subst Rh;rw[q9]at q;exact k _ H _ M (aQ.mpr ⟨p,vs,rfl,hp,hx⟩) hm (ak.refl H) q
    ·exact k _ _ _ M (gg HJ (hx.append hy)) (hm.laid HJ) (ak.laid HJ) q
  |_=>exact q.elim
 |ref a=>
  cases e with
  |ref b=>
   cases(aA.mp hd);cases(aA.mp he);have q:(match M a,M b with|some (.lst xs),some (.lst ys)=>xs.length+ys.length<=sizeLine/\∀p,M p=none->Q2 (.ref p) (ah M p (.lst (xs++ys)))|_,_=>False):=q;cases ea:M a with
   |none=>rw[ea]at q;exact q.elim
   |some oa=>
    cases eb:M b with
    |none=>rw[ea,eb]at q;cases oa <;> exact q.elim
    |some ob=>
     cases oa with
     |cE b kvs=>rw[ea,eb]at q;exact q.elim
     |g_ x=>rw[ea,eb]at q;exact q.elim
     |lst xs=>
      cases ob with
      |cE b kvs=>rw[ea,eb]at q;exact q.elim
      |g_ x=>rw[ea,eb]at q;exact q.elim
      |lst ys=>rw[ea,eb]at q;obtain⟨vs,Rl,pU⟩:=hm a _ ea;obtain⟨ws,Ex,Qd⟩:=hm b _ eb;refine .inr (.inr (.inl ⟨a,b,vs,ws,rfl,rfl,Rl,Ex,by rw[pU.length,Qd.length];exact q.1,λ p hp=>?_⟩));exact k _ _ (.ref p) _ (aA.mpr rfl) (dG hp (pU.append Qd) hm) (ak.laid hp) (q.2 p (hm.free hp))
  |_=>exact q.elim
 |_=>exact q.elim⟩
def Il:fb:=λ x y M Q=>match x,y with
 | .int i,.int j=>pP i j/\Q (.int (i*j)) M
 | .str z,.int n=>MulOk z n/\Q (.str (Txt.mul z n)) M
 |_,_=>False
theorem Kq:eW X (binaryOp .Mult) Il:=⟨_,GZ.or sH,λ x y d e H M Q2 Q hd he hm q k=>by
 cases d <;> cases e <;> first
  |exact q.elim
  |(cases(ar.mp hd);cases(ar.mp he);exact .inl ⟨_,_,rfl,rfl,q.1,k _ H _ M (ar.mpr rfl) hm (ak.refl H) q.2⟩)
  |(cases(aO.mp hd);cases(ar.mp he);exact .inr ⟨_,_,rfl,rfl,q.1,k _ H _ M (aO.mpr rfl) hm (ak.refl H) q.2⟩)⟩
def nM:D->Option V
 | .bf=>some .bf
 | .bl b=>some (.bl b)
 | .int i=>some (.int i)
 | .str x=>some (.str x)
 |_=>none
theorem nL{K:C0}{H:Hp}{d:D}{x v:V}(e:nM d=some v)(h:Dat K H d x):x=v:=by
 cases d with
 |bf=>cases e;exact cU.mp h
 |bl b=>cases e;exact aP.mp h
 |int i=>cases e;exact ar.mp h
 |str z=>cases e;exact aO.mp h
 |ty n=>exact absurd e (by intro z;cases z)
 |ref a=>exact absurd e (by intro z;cases z)
 |tup xs=>exact absurd e (by intro z;cases z)
 |fl xs=>exact absurd e (by intro z;cases z)
theorem lU{d:D}{v:V}(e:nM d=some v):eZ v=true:=by
 cases d with
 |bf=>cases e;rfl
 |bl b=>cases e;rfl
 |int i=>cases e;rfl
 |str z=>cases e;rfl
 |ty n=>exact absurd e (by intro z;cases z)
 |ref a=>exact absurd e (by intro z;cases z)
 |tup xs=>exact absurd e (by intro z;cases z)
 |fl xs=>exact absurd e (by intro z;cases z)
def Iq(neg:Bool):fb:=λ x y M Q=>match x,y with
 | .int i,.int j=>Q (.bl (xor neg (decide (i=j)))) M
 | .bl i,.bl j=>Q (.bl (xor neg (decide (i=j)))) M
 | .str i,.str j=>Q (.bl (xor neg (decide (i=j)))) M
 |_,_=>False
theorem Nv:eW X (compareOp .Eq) (Iq false):=⟨_,Kn,λ x y d e H M Q2 Q hd he hm q k=>by
 cases d <;> cases e <;> first
  |exact q.elim
  |(cases(ar.mp hd);cases(ar.mp he);refine⟨rfl,k _ H _ M (aP.mpr rfl) hm (ak.refl H) ?_⟩;have q:Q2 (.bl (xor false (decide (_=_)))) M:=q;simpa using q)
  |(cases(aP.mp hd);cases(aP.mp he);refine⟨rfl,k _ H _ M (aP.mpr rfl) hm (ak.refl H) ?_⟩;have q:Q2 (.bl (xor false (decide (_=_)))) M:=q;simpa using q)
  |(cases(aO.mp hd);cases(aO.mp he);refine⟨rfl,k _ H _ M (aP.mpr rfl) hm (ak.refl H) ?_⟩;have q:Q2 (.bl (xor false (decide (_=_)))) M:=q;simpa using q)⟩
theorem Nr:eW X (compareOp .NotEq) (Iq true):=⟨_,Kj,λ x y d e H M Q2 Q hd he hm q k=>by
 cases d <;> cases e <;> first
  |exact q.elim
  |(cases(ar.mp hd);cases(ar.mp he);refine⟨rfl,k _ H _ M (aP.mpr rfl) hm (ak.refl H) ?_⟩;have q:Q2 (.bl (xor true (decide (_=_)))) M:=q;simpa using q)
  |(cases(aP.mp hd);cases(aP.mp he);refine⟨rfl,k _ H _ M (aP.mpr rfl) hm (ak.refl H) ?_⟩;have q:Q2 (.bl (xor true (decide (_=_)))) M:=q;simpa using q)
  |(cases(aO.mp hd);cases(aO.mp he);refine⟨rfl,k _ H _ M (aP.mpr rfl) hm (ak.refl H) ?_⟩;have q:Q2 (.bl (xor true (decide (_=_)))) M:=q;simpa using q)⟩
def Io(neg:Bool):fb:=λ x y M Q=>match y with
 | .bf=>match x with
  | .bf=>Q (.bl (!neg)) M
  |_=>Q (.bl neg) M
 |_=>False
theorem AD{K:C0}{H:Hp}{d:D}{x:V}(h:Dat K H d x):decide (x=.bf)=match d with| .bf=>true|_=>false:=by
 cases d with
 |bf=>cases(cU.mp h);rfl
 |bl b=>cases(aP.mp h);rfl
 |int b=>cases(ar.mp h);rfl
 |str b=>cases(aO.mp h);rfl
 |ty b=>cases(tm.mp h);rfl
 |ref b=>cases(aA.mp h);rfl
 |tup b=>obtain⟨p,xs,rfl,_⟩:=aQ.mp h;rfl
 |fl b=>obtain⟨p,xs,rfl,_⟩:=gT.mp h;rfl
theorem zt:eW X (compareOp .Is) (Io false):=⟨_,G1,λ x y d e H M Q2 Q hd he hm q k=>by
 cases e with
 |bf=>refine⟨cU.mp he,?_⟩;rw[AD hd];refine k _ H _ M (aP.mpr rfl) hm (ak.refl H) ?_;cases d <;> exact q
 |_=>exact q.elim⟩
def Lh:D->Mem->bD->Prop:=λ x M Q=>match x with
 | .int i=>Q (.int (-i)) M
 |_=>False
theorem Ef:OR X (unaryOp .USub) Lh:=⟨_,EY,λ x d H M Q2 Q hd hm q k=>by
 cases d with
 |int i=>exact⟨i,ar.mp hd,k _ H _ M (ar.mpr rfl) hm (ak.refl H) q⟩
 |_=>exact q.elim⟩
def nK:List D->Option (List V)
 |[]=>some []
 |d::r=>match nM d,nK r with
  |some v,some vs=>some (v::vs)
  |_,_=>none
theorem lT{K:C0}{H:Hp}:∀{ds:List D} {xs vs:List V},nK ds=some vs->ax K H ds xs->xs=vs/\vs.all eZ=true
 |[],xs,vs,e,h=>by cases e;exact⟨aj.mp h,rfl⟩
 |d::r,xs,vs,e,h=>by
  obtain⟨x,ys,rfl,hx,hy⟩:=ag.mp h;unfold nK at e;cases e1:nM d with
  |none=>rw[e1]at e;cases e
  |some v=>
   cases e2:nK r with
   |none=>rw[e1,e2]at e;cases e
   |some ws=>rw[e1,e2]at e;cases e;obtain⟨h1,h2⟩:=lT e2 hy;exact⟨by rw[nL e1 hx,h1],by rw[all_cons,lU e1,h2];rfl⟩
def inD(x:D)(ds:List D):Option Bool:=match nM x,nK ds with
 |some v,some vs=>some (KC v vs)
 |_,_=>none
def Qh:fb:=λ x y M Q=>match y with
 | .str j=>match x with
  | .str i=>Q (.bl (!(Builtin.Str.occurrences j i 0 j.length 1).isEmpty)) M
  |_=>False
 | .tup ds=>match inD x ds with
  |some b=>Q (.bl b) M
  |none=>False
 | .ref a=>match M a with
  |some (.lst ds)=>match inD x ds with
   |some b=>Q (.bl b) M
   |none=>False
  |_=>False
 |_=>False
theorem zR{K:C0}{H:Hp}{x:V}{xs:List V}{d:D}{ds:List D}{b:Bool}(e:inD d ds=some b)(hd:Dat K H d x)(hx:ax K H ds xs):eZ x=true/\xs.all eZ=true/\KC x xs=b:=by
 unfold inD at e;cases e1:nM d with
 |none=>rw[e1]at e;cases e
 |some v=>
  cases e2:nK ds with
  |none=>rw[e1,e2]at e;cases e
  |some vs=>rw[e1,e2]at e;have e:KC v vs=b:=u6 e;obtain⟨rfl,h2⟩:=lT e2 hx;cases(nL e1 hd);exact⟨lU e1,h2,e⟩
theorem Nt:eW X (compareOp .In) Qh:=⟨_,wy.or wz,λ x y d e H M Q2 Q hd he hm q k=>by
 cases e with
 |str j=>
  cases(aO.mp he);cases d with
  |str i=>cases(aO.mp hd);exact .inl ⟨_,_,rfl,rfl,k _ H _ M (aP.mpr rfl) hm (ak.refl H) q⟩
  |_=>exact q.elim
 |tup ds=>
  obtain⟨p,xs,rfl,hp,hx⟩:=aQ.mp he;have q:(match inD d ds with|some b=>Q2 (.bl b) M|none=>False):=q;cases ei:inD d ds with
  |none=>rw[ei]at q;exact q.elim
  |some b=>rw[ei]at q;obtain⟨h1,h2,h3⟩:=zR ei hd hx;refine .inr ⟨p,xs,rfl,.inr hp,h1,h2,?_⟩;simp only[l0,B5];rw[h3];exact k _ H _ M (aP.mpr rfl) hm (ak.refl H) q
 |ref a=>
  cases(aA.mp he);have q:(match M a with|some (.lst ds)=>(match inD d ds with|some b=>Q2 (.bl b) M|none=>False)|_=>False):=q;cases ea:M a with
  |none=>rw[ea]at q;exact q.elim
  |some o=>
   cases o with
   |cE b kvs=>rw[ea]at q;exact q.elim
   |g_ x=>rw[ea]at q;exact q.elim
   |lst ds=>
    rw[ea]at q;obtain⟨xs,hx,dx⟩:=hm a _ ea;cases ei:inD d ds with
    |none=>simp only[ei]at q
    |some b=>simp only[ei]at q;obtain⟨h1,h2,h3⟩:=zR ei hd dx;refine .inr ⟨a,xs,rfl,.inl (eA.of hx),h1,h2,?_⟩;simp only[l0,B5];rw[h3];exact k _ H _ M (aP.mpr rfl) hm (ak.refl H) q
 |_=>exact q.elim⟩
end
end L3
namespace L3
open PySem PySem.Spec L2
theorem D8{K:C0}{H:Hp}{ds:List D}{xs:List V}(h:ax K H ds xs){i:Int}{d:D}(e:gE ds i=some d):∃x,gE xs i=some x/\Dat K H d x:=by
 unfold gE at e ⊢;rw[h.length];cases q:sQ ds.length i with
 |none=>rw[q]at e;cases e
 |some j=>rw[q]at e;obtain⟨x,h1,h2⟩:=h.get (i:=j) e;exact⟨x,h1,h2⟩
section
variable {X:Cx}
def aW(M:Mem)(a:Addr):Option (List D):=match M a with
 |some (.lst ds)=>some ds
 |_=>none
theorem dN{K:C0}{H:Hp}{M:Mem}{a:Addr}{ds:List D}(e:aW M a=some ds)(hm:RelM K H M):∃xs,H a=some (.lst xs)/\ax K H ds xs:=by
 unfold aW at e;cases q:M a with
 |none=>rw[q]at e;cases e
 |some o=>
  cases o with
  |cE b kvs=>rw[q]at e;cases e
  |g_ x=>rw[q]at e;cases e
  |lst es=>rw[q]at e;cases e;exact hm a _ q
def cq(M:Mem):D->Option (List D)
 | .tup ds=>some ds
 | .fl ds=>some ds
 | .ref a=>aW M a
 |_=>none
theorem fG{K:C0}{H:Hp}{M:Mem}{d:D}{v:V}{ds:List D}(e:cq M d=some ds)(hd:Dat K H d v)(hm:RelM K H M):∃p xs,v=.ref p/\(eA K H p xs\/fz K H p xs)/\ax K H ds xs:=by
 cases d with
 |tup es=>cases e;obtain⟨p,xs,rfl,h,q⟩:=aQ.mp hd;exact⟨p,xs,rfl,.inr h,q⟩
 |fl es=>cases e;obtain⟨p,xs,rfl,h,q⟩:=gT.mp hd;exact⟨p,xs,rfl,.inl h.sq,q⟩
 |ref a=>cases(aA.mp hd);obtain⟨xs,h,q⟩:=dN e hm;exact⟨a,xs,rfl,.inl (eA.of h),q⟩
 |_=>cases e
def Ji:fb:=λ x y M Q=>match y with
 | .int i=>match x with
  | .str z=>z.length<=sizeLine/\(match gE z.cps.toList i with
   |some c=>Q (.str ⟨#[c]⟩) M
   |none=>False)
  |x=>match cq M x with
   |some ds=>(match gE ds i with
    |some d=>Q d M
    |none=>False)
   |none=>False
 |_=>False
theorem oN{x:V}{d:D}{i:Int}{H:Hp}{M:Mem}{Q2:bD}{Q:VK}{K:C0}(hd:Dat K H d x)(hm:RelM K H M)(k:gH K H Q2 Q) (q:match cq M d with|some ds=>(match gE ds i with|some d=>Q2 d M|none=>False)|none=>False):∃p xs v,x=.ref p/\(eA K H p xs\/fz K H p xs)/\gE xs i=some v/\Q v H:=by
 cases e:cq M d with
 |none=>rw[e]at q;exact q.elim
 |some ds=>
  rw[e]at q;cases ei:gE ds i with
  |none=>simp only[ei]at q
  |some d'=>simp only[ei]at q;obtain⟨p,xs,rfl,h,hx⟩:=fG e hd hm;obtain⟨v,h1,h2⟩:=D8 hx ei;exact⟨p,xs,v,rfl,h,h1,k v H d' M h2 hm (ak.refl H) q⟩
theorem aV:LC X Ji:=⟨_,L2.aV,λ x y d e H M Q2 Q hd he hm q k=>by
 cases e with
 |int i=>
  cases(ar.mp he);cases d with
  |str z=>
   cases(aO.mp hd);obtain⟨hz,q⟩:=q;refine⟨hz,?_⟩;cases ei:gE z.cps.toList i with
   |none=>rw[ei]at q;exact q.elim
   |some c=>rw[ei]at q;exact⟨c,rfl,k _ H _ M (aO.mpr rfl) hm (ak.refl H) q⟩
  |tup ds=>obtain⟨p,xs,v,rfl,h⟩:=oN (d:=.tup ds) (i:=i) hd hm k q;exact⟨xs,v,h⟩
  |fl ds=>obtain⟨p,xs,v,rfl,h⟩:=oN (d:=.fl ds) (i:=i) hd hm k q;exact⟨xs,v,h⟩
  |ref a=>obtain⟨p,xs,v,rfl,h⟩:=oN (d:=.ref a) (i:=i) hd hm k q;exact⟨xs,v,h⟩
  |_=>exact q.elim
 |_=>exact q.elim⟩
def cutD(xs:List D)(lo hi:Option Int):List D:=(xs.drop (HT.bZ xs.length 0 lo)).take (HT.bZ xs.length xs.length hi - HT.bZ xs.length 0 lo)
theorem rm{K:C0}{H:Hp}{ds:List D}{xs:List V}(h:ax K H ds xs)(lo hi:Option Int):ax K H (cutD ds lo hi) (rn xs lo hi):=by unfold cutD rn;rw[h.length];exact(h.drop _).take _
def Qg:D->Option Int->Option Int->Mem->bD->Prop:=λ x lo hi M Q=>match x with
 | .str z=>z.length<=sizeLine/\Q (.str (tI z lo hi)) M
 | .tup ds=>¬(HT.bZ ds.length 0 lo=0/\HT.bZ ds.length ds.length hi=ds.length)/\Q (.tup (cutD ds lo hi)) M
 | .ref a=>match aW M a with
  |some ds=>∀p,M p=none->Q (.ref p) (ah M p (.lst (cutD ds lo hi)))
  |none=>False
 |_=>False
theorem ib:Ly X Qg:=⟨_,L2.ib,λ x d lo hi H M Q2 Q hd hm q k=>by
 cases d with
 |str z=>cases(aO.mp hd);exact⟨q.1,k _ H _ M (aO.mpr rfl) hm (ak.refl H) q.2⟩
 |tup ds=>obtain⟨p,xs,rfl,h,hx⟩:=aQ.mp hd;refine .inr ⟨p,xs,rfl,h,by rw[hx.length];exact q.1,λ p2 eB=>?_⟩;exact k _ _ _ M (gg eB (rm hx lo hi)) (hm.laid eB) (ak.laid eB) q.2
 |ref a=>
  cases(aA.mp hd);have q:(match aW M a with|some ds=>∀p,M p=none->Q2 (.ref p) (ah M p (.lst (cutD ds lo hi)))|none=>False):=q;cases e:aW M a with
  |none=>rw[e]at q;exact q.elim
  |some ds=>rw[e]at q;obtain⟨xs,h,hx⟩:=dN e hm;exact .inl ⟨a,xs,rfl,eA.of h,λ p hp=>k _ _ (.ref p) _ (aA.mpr rfl) (dG hp (rm hx lo hi) hm) (ak.laid hp) (q p (hm.free hp))⟩
 |_=>exact q.elim⟩
def xg:List D->Mem->bD->Prop:=λ xs M Q=>match xs with
 |[.str z]=>z.length<=sizeLine/\Q (.int z.length) M
 |[x]=>match cq M x with
  |some ds=>Q (.int ds.length) M
  |none=>False
 |_=>False
theorem bV:cY X (.builtin "len") xg:=⟨_,pB.or pC,λ xs ds H M Q2 Q hd hm q k=>by
 cases ds with
 |nil=>exact q.elim
 |cons d r=>
  cases r with
  |cons d2 r2=>cases d <;> exact q.elim
  |nil=>
   obtain⟨x,r,rfl,hx,hr⟩:=ag.mp hd;cases(aj.mp hr);have seq:(match cq M d with|some ds=>Q2 (.int ds.length) M|none=>False)->∃p ys,[x]=[V.ref p]/\(eA X.K H p ys\/fz X.K H p ys)/\Q (.int ys.length) H:=λ q=>by
    cases e:cq M d with
    |none=>rw[e]at q;exact q.elim
    |some es=>rw[e]at q;obtain⟨p,ys,rfl,h,hy⟩:=fG e hx hm;refine⟨p,ys,rfl,h,?_⟩;rw[hy.length];exact k _ H _ M (ar.mpr rfl) hm (ak.refl H) q
   cases d with
   |str z=>cases(aO.mp hx);exact .inl ⟨z,rfl,q.1,k _ H _ M (ar.mpr rfl) hm (ak.refl H) q.2⟩
   |tup es=>exact .inr (seq q)
   |fl es=>exact .inr (seq q)
   |ref a=>exact .inr (seq q)
   |_=>exact q.elim⟩
def dList:List D->Mem->bD->Prop:=λ xs M Q=>match xs with
 |[x]=>match cq M x with
  |some ds=>∀p,M p=none->Q (.ref p) (ah M p (.lst ds))
  |none=>False
 |_=>False
theorem AO:cY X (.type "list") dList:=⟨_,pA,λ xs ds H M Q2 Q hd hm q k=>by
 cases ds with
 |nil=>exact q.elim
 |cons d r=>
  cases r with
  |cons d2 r2=>exact q.elim
  |nil=>
   obtain⟨x,r,rfl,hx,hr⟩:=ag.mp hd;cases(aj.mp hr);have q:(match cq M d with|some ds=>∀p,M p=none->Q2 (.ref p) (ah M p (.lst ds))|none=>False):=q;cases e:cq M d with
   |none=>rw[e]at q;exact q.elim
   |some es=>
    rw[e]at q;obtain⟨p,ys,rfl,h,hy⟩:=fG e hx hm;exact⟨p,ys,rfl,h,λ l hl=>k _ _ (.ref l) _ (aA.mpr rfl) (dG hl hy hm) (ak.laid hl) (q l (hm.free hl))⟩⟩
def tE:List D->Mem->bD->Prop:=λ xs M Q=>match xs with
 |[x]=>match cq M x with
  |some ds=>Q (.tup ds) M
  |none=>False
 |_=>False
theorem bS:cY X (.type "tuple") tE:=⟨_,mK,λ xs ds H M Q2 Q hd hm q k=>by
 cases ds with
 |nil=>exact q.elim
 |cons d r=>
  cases r with
  |cons d2 r2=>exact q.elim
  |nil=>
   obtain⟨x,r,rfl,hx,hr⟩:=ag.mp hd;cases(aj.mp hr);have q:(match cq M d with|some ds=>Q2 (.tup ds) M|none=>False):=q;cases e:cq M d with
   |none=>rw[e]at q;exact q.elim
   |some es=>
    rw[e]at q;obtain⟨p,ys,rfl,h|h,hy⟩:=fG e hx hm
    ·exact⟨p,ys,rfl,.inl ⟨h,λ l hl=>k _ _ (.tup es) M (gg hl hy) (hm.laid hl) (ak.laid hl) q⟩⟩
    ·exact⟨p,ys,rfl,.inr ⟨h,k _ H (.tup es) M (aQ.mpr ⟨p,ys,rfl,h,hy⟩) hm (ak.refl H) q⟩⟩⟩
theorem eG:mf tE (λ ds M Q=>Q (.tup ds) M):=λ ds M p Q hp hz q=>by
 show(match cq (ah M p (.lst ds)) (.ref p)with|some es=>fin2 Q (.tup es) (ah M p (.lst ds))|none=>False);have e:cq (ah M p (.lst ds)) (.ref p)=some ds:=by show aW (ah M p (.lst ds)) p=some ds;unfold aW;rw[af]
 rw[e];exact⟨M,(mO.refl M).put hp,q⟩
def jQ:List D->Option (List Bool)
 |[]=>some []
 | .bl b::r=>(jQ r).map (b::·)
 |_::_=>none
theorem me:∀(bs:List Bool),jQ (bs.map D.bl)=some bs
 |[]=>rfl
 |b::bs=>by rw[y7];unfold jQ;rw[me bs];rfl
theorem vE:∀{ds:List D} {bs:List Bool},jQ ds=some bs->ds=bs.map D.bl
 |[],bs,e=>by cases e;rfl
 |d::r,bs,e=>by
  cases d with
  |bl b=>
   unfold jQ at e;cases q:jQ r with
   |none=>rw[q]at e;cases e
   |some cs=>rw[q]at e;cases e;rw[vE q];rfl
  |_=>cases e
def Ln:List D->Mem->bD->Prop:=λ xs M Q=>match xs with
 |[.ref a]=>match aW M a with
  |some ds=>match jQ ds with
   |some bs=>Q (.bl (bs.all id)) M
   |none=>False
  |none=>False
 |_=>False
theorem Lu(hc:X.calm=true):cY X (.builtin "all") Ln:=⟨_,rC hc,λ xs ds H M Q2 Q hd hm q k=>by
 cases ds with
 |nil=>exact q.elim
 |cons d r=>
  cases r with
  |cons d2 r2=>cases d <;> exact q.elim
  |nil=>
   cases d with
   |ref a=>
    obtain⟨x,r,rfl,hx,hr⟩:=ag.mp hd;cases(aj.mp hr);cases(aA.mp hx);have q:(match aW M a with|some ds=>(match jQ ds with|some bs=>Q2 (.bl (bs.all id)) M|none=>False)|none=>False):=q;cases e:aW M a with
    |none=>rw[e]at q;exact q.elim
    |some es=>
     rw[e]at q;cases eb:jQ es with
     |none=>simp only[eb]at q
     |some bs=>simp only[eb]at q;obtain⟨ys,h,hy⟩:=dN e hm;rw[vE eb]at hy;exact⟨a,bs,rfl,eA.of (by rw[h,rh hy]),k _ H _ M (aP.mpr rfl) hm (ak.refl H) q⟩
   |_=>exact q.elim⟩
theorem wJ{M:Mem}{p:Addr}{ds:List D}:aW (ah M p (.lst ds)) p=some ds:=by unfold aW;rw[af]
def vn:List D->Mem->bD->Prop:=λ ds M Q=>match jQ ds with
 |some bs=>Q (.bl (bs.all id)) M
 |none=>False
theorem Bx:mf Ln vn:=λ ds M p Q hp hz q=>by
 show(match aW (ah M p (.lst ds)) p with|some Sy=>(match jQ Sy with|some bs=>fin2 Q (.bl (bs.all id)) (ah M p (.lst ds))|none=>False)|none=>False);rw[wJ];unfold vn at q;cases eb:jQ ds with
 |none=>rw[eb]at q;exact q.elim
 |some bs=>rw[eb]at q;simp only[eb];exact⟨M,(mO.refl M).put hp,q⟩
def kY(M:Mem):D->Option String
 | .bf=>some "NoneType"
 | .bl _=>some "bool"
 | .int _=>some "int"
 | .str _=>some "str"
 | .tup _=>some "tuple"
 | .fl _=>some "list"
 | .ref a=>(aW M a).map λ _=>"list"
 |_=>none
def oO(n T:String):Bool:=n==T||(n=="bool"&&T=="int")
structure ff(K:C0)(T:String):Prop where
 bf:PySem.W.kitOne K (.type "NoneType") (.type T)=some (oO "NoneType" T)
 bl:PySem.W.kitOne K (.type "bool") (.type T)=some (oO "bool" T)
 int:PySem.W.kitOne K (.type "int") (.type T)=some (oO "int" T)
 str:PySem.W.kitOne K (.type "str") (.type T)=some (oO "str" T)
 tup:PySem.W.kitOne K (.type "tuple") (.type T)=some (oO "tuple" T)
 lst:PySem.W.kitOne K (.type "list") (.type T)=some (oO "list" T)
end
end L3
namespace L3
open PySem PySem.Spec L2
section
variable {X:Cx}
theorem AN:cQ X (.builtin "isinstance") (λ xs H Q=>∃(x:V) (T n:String),xs=[x,.ty T]/\ff X.K T/\
  ((x=.bf/\n="NoneType")\/(∃b,x=.bl b/\n="bool")\/(∃i,x=.int i/\n="int")\/(∃z,x=.str z/\n="str")\/(∃p ys,x=.ref p/\fz X.K H p ys/\n="tuple")\/(∃p ys,x=.ref p/\eA X.K H p ys/\n="list"))/\Q (.bl (oO n T)) H):=by
 intro pins s σ H xs us Q I r h;obtain⟨x,T,n,rfl,ok,hx,q⟩:=h;obtain⟨u,w',rfl,rx,ry⟩:=vals2 r;have e:w'=Value.type T:=ry;subst e;rcases hx with⟨rfl,rfl⟩|⟨b,rfl,rfl⟩|⟨i,rfl,rfl⟩|⟨z,rfl,rfl⟩|⟨p,ys,rfl,hq,rfl⟩|⟨p,ys,rfl,hq,rfl⟩
 ·exact gs I rx .bf ok.bf λ tk=>⟨.bl _,H,I.tok tk,rfl,q⟩
 ·exact gs I rx (.bl b) ok.bl λ tk=>⟨.bl _,H,I.tok tk,rfl,q⟩
 ·exact gs I rx (.int i) ok.int λ tk=>⟨.bl _,H,I.tok tk,rfl,q⟩
 ·exact gs I rx (.str z) ok.str λ tk=>⟨.bl _,H,I.tok tk,rfl,q⟩
 ·cases(show u=Value.ref p from rx);obtain⟨aw,_,⟨o,h1,h2,_⟩,_⟩:=I.tuple hq;exact w5 PySem.W.kitx_tuple I.mD ⟨o,h1,h2⟩ ok.tup (λ z=>nomatch z) λ tk=>⟨.bl _,H,I.tok tk,rfl,q⟩
 ·cases(show u=Value.ref p from rx);obtain⟨aw,_,pl,_⟩:=I.list hq;obtain⟨o,h1,h2,_⟩:=pl.isList;exact w5 PySem.W.kitx_list I.mD ⟨o,h1,h2⟩ ok.lst (λ z=>nomatch z) λ tk=>⟨.bl _,H,I.tok tk,rfl,q⟩
def EI(T:String):List D->Mem->bD->Prop:=λ xs M Q=>match xs with
 |[x,.ty U]=>U=T/\(match kY M x with
  |some n=>Q (.bl (oO n T)) M
  |none=>False)
 |_=>False
theorem e_{T:String}(ok:ff X.K T):cY X (.builtin "isinstance") (EI T):=⟨_,AN,λ xs ds H M Q2 Q hd hm q k=>by
 cases ds with
 |nil=>exact q.elim
 |cons d r0=>
 cases r0 with
 |nil=>exact q.elim
 |cons d2 r1=>
 cases r1 with
 |cons _ _=>cases d2 <;> exact q.elim
 |nil=>
 cases d2 with
 |ty U=>
  obtain⟨x,r,rfl,hx,hr⟩:=ag.mp hd;obtain⟨y,r2,rfl,hy,jh⟩:=ag.mp hr;cases(aj.mp jh);cases(tm.mp hy);obtain⟨rfl,q⟩:=q;cases e:kY M d with
  |none=>rw[e]at q;exact q.elim
  |some n=>
   rw[e]at q;refine⟨x,U,n,rfl,ok,?_,k _ H _ M (aP.mpr rfl) hm (ak.refl H) q⟩;cases d with
   |bf=>cases e;exact .inl ⟨cU.mp hx,rfl⟩
   |bl b=>cases e;exact .inr (.inl ⟨b,aP.mp hx,rfl⟩)
   |int i=>cases e;exact .inr (.inr (.inl ⟨i,ar.mp hx,rfl⟩))
   |str z=>cases e;exact .inr (.inr (.inr (.inl ⟨z,aO.mp hx,rfl⟩)))
   |tup es=>cases e;obtain⟨p,ys,rfl,h,_⟩:=aQ.mp hx;exact .inr (.inr (.inr (.inr (.inl ⟨p,ys,rfl,h,rfl⟩))))
   |fl es=>cases e;obtain⟨p,ys,rfl,h,_⟩:=gT.mp hx;exact .inr (.inr (.inr (.inr (.inr ⟨p,ys,rfl,h.sq,rfl⟩))))
   |ref a=>
    cases el:aW M a with
    |none=>have e:(aW M a).map (λ _=>"list")=some n:=e;rw[el]at e;cases e
    |some es=>have e:(aW M a).map (λ _=>"list")=some n:=e;rw[el]at e;cases e;obtain⟨ys,h,_⟩:=dN el hm;exact .inr (.inr (.inr (.inr (.inr ⟨a,ys,aA.mp hx,eA.of h,rfl⟩))))
   |ty n=>cases e
 |_=>exact q.elim⟩
def DV:iK:=λ o i v M N=>match o,i with
 | .ref a,.int k=>match aW M a with
  |some ds=>(match sQ ds.length k with
   |some j=>N (ah M a (.lst (ds.set j v)))
   |none=>False)
  |none=>False
 |_,_=>False
theorem jA:AX X DV:=⟨_,set_list,λ o i v d j e H M Q2 Q hd hj he hm q k=>by
 cases d with
 |ref a=>
  cases j with
  |int n=>
   cases(aA.mp hd);cases(ar.mp hj);have q:(match aW M a with|some ds=>(match sQ ds.length n with|some j=>Q2 (ah M a (.lst (ds.set j e)))|none=>False)|none=>False):=q;cases el:aW M a with
   |none=>rw[el]at q;exact q.elim
   |some ds=>
    rw[el]at q;cases ei:sQ ds.length n with
    |none=>simp only[ei]at q
    |some m=>simp only[ei]at q;obtain⟨xs,h,hx⟩:=dN el hm;refine⟨a,xs,n,m,rfl,rfl,h,by rw[hx.length];exact ei,?_⟩;exact k _ _ (hm.put (u:=.lst (ds.set m e)) (ak.lst h) ⟨_,aG,ax.mono (ak.lst h) _ (hx.set he m)⟩) (ak.lst h) q
  |_=>exact q.elim
 |_=>exact q.elim⟩
end
end L3
namespace L3
open PySem L2
section
variable {δ:cI}{M M1:Mem}{Q:bD}{ta tb tc:bT}{r r':fb}{E:gL}{t u:iL}{c c':eC}{QB:Bool->Mem->Prop}{tl:dP}{QL:List D->Mem->Prop}
theorem Fz(h:t {E with nx:=u E} δ M):yg t u E δ M:=h
theorem yC(h:c δ M λ b M1=>if b=true then t E δ M1 else u E δ M1):BN c t u E δ M:=h
theorem BW(h:E.nx δ M):uo E δ M:=h
theorem FA(h:ta δ M E.rt):Fg ta E δ M:=h
theorem FQ{g:gB}(h:ta δ M λ d M1=>g d δ M1 E.nx):qr ta g E δ M:=h
theorem oC(h:ta δ M λ _ M1=>E.nx δ M1):qp ta E δ M:=h
theorem dF{i:Nat}{d:D}{N:cI->Mem->Prop}(h:N (δ.set i (some d)) M):hName i d δ M N:=h
theorem Fy{d:D}{N:cI->Mem->Prop}{s:iK}(h:ta δ M λ o M1=>tb δ M1 λ j M2=>s o j d M2 λ M3=>N δ M3):hSub ta tb s d δ M N:=h
theorem yr{a:Addr}{k:Int}{v:D}{ds:List D}{j:Nat}{N:Mem->Prop}(h:M a=some (.lst ds))(e:sQ ds.length k=some j)(q:N (ah M a (.lst (ds.set j v)))):DV (.ref a) (.int k) v M N:=by
 show(match aW M a with|some ds=>(match sQ ds.length k with|some j=>N (ah M a (.lst (ds.set j v)))|none=>False)|none=>False);have e1:aW M a=some ds:=by unfold aW;rw[h]
 rw[e1];simp only[e];exact q
theorem uq(h:ta δ M λ d M1=>match d with| .bl k=>QB k M1|_=>False):nk ta δ M QB:=h
theorem El(h:ta δ M λ d M1=>tb δ M1 λ e M2=>r d e M2 Q):yi r ta tb δ M Q:=h
theorem JI{s:D->Mem->bD->Prop}(h:ta δ M λ d M1=>s d M1 Q):MU s ta δ M Q:=h
theorem lD{i:Nat}{d:D}(e:δ[i]?=some (some d))(h:Q d M):gM i δ M Q:=by unfold gM;rw[e];exact h
theorem Nc{d:D}(h:Q d M):sC d δ M Q:=h
theorem FR(h:c δ M λ b M1=>if b=true then c' δ M1 QB else QB false M1):Fp c c' δ M QB:=h
theorem JL(h:c δ M λ b M1=>if b=true then QB true M1 else c' δ M1 QB):MW c c' δ M QB:=h
theorem FC(h:c δ M λ b M1=>QB (!b) M1):Fh c δ M QB:=h
theorem Cp(h:ta δ M λ d M1=>match d with| .bl c=>(if c=true then tb δ M1 Q else Q (.bl false) M1)|_=>False):ym ta tb δ M Q:=h
theorem iZ(h:QL [] M):wc δ M QL:=h
theorem ke(h:ta δ M λ d M1=>tl δ M1 λ ds M2=>QL (d::ds) M2):nu ta tl δ M QL:=h
theorem Fw(h:tl δ M λ ds M1=>ds.length<=sizeLine/\Q (.tup ds) M1):Ff tl δ M Q:=h
theorem FF(h:tl δ M λ ds M1=>ds.length<=sizeLine/\∀p,M1 p=none->Q (.ref p) (ah M1 p (.lst ds))):Fi tl δ M Q:=h
theorem JP{s:List D->Mem->bD->Prop}(h:tl δ M λ ds M1=>s ds M1 Q):IP s tl δ M Q:=h
theorem Na{sp:gK}(h:tl δ M λ ds M1=>sp ds M1 Q):sD sp tl δ M Q:=h
theorem JK{s:D->Option Int->Option Int->Mem->bD->Prop}{l h':D'}(h:ta δ M λ d M1=>l δ M1 λ i M2=>h' δ M2 λ j M3=>s d i j M3 Q):MV s ta l h' δ M Q:=h
theorem wm{QO:Option Int->Mem->Prop}(h:QO none M):oA δ M QO:=h
theorem BV{QO:Option Int->Mem->Prop}(h:ta δ M λ d M1=>match d with| .int i=>QO (some i) M1|_=>False):yh ta δ M QO:=h
theorem ux{T:String}{s:D->List D->Mem->bD->Prop}(h:ta δ M λ d M1=>IL T d M1/\tl δ M1 λ ds M2=>s d ds M2 Q):IQ T s ta tl δ M Q:=h
theorem FP{T:String}{s:D->List D->Mem->bD->Prop}(h:ta δ M λ d M1=>IL T d M1/\s d [] M1 Q):Fo T s ta δ M Q:=h
theorem gO(W:cI->Mem->Prop)(h1:∀N:cI->Mem->Prop,(∀δ' M',W δ' M'->N δ' M')->t {E with nx:=N} δ M)(h2:∀δ' M',W δ' M'->u E δ' M'):yg t u E δ M:=h1 (u E) h2
set_option tactic.hygienic true in
theorem mU{M:Mem}{a:Addr}{o:MO}(h:M a=some o):ah M a o=M:=by
 funext b;unfold ah;split
 ·rename_i e;rw[e,h]
 ·rfl
theorem cZ{a:Addr}{i:Int}{ds:List D}{d:D}(h:M a=some (.lst ds))(e:gE ds i=some d)(q:Q d M):Ji (.ref a) (.int i) M Q:=by
 show(match aW M a with|some ds=>(match gE ds i with|some d=>Q d M|none=>False)|none=>False);have e1:aW M a=some ds:=by unfold aW;rw[h]
 rw[e1];simp only[e];exact q
theorem bX{i:Int}{ds:List D}{d:D}(e:gE ds i=some d)(q:Q d M):Ji (.tup ds) (.int i) M Q:=by show(match gE ds i with|some d=>Q d M|none=>False);rw[e];exact q
theorem M_{C:Int->Int->Prop}{g:Int->Int->D}{i j:Int}(h:C i j)(q:Q (g i j) M):dI C g (.int i) (.int j) M Q:=⟨h,q⟩
theorem yx{g:Int->Int->D}{i j:Int}(h:0 < j)(q:Q (g i j) M):dI (λ _ j=>0 < j) g (.int i) (.int j) M Q:=⟨h,q⟩
theorem FO{g:Int->Int->D}{i j:Int}(h:0 < j)(h2:j < 1073741824)(q:Q (g i j) M):dI IJ g (.int i) (.int j) M Q:=⟨⟨h,h2⟩,q⟩
theorem Ir{i j:Int}(h0: -1000000000000<=i)(h1:i<=1000000000000):pP i j:=.inl ⟨Int.lt_of_lt_of_le (by decide) h0,m6 h1 (by decide)⟩
theorem AK{i j:Int}(h0: -1000000000000<=j)(h1:j<=1000000000000):pP i j:=.inr ⟨Int.lt_of_lt_of_le (by decide) h0,m6 h1 (by decide)⟩
theorem JM{g:Int->Int->D}{i j:Int}(q:Q (g i j) M):EK g (.int i) (.int j) M Q:=q
theorem Cq{a b:Addr}{xs ys:List D}(ha:M a=some (.lst xs))(hb:M b=some (.lst ys))(h:xs.length+ys.length<=sizeLine)(q:∀p,M p=none->Q (.ref p) (ah M p (.lst (xs++ys)))):DW (.ref a) (.ref b) M Q:=by show(match M a,M b with|some (.lst xs),some (.lst ys)=>xs.length+ys.length<=sizeLine/\∀p,M p=none->Q (.ref p) (ah M p (.lst (xs++ys)))|_,_=>False);rw[ha,hb];exact⟨h,q⟩
theorem BZ{i j:Int}(h:pP i j)(q:Q (.int (i*j)) M):Il (.int i) (.int j) M Q:=⟨h,q⟩
theorem FL{i j:Int}(q:Q (.bl (decide (i=j))) M):Iq false (.int i) (.int j) M Q:=by show Q (.bl (xor false (decide (i=j)))) M;simpa using q
theorem FN{i j:Bool}(q:Q (.bl (decide (i=j))) M):Iq false (.bl i) (.bl j) M Q:=by show Q (.bl (xor false (decide (i=j)))) M;simpa using q
theorem FK{i j:Str}(q:Q (.bl (decide (i=j))) M):Iq false (.str i) (.str j) M Q:=by show Q (.bl (xor false (decide (i=j)))) M;simpa using q
theorem FE{i j:Bool}(q:Q (.bl (!decide (i=j))) M):Iq true (.bl i) (.bl j) M Q:=by show Q (.bl (xor true (decide (i=j)))) M;simpa using q
theorem oB{a:Addr}{ds:List D}(h:M a=some (.lst ds))(q:Q (.int ds.length) M):xg [.ref a] M Q:=by
 show(match aW M a with|some ds=>Q (.int ds.length) M|none=>False);have e1:aW M a=some ds:=by unfold aW;rw[h]
 rw[e1];exact q
theorem ka{ds:List D}(q:Q (.int ds.length) M):xg [.tup ds] M Q:=q
theorem yz{ds:List D}(q:∀p,M p=none->Q (.ref p) (ah M p (.lst ds))):dList [.fl ds] M Q:=q
theorem FD{i:Int}(q:Q (.int (-i)) M):Lh (.int i) M Q:=q
theorem aI{P:Prop}{inst:Decidable P}{A B:Prop}(h1:P->A)(h2:¬P->B):if @decide P inst=true then A else B:=by
 by_cases h:P
 ·rw[x8 h,B8 rfl];exact h1 h
 ·rw[r9 h,B9 k8];exact h2 h
theorem kb{P:Prop}{inst:Decidable P}{A B:Prop}(h1:¬P->A)(h2:P->B):if(!@decide P inst)=true then A else B:=by
 by_cases h:P
 ·rw[x8 h,Bool.not_true,B9 k8];exact h2 h
 ·rw[r9 h,Bool.not_false,B8 rfl];exact h1 h
theorem Cc{A B:Prop}(h:A):if true=true then A else B:=by rw[B8 rfl];exact h
theorem Cd{A B:Prop}(h:B):if false=true then A else B:=by rw[B9 k8];exact h
theorem uw{b:Bool}{A B:Prop}(h1:b=true->A)(h2:b=false->B):if b=true then A else B:=by
 cases b with
 |true=>rw[B8 rfl];exact h1 rfl
 |false=>rw[B9 k8];exact h2 rfl
end
end L3
namespace L3
open PySem L2
section
variable {g:gB}{tt:eC}{te:bT}{tb:iL}{δ δc:cI}{M1:Mem}{Qe:List D->Mem->Prop}{E:gL}
theorem md{ds:List D}(Pv:Nat->List D->Mem->Prop)(h0:Pv 0 [] M1)(hz:∀i acc M,i<=ds.length->Pv i acc M->acc.length<=sizeLine) (hs:∀i d acc M,ds[i]?=some d->Pv i acc M->g d δc M λ δ2 M2=>tt δ2 M2 λ b M3=>if b=true then te δ2 M3 λ y M4=>Pv (i+1) (acc++[y]) M4 else Pv (i+1) acc M3) (hd:∀acc M,Pv ds.length acc M->Qe acc M):∃(B:Nat) (W:Nat->List D->Mem->Prop),W 0 [] M1/\∀i acc M,W i acc M->i<=B/\acc.length<=sizeLine/\match items (.fix ds) M with
   |none=>False
   |some ds=>match ds[i]? with
    |none=>i=ds.length/\Qe acc M
    |some d=>g d δc M λ δ2 M2=>tt δ2 M2 λ b M3=>if b=true then te δ2 M3 λ y M4=>W (i+1) (acc++[y]) M4 else W (i+1) acc M3:=by
 refine⟨ds.length,λ i acc M=>if i<=ds.length then Pv i acc M else False,by dsimp only;rw[B8 (A8 _)];exact h0,?_⟩;intro i acc M w;by_cases hi:i<=ds.length
 ·rw[B8 hi]at w;refine⟨hi,hz i acc M hi w,?_⟩;show(match ds[i]? with
    |none=>i=ds.length/\Qe acc M
    |some d=>g d δc M λ δ2 M2=>tt δ2 M2 λ b M3=>if b=true then te δ2 M3 λ y M4=>(if i+1<=ds.length then Pv (i+1) (acc++[y]) M4 else False)else(if i+1<=ds.length then Pv (i+1) acc M3 else False))
  cases e:ds[i]? with
  |none=>have:i=ds.length:=x4 hi (c7.mp e);subst this;exact⟨rfl,hd acc M w⟩
  |some d=>have eQ:i+1<=ds.length:=(c6.mp e).1;simp only[B8 eQ];exact hs i d acc M e w
 ·rw[B9 hi]at w;exact w.elim
theorem jl{ds:List D}(Pv:Nat->cI->Mem->Prop)(h0:Pv 0 δ M1) (hs:∀i d δ M,ds[i]?=some d->Pv i δ M->g d δ M λ δ2 M2=>tb {E with nx:=Pv (i+1),ct:=Pv (i+1),bk:=E.nx} δ2 M2) (hd:∀δ M,Pv ds.length δ M->E.nx δ M):∃(B:Nat) (W:Nat->cI->Mem->Prop),W 0 δ M1/\∀i δ M,W i δ M->i<=B/\match items (.fix ds) M with
   |none=>False
   |some ds=>match ds[i]? with
    |none=>i=ds.length/\E.nx δ M
    |some d=>g d δ M λ δ2 M2=>tb {E with nx:=W (i+1),ct:=W (i+1),bk:=E.nx} δ2 M2:=by
 refine⟨ds.length,λ i δ M=>if i<=ds.length then Pv i δ M else False,by dsimp only;rw[B8 (A8 _)];exact h0,?_⟩;intro i δ M w;by_cases hi:i<=ds.length
 ·rw[B8 hi]at w;refine⟨hi,?_⟩;show(match ds[i]? with
    |none=>i=ds.length/\E.nx δ M
    |some d=>g d δ M λ δ2 M2=>tb {E with nx:=(λ δ M=>if i+1<=ds.length then Pv (i+1) δ M else False),ct:=(λ δ M=>if i+1<=ds.length then Pv (i+1) δ M else False),bk:=E.nx} δ2 M2)
  cases e:ds[i]? with
  |none=>have:i=ds.length:=x4 hi (c7.mp e);subst this;exact⟨rfl,hd δ M w⟩
  |some d=>have eQ:i+1<=ds.length:=(c6.mp e).1;simp only[B8 eQ];exact hs i d δ M e w
 ·rw[B9 hi]at w;exact w.elim
theorem qX{a:Addr}{ds:List D}(Pv:Nat->cI->Mem->Prop)(h0:Pv 0 δ M1)(hl:∀i δ M,i<=ds.length->Pv i δ M->M a=some (.lst ds)) (hs:∀i d δ M,ds[i]?=some d->Pv i δ M->g d δ M λ δ2 M2=>tb {E with nx:=Pv (i+1),ct:=Pv (i+1),bk:=E.nx} δ2 M2) (hd:∀δ M,Pv ds.length δ M->E.nx δ M):∃(B:Nat) (W:Nat->cI->Mem->Prop),W 0 δ M1/\∀i δ M,W i δ M->i<=B/\match items (.at a) M with
   |none=>False
   |some ds=>match ds[i]? with
    |none=>i=ds.length/\E.nx δ M
    |some d=>g d δ M λ δ2 M2=>tb {E with nx:=W (i+1),ct:=W (i+1),bk:=E.nx} δ2 M2:=by
 refine⟨ds.length,λ i δ M=>if i<=ds.length then Pv i δ M else False,by dsimp only;rw[B8 (A8 _)];exact h0,?_⟩;intro i δ M w;by_cases hi:i<=ds.length
 ·rw[B8 hi]at w;refine⟨hi,?_⟩;have e0:items (.at a) M=some ds:=by show(match M a with|some (.lst ds)=>some ds|_=>none)=some ds;rw[hl i δ M hi w]
  rw[e0];show(match ds[i]? with
    |none=>i=ds.length/\E.nx δ M
    |some d=>g d δ M λ δ2 M2=>tb {E with nx:=(λ δ M=>if i+1<=ds.length then Pv (i+1) δ M else False),ct:=(λ δ M=>if i+1<=ds.length then Pv (i+1) δ M else False),bk:=E.nx} δ2 M2)
  cases e:ds[i]? with
  |none=>have:i=ds.length:=x4 hi (c7.mp e);subst this;exact⟨rfl,hd δ M w⟩
  |some d=>have eQ:i+1<=ds.length:=(c6.mp e).1;simp only[B8 eQ];exact hs i d δ M e w
 ·rw[B9 hi]at w;exact w.elim
end
section
variable {δ:cI}{M:Mem}{Q:bD}{wi:nW}{g:gB}{tt:eC}{te:bT}{n:Nat}{fr:List Nat}{ta:bT}{E:gL}{tb:iL}{tl:dP}{R:Src->Mem->Prop}
theorem Fx{r3:List D->Mem->bD->Prop}(h:wi δ M λ src M1=>∃(B:Nat) (W:Nat->List D->Mem->Prop),W 0 [] M1/\∀i acc M,W i acc M->i<=B/\acc.length<=sizeLine/\match items src M with
   |none=>False
   |some ds=>match ds[i]? with
    |none=>i=ds.length/\r3 acc M Q
    |some d=>g d (gX n fr δ) M λ δ2 M2=>tt δ2 M2 λ b M3=>if b=true then te δ2 M3 λ y M4=>W (i+1) (acc++[y]) M4 else W (i+1) acc M3):wb r3 wi g tt te n fr δ M Q:=h
theorem yH{Qe:List D->Mem->Prop}(h:wi δ M λ src M1=>∃(B:Nat) (W:Nat->List D->Mem->Prop),W 0 [] M1/\∀i acc M,W i acc M->i<=B/\acc.length<=sizeLine/\match items src M with
   |none=>False
   |some ds=>match ds[i]? with
    |none=>i=ds.length/\Qe acc M
    |some d=>g d (gX n fr δ) M λ δ2 M2=>tt δ2 M2 λ b M3=>if b=true then te δ2 M3 λ y M4=>W (i+1) (acc++[y]) M4 else W (i+1) acc M3):lB wi g tt te n fr δ M Qe:=h
theorem Ck(h:lB wi g tt te n fr δ M λ ds M'=>∀p,M' p=none->Q (.ref p) (ah M' p (.lst ds))):qq wi g tt te n fr δ M Q:=h
theorem FI(h:wi δ M λ src M1=>∃(B:Nat) (W:Nat->cI->Mem->Prop),W 0 δ M1/\∀i δ M,W i δ M->i<=B/\match items src M with
   |none=>False
   |some ds=>match ds[i]? with
    |none=>i=ds.length/\E.nx δ M
    |some d=>g d δ M λ δ2 M2=>tb {E with nx:=W (i+1),ct:=W (i+1),bk:=E.nx} δ2 M2):Fm wi g tb E δ M:=h
theorem BU(h:tl δ M λ ds M1=>match ds with|[.int j]=>OZ j/\R (.fix (cF 0 j.toNat)) M1|_=>False):zI tl δ M R:=h
theorem Fv{QB:Bool->Mem->Prop}(h:QB true M):qo δ M QB:=h
end
end L3
namespace L4
open PySem PySem.Spec L2 L3
structure WE(X:Cx)(e:Expr)(t:bT):Prop where
 h:QE X e t
structure WT(X:Cx)(e:Expr)(t:eC):Prop where
 h:QT X e t
structure WW(X:Cx)(e:Expr)(t:eC):Prop where
 h:QW X e t
structure WA(X:Cx)(e:List Expr)(t:dP):Prop where
 h:QA X e t
structure WS(X:Cx)(e:Stmt)(t:iL):Prop where
 h:QS X e t
structure Bk(X:Cx)(e:List Stmt)(t:iL):Prop where
 h:Bl X e t
structure WO(X:Cx)(e:Option Expr)(t:D'):Prop where
 h:QO X e t
structure WG(X:Cx)(e:Expr)(t:gB):Prop where
 h:QG X e t
structure Mr(X:Cx)(e:List Expr)(t:mh):Prop where
 h:Lz X e t
structure OQ(X:Cx)(e:List Expr)(t:eC):Prop where
 h:Mu X e t
structure WI(X:Cx)(tg e:Expr)(t:nW):Prop where
 h:QI X tg e t
theorem WW.pt {X:Cx}{e:Expr}{t:eC}(w:WW X e t):WT X e t:=⟨w.h.pt⟩
structure D_(X:Cx)(scope:Scope)(tgs:List Str)(fr:List Nat)(tg:Expr)(g:gB):Prop where
 h:Lv X scope tgs fr tg g
structure gA(X:Cx)(scope:Scope)(tgs:List Str)(fr:List Nat)(tg iter:Expr)(ifs:List Expr)(elt:Expr)(wi:nW)(g:gB)(tt:eC)(te:bT):Prop where
 b:iP X scope fr
 calm:X.calm=true
 xe:∀e s,X.xe e s->False
 it:WI X tg iter wi
 Qu:D_ X scope tgs fr tg g
 ifs:∀cl C fp s H,OQ (bq X scope cl tgs fr C fp s H) ifs tt
 elt:∀cl C fp s H,WE (bq X scope cl tgs fr C fp s H) elt te
theorem gA.h {X:Cx}{scope:Scope}{tgs:List Str}{fr:List Nat}{tg iter:Expr}{ifs:List Expr}{elt:Expr}{wi:nW}{g:gB}{tt:eC}{te:bT}(C:gA X scope tgs fr tg iter ifs elt wi g tt te):ml X scope tgs fr tg iter ifs elt wi g tt te:=
 ⟨C.b,C.calm,C.xe,C.it.h,C.Qu.h,λ cl D fp s H=>(C.ifs cl D fp s H).h,λ cl D fp s H=>(C.elt cl D fp s H).h⟩
section
variable {X:Cx}{a b c e:Expr}{ta tb tc:bT}{pos:Pos}
theorem au(i:Nat){x:Str}(hN:X.N[i]?=some x:=by rfl)(hv:EN X.env.scope x:=by first|exact Or.inl rfl|exact Or.inr (Or.inl rfl)|exact Or.inr (Or.inr rfl))(hd:(x==("__debug__":Str))=false:=by decide)(hcd:(x==("__classdict__":Str))=false:=by decide):WE X (.Name x pos) (gM i):=⟨QU (i:=i) (hN:=hN) (hv:=hv) (hd:=hd) (hcd:=hcd)⟩
theorem ai{i j}:WE X (.Constant (.int i) j pos) (sC (.int i)):=⟨J9⟩
theorem xK{i j}:WE X (.Constant (.bool i) j pos) (sC (.bl i)):=⟨Nq⟩
theorem tW{i j}:WE X (.Constant (.str i) j pos) (sC (.str i)):=⟨J4⟩
theorem tX{j}:WE X (.Constant .none j pos) (sC .bf):=⟨J6⟩
theorem jL{x:Str}{n:String}(hg:Gl X x)(hm:X.mg x=none)(hv:bootBuiltins x=some (.type n))(hn:x≠"__name__":=by decide)(hd:(x==("__debug__":Str))=false:=by decide):WE X (.Name x pos) (sC (.ty n)):=⟨Nl (hg:=hg) (hm:=hm) (hv:=hv) (hn:=hn) (hd:=hd)⟩
theorem bz{op:Operator}{r2:fb}(o:eW X (binaryOp op) r2)(ha:WE X a ta)(hb:WE X b tb):WE X (.BinOp a op b pos) (yi r2 ta tb):=⟨Nm (o:=o) (ha:=ha.h) (hb:=hb.h)⟩
theorem Jp{op:UnaryOp}{r2:D->Mem->bD->Prop}(o:OR X (unaryOp op) r2)(ha:WE X a ta):WE X (.UnaryOp op a pos) (MU r2 ta):=⟨Nk (o:=o) (ha:=ha.h)⟩
theorem gI{op:CmpOp}{r2:fb}(o:eW X (compareOp op) r2)(ha:WE X a ta)(hb:WE X b tb)(hm:behindInMarks op b=false):WE X (.Compare a [op] [b] pos) (yi r2 ta tb):=⟨J' (o:=o) (ha:=ha.h) (hb:=hb.h) (hm:=hm)⟩
theorem aM{op:CmpOp}{r2:fb}(o:eW X (compareOp op) r2)(ha:WE X a ta)(hb:WE X b tb)(hm:behindInMarks op b=false):WT X (.Compare a [op] [b] pos) (nk (yi r2 ta tb)):=⟨F_ (o:=o) (ha:=ha.h) (hb:=hb.h) (hm:=hm)⟩
theorem kM(h:WE X e ta)(he:∀whole,isTrue e X.env whole=(do let v <- whole;standAt e.pos;holding [v] (truthy v)):=by intro _;rfl):WT X e (nk ta):=⟨FY (h:=h.h) (he:=he)⟩
variable {tA tB:eC}{rest:List Expr}
theorem n_(ha:WT X a tA):WW X (.BoolOp .And [a] pos) tA:=⟨Cu (ha:=ha.h)⟩
theorem rW(ha:WT X a tA):WW X (.BoolOp .Or [a] pos) tA:=⟨FW (ha:=ha.h)⟩
theorem og(ha:WT X a tA)(hb:WW X (.BoolOp .And (b::rest) pos) tB):WW X (.BoolOp .And (a::b::rest) pos) (Fp tA tB):=⟨FX (ha:=ha.h) (hb:=hb.h)⟩
theorem xG(ha:WT X a tA)(hb:WW X (.BoolOp .Or (b::rest) pos) tB):WW X (.BoolOp .Or (a::b::rest) pos) (MW tA tB):=⟨J0 (ha:=ha.h) (hb:=hb.h)⟩
theorem ET(ha:WT X a tA):WT X (.UnaryOp .Not a pos) (Fh tA):=⟨FZ (ha:=ha.h)⟩
theorem qb{op}(h:WE X a ta):WE X (.BoolOp op [a] pos) ta:=⟨J5 (h:=h.h)⟩
theorem w_and(ha:WE X a ta)(hb:WE X (.BoolOp .And (b::rest) pos) tb):WE X (.BoolOp .And (a::b::rest) pos) (ym ta tb):=⟨Kb (ha:=ha.h) (hb:=hb.h)⟩
variable {es:List Expr}{t:dP}
theorem ab:WA X [] wc:=⟨Gi⟩
theorem aa(ha:WE X e ta)(hr:WA X es t)(hs:starEach (e::es) X.env=(false,eval e X.env)::starEach es X.env:=by rfl):WA X (e::es) (nu ta t):=⟨CI (ha:=ha.h) (hr:=hr.h) (hs:=hs)⟩
theorem cR{x1}(h:WA X es t):WE X (.Tuple es x1 pos) (Ff t):=⟨J3 (h:=h.h)⟩
theorem cx(h:WA X es t):WE X (.List es pos) (Fi t):=⟨J7 (h:=h.h)⟩
theorem a_{r2:fb}(o:LC X r2)(ha:WE X a ta)(hb:WE X b tb)(hs:pK b):WE X (.Subscript a b pos) (yi r2 ta tb):=⟨Nn (o:=o) (ha:=ha.h) (hb:=hb.h) (hs:=hs)⟩
theorem jV:WO X none oA:=⟨CB⟩
theorem jU(h:WE X e ta):WO X (some e) (yh ta):=⟨CA (h:=h.h)⟩
variable {lo hi:Option Expr}{tl th:D'}{p2:Pos}
theorem jY{r2:D->Option Int->Option Int->Mem->bD->Prop}(o:Ly X r2)(he:WE X e ta)(hl:WO X lo tl)(hu:WO X hi th):WE X (.Subscript e (.Slice lo hi none p2) pos) (MV r2 ta tl th):=⟨CJ (o:=o) (he:=he.h) (hl:=hl.h) (hu:=hu.h)⟩
variable {x:Str}{p:Pos}{id T:String}
theorem ay{r2:List D->Mem->bD->Prop}(o:cY X (.builtin id) r2)(hg:Gl X x)(hm:X.mg x=none)(hv:bootBuiltins x=some (.builtin id))(ha:WA X (e::es) t)(hn:x≠"__name__":=by decide)(hdb:(x==("__debug__":Str))=false:=by decide)(he:starEach (e::es) X.env=(false,eval e X.env)::starEach es X.env:=by rfl)(hpl:(backTo pos (starEach es X.env)).any (·.1)=false:=by rfl):WE X (.Call (.Name x p) (e::es) [] pos) (IP r2 t):=⟨CQ (o:=o) (hg:=hg) (hm:=hm) (hv:=hv) (ha:=ha.h) (hn:=hn) (hdb:=hdb) (he:=he) (hpl:=hpl)⟩
theorem bM{r2:List D->Mem->bD->Prop}(o:cY X (.type T) r2)(hg:Gl X x)(hm:X.mg x=none)(hv:bootBuiltins x=some (.type T))(ha:WA X (e::es) t)(hn:x≠"__name__":=by decide)(hdb:(x==("__debug__":Str))=false:=by decide)(he:starEach (e::es) X.env=(false,eval e X.env)::starEach es X.env:=by rfl)(hpl:(backTo pos (starEach es X.env)).any (·.1)=false:=by rfl):WE X (.Call (.Name x p) (e::es) [] pos) (IP r2 t):=⟨CN (o:=o) (hg:=hg) (hm:=hm) (hv:=hv) (ha:=ha.h) (hn:=hn) (hdb:=hdb) (he:=he) (hpl:=hpl)⟩
end
section
variable {X:Cx}{o e:Expr}{es:List Expr}{to:bT}{t:dP}{T id:String}{name:Str}{apos bQ:Pos}
theorem Jr{r2:D->List D->Mem->bD->Prop}(pa:PlainAttrs T)(slot:Slot T name id)(hty:typeOf (.builtin id)=pure (.type "method_descriptor"))(hm:Ea X id r2)(ho:WE X o to)(hbase:attributeBase o name X.env (eval o X.env)=eval o X.env:=by rfl)(hline:(apos.endLine==bQ.line)=true:=by rfl):WE X (.Call (.Attribute o name apos) [] [] bQ) (Fo T r2 to):=⟨Ka (pa:=pa) (slot:=slot) (hty:=hty) (hm:=hm) (ho:=ho.h) (hbase:=hbase) (hline:=hline)⟩
theorem dX{r2:D->List D->Mem->bD->Prop}(pa:PlainAttrs T)(slot:Slot T name id)(hty:typeOf (.builtin id)=pure (.type "method_descriptor"))(hm:Ea X id r2)(ho:WE X o to)(ha:WA X (e::es) t)(hbase:attributeBase o name X.env (eval o X.env)=eval o X.env:=by rfl)(hfew:((backTo bQ (starEach (e::es) X.env)).all (λ x=>!x.1)&&(backToKw bQ (keywordEach [] X.env)).all (λ x=>x.1.isSome)
   &&decide ((e::es).length+([]:List Keyword).length+(if([]:List Keyword).isEmpty then 0 else 1) < 30))=true:=by rfl) (hline:(apos.endLine==bQ.line)=true:=by rfl) (hs:starEach (e::es) X.env=(false,eval e X.env)::starEach es X.env:=by rfl) (hplain:(backTo bQ (starEach es X.env)).any (·.1)=false:=by rfl):WE X (.Call (.Attribute o name apos) (e::es) [] bQ) (IQ T r2 to t):=⟨Np (pa:=pa) (slot:=slot) (hty:=hty) (hm:=hm) (ho:=ho.h) (ha:=ha.h) (hbase:=hbase) (hfew:=hfew) (hline:=hline) (hs:=hs) (hplain:=hplain)⟩
end
section
variable {X:Cx}{x:Str}{p pos:Pos}{e:Expr}{es:List Expr}{t:dP}{k j:Nat}{ps:List Str}{sp:gK}
theorem aS(d:dj X.prog X.w X.K X.mg X.base k x ps sp)(hr:cB k X.A)(hg:Gl X x)(ha:WA X (e::es) t)(hdb:(x==("__debug__":Str))=false:=by decide)(he:starEach (e::es) X.env=(false,eval e X.env)::starEach es X.env:=by rfl)(hpl:(backTo pos (starEach es X.env)).any (·.1)=false:=by rfl):WE X (.Call (.Name x p) (e::es) [] pos) (sD sp t):=⟨J_ (d:=d) (hr:=hr) (hg:=hg) (ha:=ha.h) (hdb:=hdb) (he:=he) (hpl:=hpl)⟩
end
section
variable {X:Cx}{st:Stmt}{rest:List Stmt}{t u:iL}{te:bT}{e:Expr}{pos:Pos}
theorem bh:Bk X [] uo:=⟨Cw⟩
theorem ao(h:WS X st t):Bk X [st] t:=⟨Cv (h:=h.h)⟩
theorem ae(h1:WS X st t)(h2:Bk X rest u):Bk X (st::rest) (yg t u):=⟨yK (h1:=h1.h) (h2:=h2.h)⟩
theorem bK(he:WE X e te)(hs:swapsWith e none pos.line X.env=pure false:=by rfl):WS X (.Expr e pos) (qp te):=⟨Cy (he:=he.h) (hs:=hs)⟩
theorem aY(he:WE X e te):WS X (.Return (some e) pos) (Fg te):=⟨Gb (he:=he.h)⟩
theorem cw{c:Expr}{a b:List Stmt}{tc:eC}(hc:WT X c tc)(ha:Bk X a t)(hb:Bk X b u):WS X (.If c a b pos) (BN tc t u):=⟨J1 (hc:=hc.h) (ha:=ha.h) (hb:=hb.h)⟩
theorem bL{i:Nat}{x:Str}(hN:X.N.Nodup)(hi:X.N[i]?=some x)(hx:Loc X.env.scope x)(hf:X.fn x=true\/X.env.scope.names.lookup x=some .local:=by first|exact .inl rfl|exact .inr rfl|assumption):WG X (.Name x pos) (hName i):=⟨CH (hN:=hN) (hi:=hi) (hx:=hx) (hf:=hf)⟩
theorem jX:Mr X [] mI:=⟨CG⟩
theorem dm{e:Expr}{es:List Expr}{t:gB}{u:mh}(h1:WG X e t)(h2:Mr X es u)(hs:(assignEach (e::es) X.env).map (·.2)=assign e X.env::(assignEach es X.env).map (·.2):=by rfl):Mr X (e::es) (cC t u):=⟨yM (h1:=h1.h) (h2:=h2.h) (hs:=hs)⟩
theorem oi{es:List Expr}{k:Nat}{t:mh}{n:Nat}(hc:X.calm=true)(h:Mr X es t)(hn:(assignEach es X.env).length=n:=by rfl)(hst:(assignEach es X.env).findIdx? (·.1)=none:=by rfl):WG X (.Tuple es k pos) (mH n t):=⟨Gg (hc:=hc) (h:=h.h) (hn:=hn) (hst:=hst)⟩
theorem fB{o i:Expr}{to ti:bT}{t:iK}(ho:WE X o to)(hi:WE X i ti)(hs:AX X t)(ha:∀v,assign (.Subscript o i pos) X.env v=(do
   let ov <- holding [v] (eval o X.env)
   let iv <- holding [v,ov] (eval i X.env)
   standAt pos
   holding [v,ov,iv] (setItem ov iv v)
   release [v,ov,iv] []):=by intro _;rfl):WG X (.Subscript o i pos) (hSub to ti t):=⟨Gh (ho:=ho.h) (hi:=hi.h) (hs:=hs) (ha:=ha)⟩
theorem ek{tg e:Expr}{g:gB}(he:WE X e te)(hg:WG X tg g)(hs:swapsWithSole [tg] e pos.line X.env=pure false:=by rfl)(hw:swappedStores [tg] e X.env=pure none:=by rfl)(h1:(assignEach [tg] X.env).map (·.2)=[assign tg X.env]:=by rfl):WS X (.Assign [tg] e pos) (qr te g):=⟨Ge (he:=he.h) (hg:=hg.h) (hs:=hs) (hw:=hw) (h1:=h1)⟩
theorem aD{i:Nat}{x:Str}{e:Expr}{pos':Pos}(hN:X.N.Nodup)(hi:X.N[i]?=some x)(hx:Loc X.env.scope x)(he:WE X e te)(hs:swapsWith e (some (.Name x pos')) pos.line X.env=pure false:=by rfl)(hf:X.fn x=true\/X.env.scope.names.lookup x=some .local:=by first|exact .inl rfl|exact .inr rfl|assumption):WS X (.Assign [.Name x pos'] e pos) (qr te (hName i)):=⟨Ga (hN:=hN) (hi:=hi) (hx:=hx) (he:=he.h) (hs:=hs) (hf:=hf)⟩
end
section
variable {X:Cx}{tg l:Expr}{tl:bT}{ta:dP}{a b:Expr}{p pos:Pos}
theorem dS(hl:WE X l tl):WI X tg l (Hx tl):=⟨Gf (hl:=hl.h)⟩
theorem bt(hg:Gl X "range")(hm:X.mg "range"=none)(ha:WA X [a] ta)(hs:starEach [a] X.env=[(false,eval a X.env)]:=by rfl):WI X tg (.Call (.Name "range" p) [a] [] pos) (zI ta):=⟨wq (hg:=hg) (hm:=hm) (ha:=ha.h) (hs:=hs)⟩
end
section
variable {X:Cx}{tg iter:Expr}{wi:nW}{g:gB}{tb:iL}{body:List Stmt}{pos:Pos}
theorem dR(hp:PassesOwn (model X.prog X.w) X.A X.env X.xe)(hc:X.calm=true)(hi:WI X tg iter wi)(hg:WG X tg g)(hb:Bk X body tb)(hs:∀x,foldedSetIterable iter X.env x=pure x:=by intro _;rfl):WS X (.For tg iter body [] pos) (Fm wi g tb):=⟨Gd (hp:=hp) (hc:=hc) (hi:=hi.h) (hg:=hg.h) (hb:=hb.h) (hs:=hs)⟩
end
section
variable {X:Cx}{c:Expr}{tc:eC}{tb:iL}{body:List Stmt}{pos:Pos}
theorem dQ(hp:PassesOwn (model X.prog X.w) X.A X.env X.xe)(hc:WT X c tc)(hb:Bk X body tb):WS X (.While c body [] pos) (sj tc tb):=⟨yL (hp:=hp) (hc:=hc.h) (hb:=hb.h)⟩
end
section
variable {X:Cx}{scope:Scope}{tgs:List Str}{fr:List Nat}{tg elt iter:Expr}{ifs:List Expr}{pos:Pos}{wi:nW}{g:gB}{tt:eC}{te:bT}
theorem cg:OQ X [] qo:=⟨CD⟩
theorem jW{c:Expr}{t:eC}(h:WT X c t):OQ X [c] t:=⟨CC (h:=h.h)⟩
theorem bI{i:Nat}{x:Str}{ps:Pos}(h:∀cl C fp s H,PG (bq X scope cl tgs fr C fp s H) (.Name x ps) (ck i))(hi:i < tgs.length):D_ X scope tgs fr (.Name x ps) (hName i):=⟨BC (h:=h) (hi:=hi)⟩
theorem qa{i j k:Nat}{x y:Str}{px py pt:Pos}(h:∀cl C fp s H,PG (bq X scope cl tgs fr C fp s H) (.Tuple [.Name x px,.Name y py] k pt) (qW X.K 2 (cX (ck i) (cX (ck j) oZ))))(hi:i < tgs.length)(hj:j < tgs.length):D_ X scope tgs fr (.Tuple [.Name x px,.Name y py] k pt) (mH 2 (cC (hName i) (cC (hName j) mI))):=⟨BB (h:=h) (hi:=hi) (hj:=hj)⟩
theorem kQ(C:gA X scope tgs fr tg iter ifs elt wi g tt te)(hs:∀x,foldedSetIterable iter X.env x=pure x:=by intro _;rfl):WE X (.ListComp elt [⟨tg,iter,ifs,0⟩] scope pos) (qq wi g tt te tgs.length fr):=⟨Gq (C:=C.h) (hs:=hs)⟩
theorem cJ{i:Nat}{y:Str}{py qh:Pos}(hN:X.N.Nodup)(hiy:X.N[i]?=some y)(hy:Loc X.env.scope y)(C:gA X scope tgs fr tg iter ifs elt wi g tt te)(hsw:swapsWith (.ListComp elt [⟨tg,iter,ifs,0⟩] scope pos) (some (.Name y py)) qh.line X.env=pure true:=by rfl)(hf:X.fn y=true\/X.env.scope.names.lookup y=some .local:=by first|exact .inl rfl|exact .inr rfl|assumption)(hs:∀x,foldedSetIterable iter X.env x=pure x:=by intro _;rfl):WS X (.Assign [.Name y py] (.ListComp elt [⟨tg,iter,ifs,0⟩] scope pos) qh) (qr (qq wi g tt te tgs.length fr) (hName i)):=⟨sy (hN:=hN) (hiy:=hiy) (hy:=hy) (C:=C.h) (hsw:=hsw) (hf:=hf) (hs:=hs)⟩
variable {x:Str}{p:Pos}{id T:String}{bQ:Pos}
theorem EU{r2 r3:List D->Mem->bD->Prop}(o:cY X (.builtin id) r2)(h3:mf r2 r3)(hg:Gl X x)(hm:X.mg x=none)(hv:bootBuiltins x=some (.builtin id))(C:gA X scope tgs fr tg iter ifs elt wi g tt te)(hn:x≠"__name__":=by decide)(hdb:(x==("__debug__":Str))=false:=by decide)(hs:∀x,foldedSetIterable iter X.env x=pure x:=by intro _;rfl):WE X (.Call (.Name x p) [.ListComp elt [⟨tg,iter,ifs,0⟩] scope bQ] [] pos) (wb r3 wi g tt te tgs.length fr):=⟨Gk (o:=o) (h3:=h3) (hg:=hg) (hm:=hm) (hv:=hv) (C:=C.h) (hn:=hn) (hdb:=hdb) (hs:=hs)⟩
theorem kN{r2 r3:List D->Mem->bD->Prop}(o:cY X (.type T) r2)(h3:mf r2 r3)(hg:Gl X x)(hm:X.mg x=none)(hv:bootBuiltins x=some (.type T))(C:gA X scope tgs fr tg iter ifs elt wi g tt te)(hn:x≠"__name__":=by decide)(hdb:(x==("__debug__":Str))=false:=by decide)(hs:∀x,foldedSetIterable iter X.env x=pure x:=by intro _;rfl):WE X (.Call (.Name x p) [.ListComp elt [⟨tg,iter,ifs,0⟩] scope bQ] [] pos) (wb r3 wi g tt te tgs.length fr):=⟨Gj (o:=o) (h3:=h3) (hg:=hg) (hm:=hm) (hv:=hv) (C:=C.h) (hn:=hn) (hdb:=hdb) (hs:=hs)⟩
variable {o:Expr}{to:bT}{name:Str}{apos:Pos}
end
end L4
namespace L4
open PySem PySem.Spec L2 L3
section
variable {P:Program}{w:World}{K:C0}{mg:Str->Option Value}{base:Heap}
theorem qE{x qual:Str}{st:Stmt}{f:Addr}{fd:FuncData}{N ps:List Str}{k:Nat}{sp:gK}(F:jH K x qual st f fd)(S:aR N ps (aq st))(len:∀ds M Q,sp ds M Q->ds.length=ps.length) (dw:∀(dD:Value) (A:Around) (outer:List Env) (s:Shared) (H:Hp) (E:XK) (ds:List D) (M:Mem) (Q:bD),cB k (A.deeper (PyProof.Rows.envOfC qual (aq st) s.heap.objs.size f dD))->sp ds M Q->
   ∃t,Bk (mJ fh P w K mg base N qual (aq st) f dD A outer s H E).Dq (bx st) t/\t {nx:=λ _ M'=>fin2 Q .bf M',rt:=fin2 Q} (fF N ds) M):cu P w K mg base fh (k+1) f fd ps (cW K sp):=
 QZ F S len λ dD A outer s H E ds M Q hr h=>let⟨t,a,b⟩:=dw dD A outer s H E ds M Q hr h;⟨t,a.h,b⟩
end
end L4
namespace L5
open PySem
def jS(T:String)(h:Heap)(j l:Addr)(i:Nat):Prop:=∃o,h.get? j=some o/\o.cls=.type T/\o.data=.fields #[.ref l,.int i 0]
theorem jS.keep {T:String}{h h':Heap}{j l:Addr}{i:Nat}(x:jS T h j l i)(k:∀o,h.get? j=some o->h'.get? j=some o):jS T h' j l i:=let⟨o,a,r⟩:=x;⟨o,k o a,r⟩
structure NK(T:String)(Sq:Heap->Addr->Array Value->Prop):Prop where
 keep:∀{h h':Heap} {l:Addr} {vs:Array Value},Sq h l vs->(∀o,h.get? l=some o->h'.get? l=some o)->Sq h' l vs
 start:∀{prog:Program} {w:World} {A:Around} {E:Value->Shared->Prop} {s:Shared} {l:Addr} {vs:Array Value} {Q:Value->Shared->Prop},Sq s.heap l vs->
  Q (.ref s.heap.objs.size) {s with heap:=s.heap.push {cls:=.type T,data:=.fields #[.ref l,.int 0 0]}}->wpAny (model prog w) A (pyIter (.ref l)) Q E s
 item:∀{prog:Program} {w:World} {A:Around} {E:Value->Shared->Prop} {s:Shared} {j l:Addr} {i:Nat} {vs:Array Value} {x:Value} {Q:Value->Shared->Prop},jS T s.heap j l i->Sq s.heap l vs->vs[i]?=some x->
  (∀h',jS T h' j l (i+1)->Heap.SameBut j s.heap h'->Q x {s with heap:=h'})->wpAny (model prog w) A (Builtin.SmallTypes.nextOf (.ref j)) Q E s
 stop:∀{prog:Program} {w:World} {A:Around} {E:Value->Shared->Prop} {s:Shared} {j l:Addr} {i:Nat} {vs:Array Value} {Q:Value->Shared->Prop},A.handled=none->jS T s.heap j l i->Sq s.heap l vs->vs[i]?=none->
  (∀h' e,Heap.ExtBut j s.heap h'->(∃o,h'.get? e=some o/\o.cls=.type "StopIteration")->E (.ref e) {s with heap:=h'})->wpAny (model prog w) A (Builtin.SmallTypes.nextOf (.ref j)) Q E s
theorem iw:NK "list_iterator" Heap.IsList where
 keep:=λ x k=>x.at k
 start:=λ x q=>wpAny_pyIter_list x q
 item:=λ a b c d=>wpAny_nextOf_list_item a b c d
 stop:=λ a b c d e=>wpAny_nextOf_list_end a b c d e
section
variable {prog:Program}{w:World}{A:Around}{E:Value->Shared->Prop}{s:Shared}
theorem Hd{j q:Addr}{i:Nat}{vs:Array Value}{x:Value}{Q:Value->Shared->Prop}(ji:s.heap.IsTupleIter j q i)(jt:s.heap.IsTuple q vs)(jx:vs[i]?=some x) (k:∀h',h'.IsTupleIter j q (i+1)->Heap.SameBut j s.heap h'->Q x {s with heap:=h'}):wpAny (model prog w) A (Builtin.SmallTypes.nextOf (.ref j)) Q E s:=by obtain⟨ob,hb,kc,kd⟩:=id ji;obtain⟨ot,ht,_,nt,dt⟩:=jt;unfold Builtin.SmallTypes.nextOf;refine B0 (i3 (name:=Str.ofString "__next__") ji.typeIs a8 (p6 a8 ji.typeIs F.entry_tuple_iterator_next ?_ (F.args_tuple_iterator_next_1 _)));refine B0 (m:=field (.ref j) 0) (A9 hb kd (x:=.ref q) rfl ?_);show wpAny _ _ (if(Value.ref q==Value.none)=true then _ else _) _ _ s;rw[B9 (show(Value.ref q==Value.none)≠true from k8)];refine B0 (m:=field (.ref j) 1) (A9 hb kd (x:=.int i 0) rfl ?_);refine B0 (m:=seqItems? (.ref q)) (x9 ht dt ?_);simp only[m9,jx];refine B0 (wpAny_setField hb kd (by simp) (B1 ⟨x,rfl,B1 (k _ ?_ (j6 ..))⟩));refine⟨_,i8 _ hb (Obj.isFreed_of_fields (Obj.data_mapFields kd _)),(Obj.cls_mapFields ..).trans kc,?_⟩;rw[Obj.data_mapFields kd];simp[rawInt]
theorem E_{j q:Addr}{i:Nat}{vs:Array Value}{Q:Value->Shared->Prop}(hA:A.handled=none)(ji:s.heap.IsTupleIter j q i)(jt:s.heap.IsTuple q vs)(jx:vs[i]?=none) (k:∀h' e,Heap.ExtBut j s.heap h'->(∃o,h'.get? e=some o/\o.cls=.type "StopIteration")->E (.ref e) {s with heap:=h'}):wpAny (model prog w) A (Builtin.SmallTypes.nextOf (.ref j)) Q E s:=by obtain⟨ob,hb,kc,kd⟩:=id ji;obtain⟨ot,ht,_,nt,dt⟩:=jt;unfold Builtin.SmallTypes.nextOf;refine B0 (i3 (name:=Str.ofString "__next__") ji.typeIs a8 (p6 a8 ji.typeIs F.entry_tuple_iterator_next ?_ (F.args_tuple_iterator_next_1 _)));refine B0 (m:=field (.ref j) 0) (A9 hb kd (x:=.ref q) rfl ?_);show wpAny _ _ (if(Value.ref q==Value.none)=true then _ else _) _ _ s;rw[B9 (show(Value.ref q==Value.none)≠true from k8)];refine B0 (m:=field (.ref j) 1) (A9 hb kd (x:=.int i 0) rfl ?_);refine B0 (m:=seqItems? (.ref q)) (x9 ht dt ?_);simp only[m9,jx];refine B0 (B2 (B0 (wpAny_setField hb kd (by simp) ?_)));refine B0 (m:=newExc (.type "StopIteration") []) ?_;simp only[newExc,newTuple];refine B0 (n5 (B0 (m:=firstArgMember _ _) (wpAny_of_eq (a:=Value.none) (by first|rfl|(simp only[firstArgMember];rfl)) (n5 ?_ (by size_fits)))) (by size_fits));simp only[raiseNew];refine B0 (wpAny_handled ?_);have hB:A.in1.handled=none:=hA;rw[hB];exact B0 (B1 (wpAny_throw (k _ _ (((j6 ..).extBut.push _).push _) ⟨_,k4 _ rfl,rfl⟩)))
end
theorem fR:NK "tuple_iterator" Heap.IsTuple where
 keep:=λ x k=>let⟨o,a,r⟩:=x;⟨o,k o a,r⟩
 start:=λ x q=>wpAny_pyIter_tuple x q
 item:=λ a b c d=>Hd a b c d
 stop:=λ a b c d e=>E_ a b c d e
end L5
namespace L2
open PySem PySem.Spec PyProof.Rows L5
def Sq(b:Bool)(K:C0)(H:Hp)(a:Addr)(xs:List V):Prop:=match b with
 |true=>fz K H a xs
 |false=>eA K H a xs
def LO(b:Bool):String:=match b with
 |true=>"tuple_iterator"
 |false=>"list_iterator"
def iC(b:Bool):Heap->Addr->Array Value->Prop:=match b with
 |true=>Heap.IsTuple
 |false=>Heap.IsList
theorem fS:∀b,NK (LO b) (iC b)
 |true=>fR
 |false=>iw
section
variable {X:Cx}{pins:List (Addr×Obj)}{σ:St}{H:Hp}{s:Shared}{a v:Addr}{xs ys:List V}
theorem iU(I:Inv X pins σ H s):∀{b:Bool},Sq b X.K H a xs->∃aw:List Value,Vals xs aw/\iC b s.heap a aw.toArray
 |true,h=>let⟨aw,r,p,_⟩:=I.tuple h;⟨aw,r,p⟩
 |false,h=>let⟨aw,r,p,_⟩:=I.list h;⟨aw,r,p.isList⟩
theorem Fb(I:Inv X pins σ H s):∀{b:Bool},Sq b X.K H a xs->Sq b X.K H a ys->xs=ys
 |true,h,q=>I.mV h q
 |false,h,q=>I.qJ h q
theorem ur{u:HO}(h:Rd H a u):∃o,H a=some o:=by
 rcases h with h|⟨o,h⟩
 ·exact⟨_,h⟩
 ·exact⟨_,h⟩
theorem xU:∀{b:Bool} {K:C0},Sq b K H a xs->(∃o,H a=some o)\/∃o,K.lookup a=some o
 |true,K,h=>by
  rcases h with h|⟨o,aw,n,hk,_⟩
  ·exact .inl (ur h)
  ·exact .inr ⟨o,hk⟩
 |false,K,h=>by
  rcases h with h|⟨o,aw,n,hk,_⟩
  ·exact .inl (ur h)
  ·exact .inr ⟨o,hk⟩
theorem xV(I:Inv X pins σ H s)(f:iO X pins H v){b:Bool}(h:Sq b X.K H a xs):a≠v:=λ e=>by
 subst e;rcases xU h with⟨o,q⟩|⟨o,q⟩
 ·rw[f.1]at q;cases q
 ·have q:=I.ok.mod.KA a o q;rcases f.2.2.2.1 with z|z
  ·exact I.ok.wD a o q z
  ·exact absurd (l7 (A0 q) (A2 I.ok.xo z)) (y6 _)
theorem xO{t':Nat}{ch:List Addr}{h':Heap}(I:Inv X pins σ H s)(k:∀b o,b∉ch->s.heap.get? b=some o->h'.get? b=some o)(hf:∀b∈ch,iO X pins H b):Inv X pins σ H {s with heap:=h',toks:=t'}:=by
 have Kv:∀b u,H b=some u->b∉ch:=λ b u e z=>by rw[(hf b z).1]at e;cases e
 refine I.step (g':=s.gens) (d':=s.drawn) (ch:=ch) (λ b hb=>?_) (λ b o _ _ hc e _=>k b o hc e) (λ b o _ _ hc e _=>⟨o.slots,k b o hc e⟩) (λ _ _ _ _ n=>n)
  (λ b o hc e=>⟨o,k b o hc e⟩) (λ _ _ e=>e) (λ _ _ _ e=>e) (λ b ps e=>⟨#[],by rw[e];simp⟩) (λ m hm=>?_) (λ b u e=>?_) I.bare
 ·obtain⟨f0,f1,f2,f3,f4,f5⟩:=hf b hb;exact⟨f3,f1,f4,f5⟩
 ·obtain⟨o,es,ep,ho,r⟩:=hm;exact⟨o,es,ep,k _ o (λ z=>(hf _ z).2.1 rfl) ho,r⟩
 ·refine(I.aZ b u e).my (λ c v hc q=>k c v ?_ q) (λ _ q=>q) λ _ _ q=>q;rcases hc with z|z
  ·rw[z];exact Kv b u e
  ·exact Kv c _ z
end
end L2
namespace L5
open PySem
theorem Bz:fillsNumberSlot (.type "tuple") "mul"=pure false:=fillsNumberSlot_seq (id:="tuple.__mul__") (r:=some (.builtin "tuple.__rmul__")) F.slot_tuple_mul.lookup (by decide+kernel) F.slot_tuple_rmul.lookup (by decide+kernel)
theorem EZ:seqRepeat? (.type "tuple")=pure (some (.builtin "tuple.__mul__")):=by unfold seqRepeat?;rw[seqSlot_of (T:="tuple") (name:="__mul__") (id:="tuple.__mul__") F.slot_tuple_mul.lookup (by decide+kernel),seqSlot_of (T:="tuple") (name:="__rmul__") (id:="tuple.__rmul__") F.slot_tuple_rmul.lookup (by decide+kernel)];rfl
theorem E2(a:Int)(t:Tok)(l:Addr)(aw:Array Value)(n:Nat)(dd:Option Addr)(sl:Array (Option Value)):Meets (Builtin.«int.__rmul__» ⟨[.int a t,.ref l],[]⟩) (λ _ R s=>s.heap.get? l=some {cls:=.type "tuple",dict:=dd,data:=.seq aw n,slots:=sl}/\R (.ok (.ret Value.notImplemented)) s):=
 .of_wp λ prog w A R s h=>by
  obtain⟨hp,g,d,tk,os⟩:=s;obtain⟨hl,h⟩:=h
  wp_walk
  exact⟨_,rfl,h⟩
theorem E1(l:Addr)(aw:Array Value)(n:Nat)(dd:Option Addr)(sl:Array (Option Value))(u:Tok):Meets (Builtin.«tuple.__mul__» ⟨[.ref l,.int 1 u],[]⟩) (λ _ R s=>s.heap.get? l=some {cls:=.type "tuple",dict:=dd,data:=.seq aw n,slots:=sl}/\R (.ok (.ret (.ref l))) s):=
 .of_wp λ prog w A R s h=>by
  obtain⟨hp,g,d,tk,os⟩:=s;obtain⟨hl,h⟩:=h
  wp_walk
  exact⟨_,rfl,h⟩
theorem By(l:Addr)(aw:Array Value)(n:Nat)(dd:Option Addr)(sl:Array (Option Value))(x:Int)(u:Tok)(hx:x≠1)(h1: -(2^63)<=x)(h2:x < 2^63)(hi:aw.isEmpty=false)(hz:aw.size*x.toNat<=sizeLine):
  Meets (Builtin.«tuple.__mul__» ⟨[.ref l,.int x u],[]⟩) (λ _ R s=>s.heap.get? l=some {cls:=.type "tuple",dict:=dd,data:=.seq aw n,slots:=sl}/\
   R (.ok (.ret (.ref s.heap.objs.size))) {s with heap:=s.heap.push {cls:=.type "tuple",data:=.seq ((List.replicate x.toNat aw).foldl (·++·) #[])}}):=
 .of_wp λ prog w A R s h=>by
  obtain⟨hp,g,d,tk,os⟩:=s;obtain⟨hl,h⟩:=h
  wp_walk
  rw[B9 (by simp;omega)]
  wp_walk
  by_cases Rj:x<=0
  ·rw[B8 (by simp[Rj])]
   wp_walk
   have e:x.toNat=0:=by omega
   rw[e]at h;exact⟨_,rfl,h⟩
  ·rw[B9 (by simp[hi];omega)];have ez:((aw.size:Int)*x)=((aw.size*x.toNat:Nat):Int):=by rw[Int.natCast_mul,Int.toNat_of_nonneg (by omega)]
   have Rf:=hz;rw[A7]at Rf;rw[B9 (by rw[ez];omega)]
   wp_walk
   rw[B9 (by unfold Builtin.Tuple.tupleTooMany;rw[ez,decide_eq_true_eq,A7];omega)];have hsz:(List.foldl (λ x1 x2=>x1++x2) #[] (List.replicate x.toNat aw)).size<=sizeLine:=by
    have f0:∀(m:Nat) (acc:Array Value),(List.foldl (λ x1 x2=>x1++x2) acc (List.replicate m aw)).size=acc.size+m*aw.size:=by
     intro m
     induction m with
     |zero=>intro acc;simp
     |succ m ih=>intro acc;rw[j8,foldl_cons,ih,Array.size_append,Nat.succ_mul];omega
    rw[f0,Nat.mul_comm];simpa using hz
   wp_walk
   exact⟨_,rfl,h⟩
end L5
namespace L2
open PySem PySem.Spec PyProof.Rows L5
section
variable {X:Cx}
theorem C':eN X (binaryOp .Mult) (λ x y H Q=>∃l k xs,x=.ref l/\y=.int k/\fz X.K H l xs/\xs≠[]/\-(2^63)<=k/\k < 2^63/\xs.length*k.toNat<=sizeLine/\(k=1->Q (.ref l) H)/\(k≠1->∀p,H p=none->Q (.ref p) (upd H p (.tup (List.replicate k.toNat xs).flatten)))):=by
 intro pins s σ H x y v u Q I rx ry h;obtain⟨l,k,xs,rfl,rfl,hH,fk,h1,h2,hz,q1,q2⟩:=h;cases rx;obtain⟨t,rfl⟩:=ry;obtain⟨aw,r,⟨⟨c,dd,da,sl⟩,e,hc,n,hd⟩,_⟩:=I.tuple hH;have hl:=r.length;cases(show c=.type "tuple" from hc);cases(show da=.seq aw.toArray n from hd);refine wpAny_binaryOp_repeat_ref (T:="tuple") (U:="int") (by decide) ⟨_,e,rfl⟩ (λ s'=>typeIs_int s' k t) Bz F.fills_int_mul F.slot_int_rmul EZ F.slot_int_index.lookup
  (B3 F.slot_int_rmul (typeIs_int s k t) F.entry_int_rmul (F.args_int_rmul_2 _ _) (E2 k t l aw.toArray n dd sl) ⟨e,rfl,⟨_,e,rfl⟩,?_⟩)
 by_cases hk:k=1
 ·subst hk;exact B3 F.slot_tuple_mul ⟨_,e,rfl⟩ F.entry_tuple_mul (F.args_tuple_mul_2 _ _) (E1 l aw.toArray n dd sl t) ⟨e,.ref l,H,I,rfl,q1 rfl⟩
 ·refine B3 F.slot_tuple_mul ⟨_,e,rfl⟩ F.entry_tuple_mul (F.args_tuple_mul_2 _ _) (By l aw.toArray n dd sl k t hk h1 h2 ?_ (by rw[o7,<- hl];exact hz)) ⟨e,?_⟩
  ·cases aw with
   |nil=>cases r;exact absurd rfl fk
   |cons a b=>rfl
  ·have HM:List.foldl (λ x1 x2=>x1++x2) #[] (List.replicate k.toNat aw.toArray)=(List.replicate k.toNat aw).flatten.toArray:=by have:=foldl_rep aw k.toNat [];rw[nil_append]at this;exact this
   rw[HM];have fr:=I.fresh;refine⟨.ref s.heap.objs.size,_,I.laid (t':=s.toks) (o:=.tup (List.replicate k.toNat xs).flatten) (λ b o e=>i5 _ e) (A6 _) ⟨?_,_,r.rep k.toNat,⟨_,k4 _ rfl,rfl,_,rfl⟩⟩,rfl,q2 hk _ fr⟩;rw[len_rep,Nat.mul_comm];exact hz
end
end L2
namespace L3
open PySem PySem.Spec L2 L5 PyProof.Rows
mutual
def toP:D->PyData
 | .bf=>.none
 | .bl b=>.bool b
 | .int i=>.int i
 | .str x=>.str x
 | .ty _=>.none
 | .ref _=>.none
 | .tup ds=>.tuple (toPs ds)
 | .fl ds=>.list (toPs ds)
def toPs:List D->List PyData
 |[]=>[]
 |d::ds=>toP d::toPs ds
end
mutual
def nr:D->Bool
 | .bf=>true
 | .bl _=>true
 | .int _=>true
 | .str _=>true
 | .ty _=>false
 | .ref _=>false
 | .tup ds=>sL ds
 | .fl ds=>sL ds
def sL:List D->Bool
 |[]=>true
 |d::ds=>nr d&&sL ds
end
section
variable {X:Cx}{pins:List (Addr×Obj)}{σ:L2.St}{H:Hp}{s:Shared}
mutual
theorem L7(I:Inv X pins σ H s):∀(d:D) {x:V} {u:Value},nr d=true->Dat X.K H d x->RelV x u->∃as,Reads s.heap u (toP d) as
 | .bf,x,u,_,h,r=>by cases(cU.mp h);cases r;unfold toP;exact⟨_,Reads.none⟩
 | .bl b,x,u,_,h,r=>by cases(aP.mp h);cases r;unfold toP;exact⟨_,Reads.bool b⟩
 | .int i,x,u,_,h,r=>by cases(ar.mp h);obtain⟨t,rfl⟩:=r;unfold toP;exact⟨_,Reads.int i t⟩
 | .str z,x,u,_,h,r=>by cases(aO.mp h);obtain⟨t,rfl⟩:=r;unfold toP;exact⟨_,Reads.str z t⟩
 | .ty _,x,u,n,h,r=>by unfold nr at n;cases n
 | .ref _,x,u,n,h,r=>by unfold nr at n;cases n
 | .tup ds,x,u,n,h,r=>by unfold nr at n;obtain⟨p,xs,rfl,hq,hd⟩:=aQ.mp h;cases(show u=Value.ref p from r);obtain⟨aw,rv,⟨o,ho,hc,m,HS⟩,_⟩:=I.tuple hq;obtain⟨as,ra⟩:=sx I ds n hd rv;unfold toP;exact⟨_,reads_tuple_at ho hc HS ra⟩
 | .fl ds,x,u,n,h,r=>by unfold nr at n;obtain⟨p,xs,rfl,hq,hd⟩:=gT.mp h;cases(show u=Value.ref p from r);obtain⟨aw,rv,pl,_⟩:=I.list hq.sq;obtain⟨o,ho,hc,m,HS⟩:=pl.isList;obtain⟨as,ra⟩:=sx I ds n hd rv;unfold toP;exact⟨_,reads_list_at ho hc HS ra⟩
theorem sx(I:Inv X pins σ H s):∀(ds:List D) {xs:List V} {us:List Value},sL ds=true->ax X.K H ds xs->Vals xs us->∃as,ReadsAll s.heap us (toPs ds) as
 |[],xs,us,_,h,r=>by cases(aj.mp h);cases r;unfold toPs;exact⟨_,ReadsAll.nil⟩
 |d::ds,xs,us,n,h,r=>by
  unfold sL at n;rw[p7]at n;obtain⟨x,Ed,rfl,h1,h2⟩:=ag.mp h;cases r with
  |cons r1 r2=>obtain⟨as,a⟩:=L7 I d n.1 h1 r1;obtain⟨bs,b⟩:=sx I ds n.2 h2 r2;unfold toPs;exact⟨_,ReadsAll.cons a b⟩
end
end
def Jk(K:C0)(H:Hp)(x:V)(a:PyData):Prop:=(∃d,nr d=true/\Dat K H d x/\toP d=a)\/∃p ds xs,x=.ref p/\eA K H p xs/\ax K H ds xs/\sL ds=true/\a=.list (toPs ds)
def sA(M:Mem)(d:D):Option PyData:=match d with
 | .ref a=>match M a with
  |some (.lst ds)=>if sL ds=true then some (.list (toPs ds))else none
  |_=>none
 |d=>if nr d=true then some (toP d)else none
theorem kf{K:C0}{H:Hp}{M:Mem}{d:D}{x:V}{a:PyData}(e:sA M d=some a)(h:Dat K H d x)(hm:RelM K H M):Jk K H x a:=by
 cases d with
 |ref p=>
  cases(aA.mp h);unfold sA at e;cases q:M p with
  |none=>simp[q]at e
  |some o=>
   cases o with
   |cE b kvs=>simp[q]at e
   |g_ x=>simp[q]at e
   |lst ds=>
    simp only[q]at e;by_cases n:sL ds=true
    ·rw[B8 n]at e;cases e;obtain⟨xs,hx,hd⟩:=hm p _ q;exact .inr ⟨p,ds,xs,rfl,eA.of hx,hd,n,rfl⟩
    ·rw[B9 n]at e;cases e
 |bf=>exact .inl ⟨_,rfl,h,by simpa[sA,nr]using e⟩
 |bl _=>exact .inl ⟨_,rfl,h,by simpa[sA,nr]using e⟩
 |int _=>exact .inl ⟨_,rfl,h,by simpa[sA,nr]using e⟩
 |str _=>exact .inl ⟨_,rfl,h,by simpa[sA,nr]using e⟩
 |ty _=>simp[sA,nr]at e
 |tup ds=>
  by_cases n:sL ds=true
  ·exact .inl ⟨.tup ds,by unfold nr;exact n,h,by simpa[sA,nr,n]using e⟩
  ·simp[sA,nr,n]at e
 |fl ds=>
  by_cases n:sL ds=true
  ·exact .inl ⟨.fl ds,by unfold nr;exact n,h,by simpa[sA,nr,n]using e⟩
  ·simp[sA,nr,n]at e
section
variable {X:Cx}
theorem gm{pins:List (Addr×Obj)}{σ:L2.St}{H:Hp}{s:Shared}(I:Inv X pins σ H s){x:V}{u:Value}{a:PyData}(h:Jk X.K H x a)(r:RelV x u):∃as,Reads s.heap u a as:=by
 rcases h with⟨d,n,hd,rfl⟩|⟨p,ds,xs,rfl,hq,hd,n,rfl⟩
 ·exact L7 I d n hd r
 ·cases(show u=Value.ref p from r);obtain⟨aw,rv,pl,_⟩:=I.list hq;obtain⟨o,ho,hc,m,HS⟩:=pl.isList;obtain⟨as,ra⟩:=sx I ds n hd rv;exact⟨_,reads_list_at ho hc HS ra⟩
def ON(neg:Bool):fb:=λ x y M Q=>∃a b,sA M x=some a/\sA M y=some b/\SeqAt.shaped a=true/\SeqAt.shaped b=true/\Q (.bl (if neg then !PyData.eqv a b else PyData.eqv a b)) M
theorem G3(hu:X.A.units+64 < cLine):eN X (compareOp .Eq) (λ x y H Q=>∃a b,Jk X.K H x a/\Jk X.K H y b/\SeqAt.shaped a=true/\SeqAt.shaped b=true/\Q (.bl (PyData.eqv a b)) H):=by intro pins s σ H x y v u Q I rx ry h;obtain⟨a,b,ha,hb,sa,sb,q⟩:=h;obtain⟨as,ra⟩:=gm I ha rx;obtain⟨bs,rb⟩:=gm I hb ry;exact eq_dataH ra rb sa sb hu ⟨.bl (PyData.eqv a b),H,I,rfl,q⟩
theorem GY(hu:X.A.units+64 < cLine):eN X (compareOp .NotEq) (λ x y H Q=>∃a b,Jk X.K H x a/\Jk X.K H y b/\SeqAt.shaped a=true/\SeqAt.shaped b=true/\Q (.bl (!PyData.eqv a b)) H):=by intro pins s σ H x y v u Q I rx ry h;obtain⟨a,b,ha,hb,sa,sb,q⟩:=h;obtain⟨as,ra⟩:=gm I ha rx;obtain⟨bs,rb⟩:=gm I hb ry;exact ne_dataH ra rb sa sb hu ⟨.bl (!PyData.eqv a b),H,I,rfl,q⟩
theorem eW.or {f:Value->Value->Sem Value}{r r':fb}(h:eW X f r)(h':eW X f r'):eW X f (λ x y M Q=>r x y M Q\/r' x y M Q):=by
 obtain⟨a,h1,h2⟩:=h;obtain⟨b,g1,g2⟩:=h';refine⟨_,h1.or g1,λ x y d e H M Q2 Q hd he hm q k=>?_⟩;rcases q with q|q
 ·exact .inl (h2 x y d e H M Q2 Q hd he hm q k)
 ·exact .inr (g2 x y d e H M Q2 Q hd he hm q k)
def tH(neg:Bool):fb:=λ x y M Q=>Iq neg x y M Q\/ON neg x y M Q
theorem cM(hu:X.A.units+64 < cLine):eW X (compareOp .Eq) (tH false):=Nv.or ⟨_,G3 hu,λ x y d e H M Q2 Q hd he hm q k=>by
 obtain⟨a,b,ha,hb,sa,sb,q⟩:=q;exact⟨a,b,kf ha hd hm,kf hb he hm,sa,sb,k _ H _ M (aP.mpr rfl) hm (ak.refl H) q⟩⟩
theorem zr(hu:X.A.units+64 < cLine):eW X (compareOp .NotEq) (tH true):=Nr.or ⟨_,GY hu,λ x y d e H M Q2 Q hd he hm q k=>by
 obtain⟨a,b,ha,hb,sa,sb,q⟩:=q;exact⟨a,b,kf ha hd hm,kf hb he hm,sa,sb,k _ H _ M (aP.mpr rfl) hm (ak.refl H) q⟩⟩
def kx:D->List D->Mem->bD->Prop:=λ x vs M Q=>∃p ds y,x=.ref p/\vs=[y]/\M p=some (.lst ds)/\ds.length < sizeLine/\Q .bf (ah M p (.lst (ds++[y])))
theorem bO:Ea X "list.append" kx:=⟨uB,wI,λ x xs d ds H M Q2 Q hx hd hm q k=>by
 obtain⟨p,es,y,rfl,rfl,hM,hz,q⟩:=q;cases(aA.mp hx);obtain⟨v,r,rfl,hv,hr⟩:=ag.mp hd;cases(aj.mp hr);obtain⟨zs,h1,h2⟩:=hm p _ hM;have t:=ak.lst (o:=.lst (zs++[v])) h1;refine⟨p,zs,v,rfl,rfl,h1,by rw[h2.length];exact hz,k _ _ .bf _ (cU.mpr rfl) (hm.put (u:=.lst (es++[y])) t ⟨_,aG,?_⟩) t q⟩;exact(ax.mono t es h2).append (ax.one (Dat.mono t y hv))⟩
theorem lZ{K:C0}{H:Hp}:∀{ns:List Int} {xs:List V},ax K H (ns.map D.int) xs->xs=ns.map V.int
 |[],xs,h=>by rw[map_nil,aj]at h;exact h
 |b::bs,xs,h=>by rw[y7,ag]at h;obtain⟨x,r,rfl,a,q⟩:=h;rw[ar]at a;rw[a,lZ q];rfl
def Li:fb:=λ x y M Q=>∃ds k,x=.tup ds/\y=.int k/\ds≠[]/\-(2^63)<=k/\k < 2^63/\ds.length*k.toNat<=sizeLine/\Q (.tup (List.replicate k.toNat ds).flatten) M
theorem lY{K:C0}{H:Hp}{ds:List D}{xs:List V}(h:ax K H ds xs):∀k:Nat,ax K H (List.replicate k ds).flatten (List.replicate k xs).flatten
 |0=>by simp[aj]
 |k+1=>by rw[j8,j8,n6,n6];exact h.append (lY h k)
def vk:fb:=λ x y M Q=>Il x y M Q\/Li x y M Q
theorem Ha:eW X (binaryOp .Mult) vk:=Kq.or ⟨_,C',λ x y d e H M Q2 Q hd he hm q k=>by
 obtain⟨ds,n,rfl,rfl,fk,h1,h2,hz,q⟩:=q;obtain⟨p,xs,rfl,hq,hx⟩:=aQ.mp hd;cases(ar.mp he);refine⟨p,n,xs,rfl,rfl,hq,λ z=>?_,h1,h2,by rw[hx.length];exact hz,λ e1=>?_,λ _ l hl=>?_⟩
 ·have:=hx.length;rw[z]at this;exact fk (i4.mp this.symm)
 ·subst e1;rw[show(1:Int).toNat=1 from rfl,show(List.replicate 1 ds).flatten=ds by simp]at q;exact k _ H _ M (aQ.mpr ⟨p,xs,rfl,hq,hx⟩) hm (ak.refl H) q
 ·exact k _ _ (.tup _) M (gg hl (lY hx _)) (hm.laid hl) (ak.laid hl) q⟩
end
end L3
namespace L3
open PySem PySem.Spec L2 L5
section
variable {M:Mem}{Q:bD}
theorem Cg{i j:Int}(q:Q (.bl (decide (i=j))) M):tH false (.int i) (.int j) M Q:=.inl (FL q)
theorem Ci{i j:Bool}(q:Q (.bl (decide (i=j))) M):tH false (.bl i) (.bl j) M Q:=.inl (FN q)
theorem Cf{i j:Str}(q:Q (.bl (decide (i=j))) M):tH false (.str i) (.str j) M Q:=.inl (FK q)
theorem BX{i j:Bool}(q:Q (.bl (!decide (i=j))) M):tH true (.bl i) (.bl j) M Q:=.inl (FE q)
theorem yw{i j:Int}(h:pP i j)(q:Q (.int (i*j)) M):vk (.int i) (.int j) M Q:=.inl (BZ h q)
theorem yu{d:D}{k:Int}(h0:0<=k)(h1:k<=10000)(q:Q (.tup (List.replicate k.toNat d)) M):vk (.tup [d]) (.int k) M Q:=.inr ⟨[d],k,rfl,rfl,by simp,Int.le_trans (by decide) h0,m6 h1 (by decide),A2 (show 1*k.toNat<=10000 by omega) (by decide),by
 rw[show(List.replicate k.toNat [d]).flatten=List.replicate k.toNat d by simp];exact q⟩
theorem fL{p:Addr}{ds:List D}{y:D}(h:M p=some (.lst ds))(hz:ds.length < sizeLine)(q:Q .bf (ah M p (.lst (ds++[y])))):kx (.ref p) [y] M Q:=⟨p,ds,y,rfl,rfl,h,hz,q⟩
abbrev row(ns:List Int):D:=.tup (ns.map D.int)
theorem BQ{i j:Nat}{a b:D}{δ:cI}{N:cI->Mem->Prop}(h:N ((δ.set i (some a)).set j (some b)) M):mH 2 (cC (hName i) (cC (hName j) mI)) (.tup [a,b]) δ M N:=⟨rfl,h⟩
theorem yA{A B:Prop}(h:B):if(!true)=true then A else B:=by rw[Bool.not_true,B9 k8];exact h
theorem dU{c:eC}{tb:iL}{E:gL}{δ:cI}(h:∃W:Nat->cI->Mem->Prop,(∃m,W m δ M)/\∀m δ M,W m δ M->c δ M λ b M1=>
  if b=true then ∃N:cI->Mem->Prop,(∀δ' M',N δ' M'->∃m',m' < m/\W m' δ' M')/\tb {E with nx:=N,ct:=N,bk:=E.nx} δ M1 else E.nx δ M1):sj c tb E δ M:=h
theorem EM{g:gB}{tt:eC}{te:bT}{δc:cI}{M1:Mem}{Qe:List D->Mem->Prop}{a:Addr}{ds:List D}(Pv:Nat->List D->Mem->Prop)(h0:Pv 0 [] M1)(hl:∀i acc M,i<=ds.length->Pv i acc M->M a=some (.lst ds))(hz:∀i acc M,i<=ds.length->Pv i acc M->acc.length<=sizeLine) (hs:∀i d acc M,ds[i]?=some d->Pv i acc M->g d δc M λ δ2 M2=>tt δ2 M2 λ b M3=>if b=true then te δ2 M3 λ y M4=>Pv (i+1) (acc++[y]) M4 else Pv (i+1) acc M3) (hd:∀acc M,Pv ds.length acc M->Qe acc M):∃(B:Nat) (W:Nat->List D->Mem->Prop),W 0 [] M1/\∀i acc M,W i acc M->i<=B/\acc.length<=sizeLine/\match items (.at a) M with
   |none=>False
   |some ds=>match ds[i]? with
    |none=>i=ds.length/\Qe acc M
    |some d=>g d δc M λ δ2 M2=>tt δ2 M2 λ b M3=>if b=true then te δ2 M3 λ y M4=>W (i+1) (acc++[y]) M4 else W (i+1) acc M3:=by
 refine⟨ds.length,λ i acc M=>if i<=ds.length then Pv i acc M else False,by dsimp only;rw[B8 (A8 _)];exact h0,?_⟩;intro i acc M w;by_cases hi:i<=ds.length
 ·rw[B8 hi]at w;refine⟨hi,hz i acc M hi w,?_⟩;have e0:items (.at a) M=some ds:=by show(match M a with|some (.lst ds)=>some ds|_=>none)=some ds;rw[hl i acc M hi w]
  rw[e0];show(match ds[i]? with
    |none=>i=ds.length/\Qe acc M
    |some d=>g d δc M λ δ2 M2=>tt δ2 M2 λ b M3=>if b=true then te δ2 M3 λ y M4=>(if i+1<=ds.length then Pv (i+1) (acc++[y]) M4 else False)else(if i+1<=ds.length then Pv (i+1) acc M3 else False))
  cases e:ds[i]? with
  |none=>have:i=ds.length:=x4 hi (c7.mp e);subst this;exact⟨rfl,hd acc M w⟩
  |some d=>have eQ:i+1<=ds.length:=(c6.mp e).1;simp only[B8 eQ];exact hs i d acc M e w
 ·rw[B9 hi]at w;exact w.elim
end
end L3
namespace L5
open PySem
open AutoSeq1 (wpAny_loadPart')
abbrev Mq(T:String)(h:Heap)(l:Addr):Heap:=h.push {cls:=.type T,data:=.fields #[.ref l,.int 0 0]}
abbrev OJ(T:String)(h:Heap)(l:Addr):Heap:=(Mq T h l).push {cls:=.type "enumerate",data:=.fields #[.none,.bool false,.ref h.objs.size,rawInt 0,.none,.none]}
set_option tactic.hygienic true in
theorem s_{T:String}{S:Heap->Addr->Array Value->Prop}(k:NK T S)(l:Addr)(vs:Array Value):Meets (Builtin.«enumerate.__new__» ⟨[.type "enumerate",.ref l],[]⟩) (λ _ R s=>S s.heap l vs/\R (.ok (.ret (.ref (Mq T s.heap l).objs.size))) {s with heap:=OJ T s.heap l}):=
 .of_wp λ prog w A R s h=>by
  obtain⟨hp,g,d,tk,os⟩:=s;obtain⟨a1,h⟩:=h;have se:=sub_enumerate;have aT:S (Shared.heap ⟨hp,g,d,tk,os⟩) l vs:=a1
  wp_walk using k.start aT
  refine wpAny_stack_any λ st=>B1 ?_;split
  ·rename_i c _ _ _ _ _;cases(c==Value.type "enumerate")
   all_goals
    wp_walk using k.start aT
    exact⟨_,rfl,h⟩
  ·wp_walk using k.start aT
   exact⟨_,rfl,h⟩
theorem Ds{prog:Program}{w:World}{A:Around}{E:Value->Shared->Prop}{s:Shared}{T:String}{S:Heap->Addr->Array Value->Prop}(kk:NK T S){l:Addr}{vs:Array Value}{Q:Value->Shared->Prop}(a1:S s.heap l vs) (k:∀h',IsEnum h' (s.heap.objs.size+1) s.heap.objs.size 0 .none->jS T h' s.heap.objs.size l 0->(∀f o,s.heap.get? f=some o->h'.get? f=some o)->Q (.ref (s.heap.objs.size+1)) {s with heap:=h'}):wpAny (model prog w) A (call (.type "enumerate") [.ref l]) Q E s:=by refine callType_new F.called_enumerate (by decide) (F.typeCall_enumerate_1 _) (F.newCall_enumerate_1 _) (λ ob=>F.args_object_init_2 ob _) F.entry_enumerate_new (s_ kk l vs) ⟨a1,?_⟩;have e1:(Mq T s.heap l).objs.size=s.heap.objs.size+1:=y0 ..;have g2:(OJ T s.heap l).get? (Mq T s.heap l).objs.size=some _:=k4 _ rfl;have g1:(OJ T s.heap l).get? s.heap.objs.size=some _:=i5 _ (k4 s.heap rfl);rw[e1]at g2;show _/\_;rw[e1];exact⟨⟨_,g2,rfl⟩,k _ g2 ⟨_,g1,rfl,rfl⟩ λ f o x=>i5 _ (i5 _ x)⟩
theorem zx{T:String}{S:Heap->Addr->Array Value->Prop}(k:NK T S){prog:Program}{w:World}{A:Around}(hA:A.handled=none)(j l:Addr)(ne:l≠j)(vs:Array Value):Draws prog w A j [j,l] vs.size (λ i v=>vs[i]?=some v) (λ i h=>jS T h j l i/\S h l vs) where
 live:=λ _ _ st=>let⟨⟨o,ho,_⟩,_⟩:=st;⟨o,ho⟩
 frame:=λ _ _ _ st q=>let⟨⟨o,ho,r⟩,su⟩:=st;⟨⟨o,q j (by simp) o ho,r⟩,k.keep su λ o e=>q l (by simp) o e⟩
 item:=λ i s Q E hi st kk=>k.item st.1 st.2 (c5 hi) λ h' a b=>kk _ h' s.toks (c5 hi) ⟨a,k.keep st.2 λ o e=>b.extBut _ _ ne e⟩ b
 done:=λ s Q E st kk=>k.stop hA st.1 st.2 (Array.getElem?_eq_none (A6 _)) kk
end L5
namespace L2
open PySem PySem.Spec PyProof.Rows L5
def My(K:C0)(b:Bool)(l:Addr):It:=
 ⟨λ i H=>∃xs x,Sq b K H l xs/\xs[i]?=some x,
  λ i H v H'=>∃(p:Addr) (x:V),H p=none/\v=.ref p/\H'=upd H p (.tup [.int i,x])/\∀xs,Sq b K H l xs->xs[i]?=some x,
  λ i H=>∃xs,Sq b K H l xs/\xs.length<=i⟩
def Qt(b:Bool)(e j l:Addr)(i:Nat)(h:Heap):Prop:=(∃old,IsEnum h e j i old)/\jS (LO b) h j l i
theorem vU{P:Program}{w:World}{K:C0}{es:List Expr}{k0}{pos:Pos}{e j:Addr}(b:Bool)(B:e≠j)(l:Addr):Turn P w K (.Tuple es k0 pos) (My K b l) [e,j] e (Qt b e j l) where
 mem:=by simp
 obj:=λ i h st c hc=>by
  obtain⟨⟨old,he⟩,⟨oa,ha,_,da⟩⟩:=st;rcases y8.mp hc with rfl|hc
  ·exact⟨_,he,λ v z=>by cases z⟩
  rcases y8.mp hc with rfl|hc
  ·exact⟨_,ha,λ v z=>by rw[da]at z;cases z⟩
  ·cases hc
 keep:=λ i h h' st q=>by obtain⟨⟨old,he⟩,⟨oa,ha,r⟩⟩:=st;exact⟨⟨old,q e (by simp) _ he⟩,⟨oa,q j (by simp) _ ha,r⟩⟩
 item:=by
  intro X hP hw hK hc i pins s σ H E I hf st hg;subst hP hw hK;obtain⟨xs,x,hl,hx⟩:=hg;obtain⟨⟨old,he⟩,hj⟩:=st;obtain⟨IU,r1,p1⟩:=iU I hl;obtain⟨u1,e1,q1⟩:=r1.get hx;have lj:l≠j:=xV I (hf j (by simp)) hl;have le:l≠e:=xV I (hf e (by simp)) hl;have hi:i < IU.toArray.size:=by have:=(c6.mp e1).1;simpa using this
  refine wpAny_pyNext_enum_itemD (zx (fS b) (A:=X.A.in1) (I.ok.hd hc) j l lj IU.toArray) he ⟨hj,p1⟩ hi B (by simp;exact⟨B,B7 le⟩) λ y g tk g1 g2 g3 g4 g5 g6=>?_;have ey:y=u1:=by rw[getElem?_toArray,e1]at g1;cases g1;rfl
  subst ey;have hn:H s.heap.objs.size=none:=I.aZ.fresh (A6 _);have I1:Inv X pins σ H {s with heap:=g,toks:=tk+1}:=xO (t':=tk+1) I (ch:=[e,j]) (λ c o hc e=>g6 c o (λ z=>hc (by simp[z])) (λ z=>hc (by simp[z])) e) hf;refine⟨_,rfl,wpAny_letOwnedTupleGo_enum (s:={s with heap:=g,toks:=tk+1}) g2 λ g' e' sb=>?_⟩;have I2:Inv X pins σ H {s with heap:=g',toks:=tk+1}:=xO (s:={s with heap:=g,toks:=tk+1}) (t':=tk+1) (ch:=[e]) I1 (λ c o hc q=>sb.extBut _ _ (λ z=>hc (by simp[z])) q) (λ c hc=>hf c (by simp at hc ⊢;exact .inl hc));have fo:=I.jk (H':=H) (A6 s.heap.objs.size) hn;have Pe:e < s.heap.objs.size:=A0 he;have Q4:j < s.heap.objs.size:=let⟨_,q,_⟩:=hj;A0 q
  have t5:=sb.extBut _ _ (A4 Pe) g4;have I3:Inv X pins σ (upd H s.heap.objs.size (.tup [.int i,x])) {s with heap:=g',toks:=tk+1}:=Inv.mW I2 hn ⟨show 2<=sizeLine by decide,[.int i tk,y],.cons ⟨tk,rfl⟩ (.cons q1 .nil),⟨_,t5,rfl,_,rfl⟩⟩ fo.2.1 (A2 I.sz (A6 _)) fo.2.2.2.2.1 fo.2.2.2.2.2;refine⟨.ref s.heap.objs.size,_,I3,rfl,⟨s.heap.objs.size,x,hn,rfl,rfl,λ Ed h'=>by rw[Fb I h' hl];exact hx⟩,⟨⟨_,by simpa using e'⟩,?_⟩,λ c hc=>?_⟩
  ·obtain⟨o,ho,r⟩:=g3.1;exact⟨o,sb.extBut _ _ (B7 B) ho,r⟩
  ·have eQ:c < s.heap.objs.size:=by
    simp at hc;rcases hc with rfl|rfl
    ·exact Pe
    ·exact Q4
   rw[aF (z9 eQ)];exact(hf c hc).1
 done:=by intro X hP hw hK hc i pins s σ H E I hf st hg;subst hP hw hK;obtain⟨xs,hl,hx⟩:=hg;obtain⟨⟨old,he⟩,hj⟩:=st;obtain⟨IU,r1,p1⟩:=iU I hl;have l1:=r1.length;have lj:l≠j:=xV I (hf j (by simp)) hl;have hT:s.TypeIs (.ref e) "enumerate":=⟨_,he,rfl⟩;unfold pyNext;refine B0 (wpAny_attempt (i3 (name:=Str.ofString "__next__") hT F.slot_enumerate_next (p6 F.slot_enumerate_next hT F.entry_enumerate_next ?_ (F.args_enumerate_next_1 _))));refine B0 (m:=field (.ref e) 2) (A9 he rfl (x:=.ref j) rfl ?_);refine B0 ((fS b).stop (A:=X.A.in1) (I.ok.hd hc) hj p1 (Array.getElem?_eq_none (by simp;omega)) λ g c g1 g2=>?_);obtain⟨o,ho,HU⟩:=g2;refine B0 (wpAny_isInstance (T:="StopIteration") (b:=true) ⟨o,ho,HU⟩ isSubtype_stop (B1 ⟨rfl,?_⟩));exact xO (t':=s.toks) (ch:=[j]) I (λ b o hb q=>g1 b o (λ z=>hb (by simp[z])) q) λ b hb=>hf b (by simp at hb ⊢;exact .inr hb)
 self:=λ _ _ _ _ _ st h=>wpAny_pyIter_enum st.1.choose_spec h
section
variable {X:Cx}{es:List Expr}{k0:_}{xQ:Pos}{a:Expr}{ta:TA}{p pos:Pos}
def KG(K:C0)(ta:TA):TI:=λ σ H R=>ta σ H λ vs H1=>∃(b:Bool) (l:Addr),vs=[.ref l]/\(∃xs,Sq b K H1 l xs)/\R (My K b l) H1
theorem C5(hg:Gl X "enumerate")(hm:X.mg "enumerate"=none)(ha:PA X [a] ta)(hs:starEach [a] X.env=[(false,eval a X.env)]:=by rfl)(hs2:starEach [] X.env=[]:=by rfl):PI X (.Tuple es k0 xQ) (.Call (.Name "enumerate" p) [a] [] pos) (KG X.K ta):=by
 intro pins s σ H R I h;refine Call_ (fT I hg hm boot_enumerate (a7 (cG (ha pos pins s σ H _ I h) λ us s1 ⟨vs,H1,I1,r1,q1⟩=>?_) (by rw[hs,hs2]) (by rw[hs2];rfl)));obtain⟨b,l,e,⟨xs,hl⟩,q⟩:=q1;subst e;obtain⟨u1,rfl,r⟩:=vals1 r1;cases(show u1=Value.ref l from r);obtain⟨IU,r1,p1⟩:=iU I1 hl;refine Ds (fS b) p1 λ g g1 g2 g7=>wpAny_pyIter_enum (s:={s1 with heap:=g}) g1 ?_;have I2:Inv X pins σ H1 {s1 with heap:=g}:=I1.kept (t':=s1.toks) g7;have fr:∀c,s1.heap.objs.size<=c->iO X pins H1 c:=λ c hc=>I1.jk hc (I1.aZ.fresh hc);have ne:s1.heap.objs.size+1≠s1.heap.objs.size:=by omega
 refine⟨_,[s1.heap.objs.size+1,s1.heap.objs.size],_,_,H1,rfl,I2,vU b ne l,⟨⟨_,g1⟩,g2⟩,λ c hc=>fr c ?_,q⟩;simp at hc;rcases hc with rfl|rfl <;> omega
end
end L2
namespace L3
open PySem PySem.Spec L2 L5
def eK(ds:List D):List D:=(List.range ds.length).map λ(i:Nat)=>D.tup [.int (i:Int),ds.getD i D.bf]
theorem dg(ds:List D):(eK ds).length=ds.length:=by simp[eK]
def kindB:D->Bool
 | .tup _=>true
 |_=>false
theorem ow{K:C0}{H:Hp}{M:Mem}{d:D}{ds:List D}{x:V}(e:cq M d=some ds)(h:Dat K H d x)(hm:RelM K H M):∃p xs,x=.ref p/\Sq (kindB d) K H p xs/\ax K H ds xs:=by
 cases d with
 |tup es=>cases(show some es=some ds from e);obtain⟨p,xs,rfl,h1,h2⟩:=aQ.mp h;exact⟨p,xs,rfl,h1,h2⟩
 |fl es=>cases(show some es=some ds from e);obtain⟨p,xs,rfl,h1,h2⟩:=gT.mp h;exact⟨p,xs,rfl,h1.sq,h2⟩
 |ref a=>cases(aA.mp h);obtain⟨xs,h1,h2⟩:=dN (show aW M a=some ds from e) hm;exact⟨a,xs,rfl,eA.of h1,h2⟩
 |_=>cases e
def gJ(x:D)(M:Mem):Option (List D):=(cq M x).map eK
theorem wQ{K:C0}{H1:Hp}{a:Addr}{x:D}(hx:Dat K H1 x (.ref a)):pM K H1 (My K (kindB x) a) (.fn (gJ x)):=λ H M fs t hm e=>by
 have e:(cq M x).map eK=some fs:=e;cases e1:cq M x with
 |none=>rw[e1]at e;cases e
 |some ds=>rw[e1]at e;cases e;obtain⟨p,xs,e3,q1,x1⟩:=ow e1 (Dat.mono t x hx) hm;cases e3;have l1:=x1.length;rw[dg];refine⟨λ i hi=>⟨xs,xs[i]'(by omega),q1,by simp⟩,λ i hi=>⟨xs,q1,by omega⟩,λ i v H' hi y=>?_⟩;obtain⟨p,v,hp,rfl,rfl,hx⟩:=y;obtain⟨d,d1,d2⟩:=x1.Aq (hx xs q1);refine⟨ak.laid hp,hm.laid hp,.tup [.int i,d],?_,gg hp (ag.mpr ⟨.int i,[v],rfl,ar.mpr rfl,ax.one d2⟩)⟩;obtain⟨z1,w1⟩:=c6.mp d1;simp[eK,z1,w1]
def zJ(ta:dP):nW:=λ δ M R=>ta δ M λ ds M1=>match ds with
 |[.tup xs]=>R (.fix (eK xs)) M1
 |[x]=>(∃zs,cq M1 x=some zs)/\R (.fn (gJ x)) M1
 |_=>False
section
variable {X:Cx}{es:List Expr}{k0:_}{xQ:Pos}{a:Expr}{ta:dP}{p pos:Pos}
theorem CF(hg:Gl X "enumerate")(hm:X.mg "enumerate"=none)(ha:QA X [a] ta)(hs:starEach [a] X.env=[(false,eval a X.env)]:=by rfl)(hs2:starEach [] X.env=[]:=by rfl):QI X (.Tuple es k0 xQ) (.Call (.Name "enumerate" p) [a] [] pos) (zJ ta):=uE (C5 hg hm ha hs hs2) λ σ H R ⟨δ,M,R2,hs,hm,q,k⟩=>by
 refine⟨δ,M,_,hs,hm,q,λ xs H1 ds M1 hd bP t1 q1=>?_⟩;have go:∀x,ds=[x]->(∃zs,cq M1 x=some zs)->(∀J,pM X.K H1 J (.fn (gJ x))->R J H1)->∃(b:Bool) (l:Addr),xs=[.ref l]/\(∃xs,Sq b X.K H1 l xs)/\R (My X.K b l) H1:=by rintro x rfl ⟨zs,hz⟩ hR;obtain⟨vx,r,rfl,hx,hr⟩:=ag.mp hd;cases(aj.mp hr);obtain⟨p,vs,rfl,q1,_⟩:=ow hz hx bP;exact⟨_,p,rfl,⟨vs,q1⟩,hR _ (wQ hx)⟩
 match ds,q1 with
 |[x],q1=>
  by_cases ht:∃xs,x=.tup xs
  ·obtain⟨xs,rfl⟩:=ht;exact go _ rfl ⟨_,rfl⟩ λ J hJ=>k J H1 (.fix (eK xs)) M1 (λ H M ds t hm e=>hJ H M ds t hm e) bP t1 q1
  ·have q2:(∃zs,cq M1 x=some zs)/\R2 (.fn (gJ x)) M1:=by cases x <;> first|exact q1|exact absurd ⟨_,rfl⟩ ht
   exact go x rfl q2.1 λ J hJ=>k J H1 _ M1 hJ bP t1 q2.2
 |[],q1=>exact q1.elim
 |x::y::r,q1=>cases x <;> exact q1.elim
end
end L3
namespace L4
open PySem PySem.Spec L2 L3 L5
section
variable {X:Cx}{es:List Expr}{k0:_}{xQ:Pos}{a:Expr}{ta:dP}{p pos:Pos}
theorem oh(hg:Gl X "enumerate")(hm:X.mg "enumerate"=none)(ha:WA X [a] ta)(hs:starEach [a] X.env=[(false,eval a X.env)]:=by rfl)(hs2:starEach [] X.env=[]:=by rfl):WI X (.Tuple es k0 xQ) (.Call (.Name "enumerate" p) [a] [] pos) (zJ ta):=⟨CF hg hm ha.h hs hs2⟩
end
end L4
namespace L2
open PySem PySem.Spec PyProof.Rows
section
variable {X:Cx}
theorem Df:eN X (binaryOp .Add) (λ x y H Q=>∃a b ys,x=.ref a/\y=.ref b/\fz X.K H a []/\fz X.K H b ys/\Q (.ref b) H):=by intro pins s σ H x y v u Q I rx ry h;obtain⟨a,b,ys,rfl,rfl,ha,hb,q⟩:=h;cases rx;cases ry;obtain⟨i1,r1,p1,_⟩:=I.tuple ha;obtain⟨i2,r2,p2,_⟩:=I.tuple hb;cases r1;obtain⟨⟨c1,d1,a1,l1⟩,o1,k1,n1,e1⟩:=id p1;obtain⟨⟨c2,d2,a2,l2⟩,o2,k2,n2,e2⟩:=id p2;cases(show c1=.type "tuple" from k1);cases(show a1=_ from e1);cases(show c2=.type "tuple" from k2);cases(show a2=_ from e2);exact concat_meets ⟨_,o1,rfl⟩ ⟨_,o2,rfl⟩ noFill_tuple_add seq_tuple_add PySem.F.slot_tuple_add PySem.F.entry_tuple_add (PySem.F.args_tuple_add_2 _ _) (tuple_addW0 a b #[] i2.toArray n1 n2 d1 d2 l1 l2 rfl) ⟨o1,o2,⟨.ref b,H,I,rfl,q⟩⟩
end
end L2
namespace L3
open PySem PySem.Spec L2
section
variable {X:Cx}
def vo:fb:=λ x y M Q=>DW x y M Q\/∃ys,x=.tup []/\y=.tup ys/\Q (.tup ys) M
theorem br:eW X (binaryOp .Add) vo:=by
 obtain⟨r,h1,h2⟩:=(Kt:eW X (binaryOp .Add) DW);refine⟨_,h1.or Df,λ x y d e H M Q2 Q hd he hm q k=>?_⟩;rcases q with q|⟨ys,rfl,rfl,q⟩
 ·exact .inl (h2 x y d e H M Q2 Q hd he hm q k)
 ·obtain⟨p,vs,rfl,hp,hx⟩:=aQ.mp hd;obtain⟨p2,ws,rfl,eB,hy⟩:=aQ.mp he;cases(aj.mp hx);exact .inr ⟨p,p2,ws,rfl,rfl,hp,eB,k _ H _ M (aQ.mpr ⟨p2,ws,rfl,eB,hy⟩) hm (ak.refl H) q⟩
def vm:D->List D->Mem->bD->Prop:=λ x vs M Q=>∃p q ds es,x=.ref p/\vs=[.ref q]/\M p=some (.lst ds)/\M q=some (.lst es)/\ds.length+es.length<=sizeLine/\Q .bf (ah M p (.lst (ds++es)))
theorem zC:Ea X "list.extend" vm:=⟨uA,wH,λ x xs d ds H M Q2 Q hx hd hm q k=>by
 obtain⟨p,p2,es,fs,rfl,rfl,hM,K7,hz,q⟩:=q;cases(aA.mp hx);obtain⟨v,r,rfl,hv,hr⟩:=ag.mp hd;cases(aj.mp hr);cases(aA.mp hv);obtain⟨zs,h1,h2⟩:=hm p _ hM;obtain⟨ys,g1,g2⟩:=hm p2 _ K7;have t:=ak.lst (o:=.lst (zs++ys)) h1;refine⟨p,p2,zs,ys,rfl,rfl,h1,g1,by rw[h2.length,g2.length];exact hz,k _ _ .bf _ (cU.mpr rfl) (hm.put (u:=.lst (es++fs)) t ⟨_,aG,?_⟩) t q⟩;exact(ax.mono t es h2).append (ax.mono t fs g2)⟩
end
section
variable {M:Mem}{Q:bD}
theorem FJ{p q:Addr}{ds es:List D}(h:M p=some (.lst ds))(g:M q=some (.lst es))(hz:ds.length+es.length<=sizeLine)(k:Q .bf (ah M p (.lst (ds++es)))):vm (.ref p) [.ref q] M Q:=⟨p,q,ds,es,rfl,rfl,h,g,hz,k⟩
theorem qx{i j:Int}(q:Q (.int (i+j)) M):vo (.int i) (.int j) M Q:=.inl q
theorem qw{a b:Addr}{xs ys:List D}(ha:M a=some (.lst xs))(hb:M b=some (.lst ys))(h:xs.length+ys.length<=sizeLine)(q:∀p,M p=none->Q (.ref p) (ah M p (.lst (xs++ys)))):vo (.ref a) (.ref b) M Q:=.inl (Cq ha hb h q)
theorem lG{xs ys:List D}(h:xs.length+ys.length<=sizeLine)(q:Q (.tup (xs++ys)) M):vo (.tup xs) (.tup ys) M Q:=by
 cases xs with
 |nil=>exact .inr ⟨ys,rfl,rfl,q⟩
 |cons x xs=>exact .inl ⟨by simp,h,q⟩
end
end L3
namespace L3
open PySem L2
section
variable {g:gB}{tt:eC}{te:bT}{δ δc:cI}{M1:Mem}{Qe:List D->Mem->Prop}
theorem MR{n:Nat}(h:n<=10000):n<=sizeLine:=A2 h (by decide)
theorem gW{α β:Type}{xs:List α}{enc:α->D}(td:β->D)(I:List β->Mem->Prop)(hn:xs.length<=10000)(h0:I [] M1) (hs:∀(i:Nat) (x:α) (ys:List β) (M:Mem) (N:D->Mem->Prop),xs[i]?=some x->ys.length=i->I ys M->(∀b M',I (ys++[b]) M'->N (td b) M')->g (enc x) δc M λ δ2 M2=>te δ2 M2 N) (hd:∀ys M,ys.length=xs.length->I ys M->Qe (ys.map td) M):∃(B:Nat) (W:Nat->List D->Mem->Prop),W 0 [] M1/\∀i acc M,W i acc M->i<=B/\acc.length<=sizeLine/\match items (.fix (xs.map enc)) M with
   |none=>False
   |some ds=>match ds[i]? with
    |none=>i=ds.length/\Qe acc M
    |some d=>g d δc M λ δ2 M2=>qo δ2 M2 λ b M3=>if b=true then te δ2 M3 λ y M4=>W (i+1) (acc++[y]) M4 else W (i+1) acc M3:=by
 refine md (λ i acc M=>∃ys:List β,acc=ys.map td/\ys.length=i/\I ys M) ⟨[],rfl,rfl,h0⟩ (λ i acc M hi h=>?_) (λ i d acc M hd h=>?_) (λ acc M h=>?_)
 ·obtain⟨ys,rfl,h1,_⟩:=h;rw[w6]at hi ⊢;exact MR (by omega)
 ·obtain⟨ys,rfl,h1,h2⟩:=h;rw[m8]at hd;cases e:xs[i]? with
  |none=>rw[e]at hd;cases hd
  |some x=>rw[e]at hd;cases hd;refine hs i x ys M _ e h1 h2 λ b M' hb=>⟨ys++[b],by rw[x3];rfl,by simp[h1],hb⟩
 ·obtain⟨ys,rfl,h1,h2⟩:=h;rw[w6]at h1;exact hd ys M h1 h2
theorem rp{α β:Type}{a:Addr}{xs:List α}(enc:α->D)(td:β->D)(I:List β->Mem->Prop)(hn:xs.length<=10000)(h0:I [] M1)(hl:∀ys M,I ys M->M a=some (.lst (xs.map enc))) (hs:∀(i:Nat) (x:α) (ys:List β) (M:Mem) (N:D->Mem->Prop),xs[i]?=some x->ys.length=i->I ys M->(∀b M',I (ys++[b]) M'->N (td b) M')->g (enc x) δc M λ δ2 M2=>te δ2 M2 N) (hd:∀ys M,ys.length=xs.length->I ys M->Qe (ys.map td) M):∃(B:Nat) (W:Nat->List D->Mem->Prop),W 0 [] M1/\∀i acc M,W i acc M->i<=B/\acc.length<=sizeLine/\match items (.at a) M with
   |none=>False
   |some ds=>match ds[i]? with
    |none=>i=ds.length/\Qe acc M
    |some d=>g d δc M λ δ2 M2=>qo δ2 M2 λ b M3=>if b=true then te δ2 M3 λ y M4=>W (i+1) (acc++[y]) M4 else W (i+1) acc M3:=by
 refine EM (ds:=xs.map enc) (λ i acc M=>∃ys:List β,acc=ys.map td/\ys.length=i/\I ys M) ⟨[],rfl,rfl,h0⟩ (λ i acc M hi h=>?_) (λ i acc M hi h=>?_) (λ i d acc M hd h=>?_) (λ acc M h=>?_)
 ·obtain⟨ys,rfl,h1,h2⟩:=h;exact hl ys M h2
 ·obtain⟨ys,rfl,h1,_⟩:=h;rw[w6]at hi ⊢;exact MR (by omega)
 ·obtain⟨ys,rfl,h1,h2⟩:=h;rw[m8]at hd;cases e:xs[i]? with
  |none=>rw[e]at hd;cases hd
  |some x=>rw[e]at hd;cases hd;refine hs i x ys M _ e h1 h2 λ b M' hb=>⟨ys++[b],by rw[x3];rfl,by simp[h1],hb⟩
 ·obtain⟨ys,rfl,h1,h2⟩:=h;rw[w6]at h1;exact hd ys M h1 h2
theorem take_one{α:Type}{l:List α}{i:Nat}{a:α}(h:l[i]?=some a):l.take (i+1)=l.take i++[a]:=by rw[take_add_one,h];rfl
theorem pk{α:Type}{xs:List α}{enc:α->D}(out:α->D)(hn:xs.length<=10000) (hs:∀(i:Nat) (x:α) (N:D->Mem->Prop),xs[i]?=some x->N (out x) M1->g (enc x) δc M1 λ δ2 M2=>te δ2 M2 N) (hd:Qe (xs.map out) M1):∃(B:Nat) (W:Nat->List D->Mem->Prop),W 0 [] M1/\∀i acc M,W i acc M->i<=B/\acc.length<=sizeLine/\match items (.fix (xs.map enc)) M with
   |none=>False
   |some ds=>match ds[i]? with
    |none=>i=ds.length/\Qe acc M
    |some d=>g d δc M λ δ2 M2=>qo δ2 M2 λ b M3=>if b=true then te δ2 M3 λ y M4=>W (i+1) (acc++[y]) M4 else W (i+1) acc M3:=by
 refine gW (β:=α) out (λ ys M=>M=M1/\ys=xs.take ys.length) hn ⟨rfl,rfl⟩ (λ i x ys M N hx hy h k=>?_) (λ ys M hy h=>?_)
 ·obtain⟨rfl,h⟩:=h;refine hs i x N hx (k x M ⟨rfl,?_⟩);rw[k9,j0,take_one (a:=x) (by rw[hy];exact hx),<- h]
 ·obtain⟨rfl,h⟩:=h;rw[hy,take_length]at h;rw[h];exact hd
theorem nQ{α:Type}{a:Addr}{xs:List α}(enc out:α->D)(hn:xs.length<=10000)(hl:M1 a=some (.lst (xs.map enc))) (hs:∀(i:Nat) (x:α) (N:D->Mem->Prop),xs[i]?=some x->N (out x) M1->g (enc x) δc M1 λ δ2 M2=>te δ2 M2 N) (hd:Qe (xs.map out) M1):∃(B:Nat) (W:Nat->List D->Mem->Prop),W 0 [] M1/\∀i acc M,W i acc M->i<=B/\acc.length<=sizeLine/\match items (.at a) M with
   |none=>False
   |some ds=>match ds[i]? with
    |none=>i=ds.length/\Qe acc M
    |some d=>g d δc M λ δ2 M2=>qo δ2 M2 λ b M3=>if b=true then te δ2 M3 λ y M4=>W (i+1) (acc++[y]) M4 else W (i+1) acc M3:=by
 refine rp (β:=α) enc out (λ ys M=>M=M1/\ys=xs.take ys.length) hn ⟨rfl,rfl⟩ (λ ys M h=>by rw[h.1];exact hl) (λ i x ys M N hx hy h k=>?_) (λ ys M hy h=>?_)
 ·obtain⟨rfl,h⟩:=h;refine hs i x N hx (k x M ⟨rfl,?_⟩);rw[k9,j0,take_one (a:=x) (by rw[hy];exact hx),<- h]
 ·obtain⟨rfl,h⟩:=h;rw[hy,take_length]at h;rw[h];exact hd
end
abbrev O8(i:Nat):D:=.int ((0:Int)+(i:Nat))
theorem Fu(i:Nat):O8 i=.int (i:Int):=by show D.int (0+(i:Int))=_;rw[y9]
theorem c_(n:Nat):cF 0 n=(List.range n).map O8:=rfl
def Iz(R:Src->Mem->Prop)(d:D)(M1:Mem):Prop:=match d with
 | .str z=>R (.fix (iW z)) M1
 | .tup ds=>R (.fix ds) M1
 | .fl ds=>R (.fix ds) M1
 | .ref a=>(match M1 a with
  |some (.lst _)=>R (.at a) M1
  |_=>False)
 |_=>False
theorem Cn{ta:bT}{δ:cI}{M:Mem}{R:Src->Mem->Prop}(h:ta δ M (Iz R)):Hx ta δ M R:=h
theorem Co{ds:List D}{M:Mem}{R:Src->Mem->Prop}(h:R (.fix ds) M):Iz R (.tup ds) M:=h
theorem ig{a:Addr}{ds:List D}{M:Mem}{R:Src->Mem->Prop}(hM:M a=some (.lst ds))(h:R (.at a) M):Iz R (.ref a) M:=by show(match M a with|some (.lst _)=>R (.at a) M|_=>False);rw[hM];exact h
end L3
namespace KK
open PySem L3 L4 L5
open L2 hiding aV ib
def EE(c:Addr)(p b sd ct:Int):List D:=[.ref c,.int p,.int b,.int sd,.int ct]
structure Flow(M:Mem)(f c:Addr):Prop where
 ex:∃(ns:List Int) (p b sd ct:Int),M f=some (.lst (EE c p b sd ct))/\M c=some (.lst (ns.map D.int))/\c≠f/\0<=p/\0<=b/\0<=sd/\sd < 2147483647
def iV:gK:=λ ds M Q=>∃(f c:Addr) (n:Int),ds=[.ref f,.int n]/\Flow M f c/\0 < n/\n < 1073741824/\∀(d:Int) (o:MO),0<=d->d < n->Flow (ah M f o) f c->Q (.int d) (ah M f o)
structure Fl(f c:Addr)(M M':Mem):Prop where
 bC:Flow M' f c
 mv:∀b o,b≠f->M b=some o->M' b=some o
theorem Fl.trans {f c:Addr}{M M1 M2:Mem}(a:Fl f c M M1)(b:Fl f c M1 M2):Fl f c M M2:=⟨b.bC,λ c o h e=>b.mv c o h (a.mv c o h e)⟩
theorem Fl.pick {f c:Addr}{M:Mem}{o:MO}(h:Flow (ah M f o) f c):Fl f c M (ah M f o):=⟨h,λ b o' hb e=>by rw[av hb];exact e⟩
theorem Flow.there {M:Mem}{f c:Addr}(h:Flow M f c):∃o,M f=some o:=by obtain⟨ns,p,b,sd,ct,h,_⟩:=h;exact⟨_,h⟩
theorem Flow.E4 {M:Mem}{f c:Addr}(h:Flow M f c):∃o,M c=some o:=by obtain⟨ns,p,b,sd,ct,_,h,_⟩:=h;exact⟨_,h⟩
theorem Flow.put {M:Mem}{f c q:Addr}{o:MO}(h:Flow M f c)(n:M q=none):Flow (ah M q o) f c:=by obtain⟨ns,p,b,sd,ct,h1,h2,h3⟩:=h;exact⟨ns,p,b,sd,ct,by rw[av (λ z=>by rw[z,n]at h1;cases h1)];exact h1,by rw[av (λ z=>by rw[z,n]at h2;cases h2)];exact h2,h3⟩
theorem Fl.put {M:Mem}{f c q:Addr}{o:MO}(h:Flow M f c)(n:M q=none):Fl f c M (ah M q o):=⟨h.put n,λ b o' hb e=>by rw[av (λ z=>by rw[z,n]at e;cases e)];exact e⟩
theorem Flow.ne {M:Mem}{f c q:Addr}(h:Flow M f c)(n:M q=none):q≠f/\q≠c:=by
 constructor
 ·intro z;subst z;obtain⟨o,e⟩:=h.there;rw[n]at e;cases e
 ·intro z;subst z;obtain⟨o,e⟩:=h.E4;rw[n]at e;cases e
theorem Fl.own {M M':Mem}{f c q:Addr}{o:MO}(h:Fl f c M M')(h0:Flow M f c)(n:M q=none):Fl f c M (ah M' q o):=by obtain⟨n1,n2⟩:=h0.ne n;obtain⟨ns,p,b,sd,ct,h1,h2,h3⟩:=h.bC;refine⟨⟨ns,p,b,sd,ct,by rw[av (B7 n1)];exact h1,by rw[av (B7 n2)];exact h2,h3⟩,λ b o' hb e=>?_⟩;rw[av (λ z=>by rw[z,n]at e;cases e)];exact h.mv b o' hb e
theorem small{n:Nat}(h:n<=10000):n<=sizeLine:=A2 h (by decide)
theorem cL{lo:Int}{n i:Nat}{d:D}(h:(cF lo n)[i]?=some d):i < n/\d=.int (lo+(i:Nat)):=by
 have hi:i < n:=by have:=(c6.mp h).1;rwa [bA]at this
 rw[lH hi]at h;exact⟨hi,(u6 h).symm⟩
theorem AU{ns:List Int}{i:Nat}(h:i < ns.length):gE (ns.map D.int) (i:Int)=some (.int (ns.getD i 0)):=by refine bY ?_;simp[c3,h]
theorem bU{p:Addr}{ds:List D}{M:Mem}{Q:bD}(h:M p=some (.lst ds))(q:Q (.tup ds) M):tE [.ref p] M Q:=by show(match aW M p with|some ds=>Q (.tup ds) M|none=>False);unfold aW;rw[h];exact q
theorem NA{M M':Mem}(h:∀b o,M b=some o->M' b=some o){q:Addr}(n:M' q=none)(x:MO):∀b o,M b=some o->ah M' q x b=some o:=λ b o e=>by rw[av (λ z=>by rw[<- z,h b o e]at n;cases n)];exact h b o e
theorem HC{n:Nat}{d:Int}(h0:0<=d)(h1:d < n):sQ n d=some d.toNat:=by unfold sQ;rw[B8 h0,B8 h1]
theorem bg{T:String}{d:D}{M:Mem}{Q:bD}{n:String}{b:Bool}(e:kY M d=some n)(hb:oO n T=b)(q:Q (.bl b) M):EI T [d,.ty T] M Q:=⟨rfl,by rw[e];subst hb;exact q⟩
theorem gj{d:D}{M:Mem}{Q:bD}(h:kY M d≠some "NoneType")(q:Q (.bl false) M):Io false d .bf M Q:=by
 cases d with
 |bf=>exact absurd rfl h
 |_=>exact q
theorem kH{ds:List D}{i:Nat}(h:i < ds.length):gE ds (0+(i:Int))=some ds[i]:=by rw[y9];refine bY ?_;simp[h]
theorem pJ:∀n:Nat,((List.replicate n true).all id)=true
 |0=>rfl
 |n+1=>by rw[j8,all_cons,pJ n];rfl
theorem o_{ds:List D}{i:Nat}{d:D}(h:(eK ds)[i]?=some d):i < ds.length/\d=.tup [.int (i:Int),ds.getD i D.bf]:=by
 have hi:i < ds.length:=by have:=(c6.mp h).1;rwa [dg]at this
 refine⟨hi,?_⟩;unfold eK at h;rw[m8,getElem?_range hi]at h;exact(u6 h).symm
def Ext(M M':Mem):Prop:=∀b o,M b=some o->M' b=some o
theorem Ext.own {M M':Mem}(h:Ext M M'){q:Addr}{x:MO}(n:M q=none):Ext M (ah M' q x):=λ b o e=>by rw[av (λ z=>by rw[z,n]at e;cases e)];exact h b o e
end KK
namespace HT
open PySem PySem.Spec PyProof.Rows
section
variable {prog:Program}{w:World}{A:Around}{E:Value->Shared->Prop}{s:Shared}
theorem gD{t sl:Addr}{items:Array Value}{vl vu:Value}{lo hi:Option Int}{Q:Value->Shared->Prop}(ht:IsTup s.heap t items)(hs:s.heap.IsSliceOf sl vl vu .none)(pl:IsPart vl lo)(pu:IsPart vu hi) (hw:bZ items.size 0 lo=0/\bZ items.size items.size hi=items.size) (h:Q (.ref t) s):wpAny (model prog w) A (getItem (.ref t) (.ref sl)) Q E s:=by
 obtain⟨os,HL,Aj,Ag⟩:=id hs;have Oo:s.TypeIs (.ref sl) "slice":=⟨os,HL,Aj⟩;unfold getItem
 try with_reducible refine y3 ?_
 first|refine B0 (B1 ?_)|skip
 refine B0 (wpAny_sequenceKey ht.typeIs (by decide) ?_);refine B0 (i3 (name:=Str.ofString "__getitem__") ht.typeIs a0
  (p6 a0 ht.typeIs entry_tuple_getitem ?_ (args_tuple_getitem _ _)))
 show wpAny _ _ (Builtin.Tuple.tupleItemsOf (.ref t) >>= _) _ _ s;refine B0 (tupleItemsOf_ ht ?_);refine B0 (wpAny_typeOf Oo ?_);rw[B8 (by decide)];refine B0 (eI hs pl pu ?_);have NO:(((bZ items.size 0 lo:Nat):Int)==0&&(1:Int)==1&&(bZ items.size items.size hi - bZ items.size 0 lo)==items.size)=true:=by rw[hw.1,hw.2];simp
 show wpAny _ _ (if(((bZ items.size 0 lo:Nat):Int)==0&&(1:Int)==1&&(bZ items.size items.size hi - bZ items.size 0 lo)==items.size)=true then _ else _) _ _ s;rw[B8 NO];unfold Builtin.Tuple.tupleIsExact;refine B0 (B0 (wpAny_typeOf ht.typeIs (B1 ?_)));rw[B8 (by decide)];exact B0 (B2 (B1 ⟨_,rfl,B1 h⟩))
end
end HT
namespace L2
open PySem PySem.Spec PyProof.Rows
section
variable {X:Cx}
theorem BK:vG X (λ x lo hi H Q=>∃a xs,x=.ref a/\fz X.K H a xs/\(HT.bZ xs.length 0 lo=0/\HT.bZ xs.length xs.length hi=xs.length)/\Q (.ref a) H):=by
 intro pins s σ H x v vl vu lo hi sl Q I rx hs pl pu h;obtain⟨a,xs,rfl,hx,hw,q⟩:=h;cases rx;obtain⟨aw,r,ht,hz⟩:=I.tuple hx;have hlen:aw.toArray.size=xs.length:=by rw[o7];exact r.length.symm
 exact⟨"tuple",_,a0.lookup,ht.typeIs,HT.gD ht hs pl pu (by rw[hlen];exact hw) ⟨.ref a,H,I,rfl,q⟩⟩
end
end L2
namespace L3
open PySem PySem.Spec L2
section
variable {X:Cx}
def AG:D->Option Int->Option Int->Mem->bD->Prop:=λ x lo hi M Q=>match x with
 | .str z=>z.length<=sizeLine/\Q (.str (tI z lo hi)) M
 | .tup ds=>Q (.tup (cutD ds lo hi)) M
 | .ref a=>match aW M a with
  |some ds=>∀p,M p=none->Q (.ref p) (ah M p (.lst (cutD ds lo hi)))
  |none=>False
 |_=>False
theorem um:Ly X AG:=by
 obtain⟨r,h1,h2⟩:=(ib:Ly X Qg);refine⟨_,h1.or BK,λ x d lo hi H M Q2 Q hd hm q k=>?_⟩;cases d with
 |tup ds=>
  by_cases hw:HT.bZ ds.length 0 lo=0/\HT.bZ ds.length ds.length hi=ds.length
  ·have q:Q2 (.tup (cutD ds lo hi)) M:=q;have e:cutD ds lo hi=ds:=by unfold cutD;rw[hw.1,hw.2];simp
   rw[e]at q;obtain⟨p,xs,rfl,h,hx⟩:=aQ.mp hd;exact .inr ⟨p,xs,rfl,h,by rw[hx.length];exact hw,k _ H _ M (aQ.mpr ⟨p,xs,rfl,h,hx⟩) hm (ak.refl H) q⟩
  ·exact .inl (h2 x (.tup ds) lo hi H M Q2 Q hd hm ⟨hw,q⟩ k)
 |str z=>exact .inl (h2 x (.str z) lo hi H M Q2 Q hd hm q k)
 |ref a=>exact .inl (h2 x (.ref a) lo hi H M Q2 Q hd hm q k)
 |_=>exact q.elim
end
section
variable {M:Mem}{Q:bD}
theorem vp{ds:List D}{i:Int}(h0:0<=i):cutD ds none (some i)=ds.take i.toNat:=by
 unfold cutD;have e:HT.bZ ds.length ds.length (some i)=min i.toNat ds.length:=by show(if i < 0 then(i+(ds.length:Int)).toNat else min i.toNat ds.length)=_;rw[B9 (by omega)]
 rw[e];show(ds.drop 0).take (min i.toNat ds.length - 0)=_;rw[drop_zero,Nat.sub_zero,take_eq_take_iff];omega
theorem xh{ds:List D}{i:Int}(h0:0<=i):cutD ds (some i) none=ds.drop i.toNat:=by
 unfold cutD;have e:HT.bZ ds.length 0 (some i)=min i.toNat ds.length:=by show(if i < 0 then(i+(ds.length:Int)).toNat else min i.toNat ds.length)=_;rw[B9 (by omega)]
 rw[e];show(ds.drop (min i.toNat ds.length)).take (ds.length - min i.toNat ds.length)=_;rw[take_of_length_le (by rw[length_drop];omega)];by_cases h:i.toNat<=ds.length
 ·rw[Nat.min_eq_left h]
 ·rw[Nat.min_eq_right (by omega),drop_length,drop_of_length_le (by omega)]
theorem yq{ds:List D}{i:Int}(h0:0<=i)(q:Q (.tup (ds.take i.toNat)) M):AG (.tup ds) none (some i) M Q:=by show Q (.tup (cutD ds none (some i))) M;rw[vp h0];exact q
theorem sr{ds:List D}{i:Int}(h0:0<=i)(q:Q (.tup (ds.drop i.toNat)) M):AG (.tup ds) (some i) none M Q:=by show Q (.tup (cutD ds (some i) none)) M;rw[xh h0];exact q
theorem BR{a:Addr}{ds:List D}{lo hi:Option Int}(h:M a=some (.lst ds))(q:∀p,M p=none->Q (.ref p) (ah M p (.lst (cutD ds lo hi)))):AG (.ref a) lo hi M Q:=by show(match aW M a with|some ds=>∀p,M p=none->Q (.ref p) (ah M p (.lst (cutD ds lo hi)))|none=>False);unfold aW;rw[h];exact q
theorem iY{a:Addr}{ds:List D}{i:Int}(h:M a=some (.lst ds))(h0:0<=i)(q:∀p,M p=none->Q (.ref p) (ah M p (.lst (ds.take i.toNat)))):AG (.ref a) none (some i) M Q:=by refine BR h ?_;rw[vp h0];exact q
end
end L3
namespace L3
open PySem PySem.Spec L2 L5
section
variable {g:gB}{tt:eC}{te:bT}{tb:iL}{δ δc:cI}{M1:Mem}{Qe:List D->Mem->Prop}{E:gL}
theorem AL{src:Src}{ds:List D}(Pv:Nat->List D->Mem->Prop)(h0:Pv 0 [] M1)(hl:∀i acc M,i<=ds.length->Pv i acc M->items src M=some ds)(hz:∀i acc M,i<=ds.length->Pv i acc M->acc.length<=sizeLine) (hs:∀i d acc M,ds[i]?=some d->Pv i acc M->g d δc M λ δ2 M2=>tt δ2 M2 λ b M3=>if b=true then te δ2 M3 λ y M4=>Pv (i+1) (acc++[y]) M4 else Pv (i+1) acc M3) (hd:∀acc M,Pv ds.length acc M->Qe acc M):∃(B:Nat) (W:Nat->List D->Mem->Prop),W 0 [] M1/\∀i acc M,W i acc M->i<=B/\acc.length<=sizeLine/\match items src M with
   |none=>False
   |some ds=>match ds[i]? with
    |none=>i=ds.length/\Qe acc M
    |some d=>g d δc M λ δ2 M2=>tt δ2 M2 λ b M3=>if b=true then te δ2 M3 λ y M4=>W (i+1) (acc++[y]) M4 else W (i+1) acc M3:=by
 refine⟨ds.length,λ i acc M=>if i<=ds.length then Pv i acc M else False,by dsimp only;rw[B8 (A8 _)];exact h0,?_⟩;intro i acc M w;by_cases hi:i<=ds.length
 ·rw[B8 hi]at w;refine⟨hi,hz i acc M hi w,?_⟩;rw[hl i acc M hi w];show(match ds[i]? with
    |none=>i=ds.length/\Qe acc M
    |some d=>g d δc M λ δ2 M2=>tt δ2 M2 λ b M3=>if b=true then te δ2 M3 λ y M4=>(if i+1<=ds.length then Pv (i+1) (acc++[y]) M4 else False)else(if i+1<=ds.length then Pv (i+1) acc M3 else False))
  cases e:ds[i]? with
  |none=>have:i=ds.length:=x4 hi (c7.mp e);subst this;exact⟨rfl,hd acc M w⟩
  |some d=>have eQ:i+1<=ds.length:=(c6.mp e).1;simp only[B8 eQ];exact hs i d acc M e w
 ·rw[B9 hi]at w;exact w.elim
end
end L3
namespace L3
open PySem PySem.Spec L2 L5 PyProof.Rows
def Pl:Nat->D->Prop
 |0,d=>d=.bf\/(∃i,d=.int i)\/∃x,d=.str x/\PyData.strOk x=true
 |k+1,d=>d=.bf\/(∃i,d=.int i)\/(∃x,d=.str x/\PyData.strOk x=true)\/∃ds,d=.tup ds/\∀e∈ds,Pl k e
theorem gP(k:Nat)(i:Int):Pl k (.int i):=by
 cases k with
 |zero=>exact .inr (.inl ⟨i,rfl⟩)
 |succ k=>exact .inr (.inl ⟨i,rfl⟩)
theorem yT{k:Nat}{ds:List D}(h:∀e∈ds,Pl k e):Pl (k+1) (.tup ds):=.inr (.inr (.inr ⟨ds,rfl,h⟩))
theorem oD{α:Type}{k:Nat}{xs:List α}{enc:α->D}(h:∀x∈xs,Pl k (enc x)):∀e∈xs.map enc,Pl k e:=λ e he=>by obtain⟨x,hx,rfl⟩:=A1.mp he;exact h x hx
structure Ql(k:Nat)(d:D):Prop where
 nr:nr d=true
 lay:(toP d).canLay0=true
 dep:(toP d).depth<=k
structure OV(k:Nat)(ds:List D):Prop where
 nr:sL ds=true
 lay:PyData.canLayAll0 (toPs ds)=true
 dep:PyData.depthAll (toPs ds)<=k
theorem iq{k:Nat}:∀{ds:List D},(∀e∈ds,Ql k e)->OV k ds
 |[],_=>⟨by unfold sL;rfl,by unfold toPs;simp[PyData.canLayAll0],by unfold toPs;simp[PyData.depthAll]⟩
 |d::ds,h=>by
  have h1:=h d (k7 ..);have h2:=iq (ds:=ds) λ e he=>h e (j3 _ he);refine⟨?_,?_,?_⟩
  ·unfold sL;rw[h1.nr,h2.nr];rfl
  ·unfold toPs;simp only[PyData.canLayAll0];rw[h1.lay,h2.lay];rfl
  ·unfold toPs;simp only[PyData.depthAll];exact Nat.max_le.mpr ⟨h1.dep,h2.dep⟩
theorem Pl.f:∀{k:Nat} {d:D},Pl k d->Ql k d
 |0,d,h=>by
  rcases h with rfl|⟨i,rfl⟩|⟨x,rfl,hx⟩
  ·exact⟨by unfold L3.nr;rfl,by unfold toP;simp[PyData.canLay0],by unfold toP;simp[PyData.depth]⟩
  ·exact⟨by unfold L3.nr;rfl,by unfold toP;simp[PyData.canLay0],by unfold toP;simp[PyData.depth]⟩
  ·exact⟨by unfold L3.nr;rfl,by unfold toP;simp[PyData.canLay0,hx],by unfold toP;simp[PyData.depth]⟩
 |k+1,d,h=>by
  rcases h with rfl|⟨i,rfl⟩|⟨x,rfl,hx⟩|⟨ds,rfl,h⟩
  ·exact⟨by unfold L3.nr;rfl,by unfold toP;simp[PyData.canLay0],by unfold toP;simp[PyData.depth]⟩
  ·exact⟨by unfold L3.nr;rfl,by unfold toP;simp[PyData.canLay0],by unfold toP;simp[PyData.depth]⟩
  ·exact⟨by unfold L3.nr;rfl,by unfold toP;simp[PyData.canLay0,hx],by unfold toP;simp[PyData.depth]⟩
  ·have q:=iq λ e he=>Pl.f (h e he);refine⟨?_,?_,?_⟩
   ·unfold L3.nr;exact q.nr
   ·unfold toP;simp only[PyData.canLay0];exact q.lay
   ·unfold toP;simp only[PyData.depth];have:=q.dep;omega
theorem lV{k:Nat}(ih:∀x y:D,Pl k x->Pl k y->(PyData.eqv (toP x) (toP y)=true↔x=y)):∀{ds es:List D},(∀e∈ds,Pl k e)->(∀e∈es,Pl k e)->(PyData.eqvAll (toPs ds) (toPs es)=true↔ds=es)
 |[],[],_,_=>by unfold toPs;simp[PyData.eqvAll]
 |[],e::es,_,_=>by unfold toPs;simp[PyData.eqvAll]
 |d::ds,[],_,_=>by unfold toPs;simp[PyData.eqvAll]
 |d::ds,e::es,h1,h2=>by have a:=ih d e (h1 d (k7 ..)) (h2 e (k7 ..));have b:=lV ih (ds:=ds) (es:=es) (λ x hx=>h1 x (j3 _ hx)) (λ x hx=>h2 x (j3 _ hx));unfold toPs;simp only[PyData.eqvAll,p7,a,b,List.cons.injEq]
theorem gx:∀{k:Nat} (x y:D),Pl k x->Pl k y->(PyData.eqv (toP x) (toP y)=true↔x=y)
 |0,x,y,hx,hy=>by rcases hx with rfl|⟨i,rfl⟩|⟨z,rfl,_⟩ <;> rcases hy with rfl|⟨j,rfl⟩|⟨w,rfl,_⟩ <;> simp[toP,PyData.eqv]
 |k+1,x,y,hx,hy=>by
  rcases hx with rfl|⟨i,rfl⟩|⟨z,rfl,_⟩|⟨ds,rfl,hd⟩ <;> rcases hy with rfl|⟨j,rfl⟩|⟨w,rfl,_⟩|⟨es,rfl,he⟩ <;> first
   |(simp[toP,PyData.eqv];done)
   |(have:=lV (λ x y=>gx (k:=k) x y) hd he
     unfold toP;simp only[PyData.eqv,D.tup.injEq];exact this)
theorem Au{k:Nat}{x y:D}(hx:Pl k x)(hy:Pl k y){b:Bool}(hb:b=true↔x=y):PyData.eqv (toP x) (toP y)=b:=by rw[q8];exact(gx x y hx hy).trans hb.symm
theorem lq{k:Nat}{ds:List D}(h:∀e∈ds,Pl k e)(hk:k<=60):SeqAt.shaped (.list (toPs ds))=true:=by
 have f:=iq λ e he=>(h e he).f;have h1:(PyData.list (toPs ds)).canLay0=true:=by simp only[PyData.canLay0];exact f.lay
 have h2:(PyData.list (toPs ds)).depth<=64:=by simp only[PyData.depth];have:=f.dep;omega
 unfold SeqAt.shaped;rw[h1,x8 h2];rfl
section
variable {M:Mem}{Q:bD}
theorem uC{k:Nat}{p:Addr}{ds:List D}(hM:M p=some (.lst ds))(h:∀e∈ds,Pl k e):sA M (.ref p)=some (.list (toPs ds)):=by have f:=iq λ e he=>(h e he).f;unfold sA;simp only[hM];rw[B8 f.nr]
theorem xb{k:Nat}{ds es:List D}(h1:∀e∈ds,Pl k e)(h2:∀e∈es,Pl k e){b:Bool}(hb:b=true↔ds=es):PyData.eqv (.list (toPs ds)) (.list (toPs es))=b:=by rw[q8];have:=lV (λ x y=>gx (k:=k) x y) h1 h2;simp only[PyData.eqv];exact this.trans hb.symm
theorem BY{k:Nat}{p p2:Addr}{ds es:List D}{b:Bool}(hM:M p=some (.lst ds))(K7:M p2=some (.lst es))(h1:∀e∈ds,Pl k e)(h2:∀e∈es,Pl k e)(hk:k<=60)(hb:b=true↔ds=es)(q:Q (.bl (!b)) M):tH true (.ref p) (.ref p2) M Q:=by refine .inr ⟨_,_,uC hM h1,uC K7 h2,lq h1 hk,lq h2 hk,?_⟩;rw[xb h1 h2 hb];exact q
end
section
variable {X:Cx}
theorem ja{A:Around}{s:Shared}{v:Value}{y:PyData}{bs:List Addr}(ry:Reads s.heap v y bs)(cy:y.canLay0=true)(hu:A.units+y.depth < cLine):∀{ds:List D} {us:List Value} {as:List Addr},ReadsAll s.heap us (toPs ds) as->PyData.canLayAll0 (toPs ds)=true->
  ∃e:Value->Bool,(∀u∈us,SeqAt.EqAt A s u v (e u))/\us.map e=ds.map λ d=>PyData.eqv (toP d) y:=by
 intro ds us as ra cl;refine⟨λ u=>PyData.eqv (SeqAt.readOf s.heap u) y,λ u Rp=>?_,?_⟩
 ·obtain⟨d,Tt,rd,cd,_⟩:=SeqAt.readsAll_mem _ _ _ cl ra u Rp;have e:=SeqAt.readOf_eq cd rd;dsimp only;rw[e];exact SeqAt.eqAt_reads d y A s u v _ _ rd ry cd cy (by omega)
 ·have e:=SeqAt.readsAll_map _ _ _ cl ra;have f:∀(us:List Value) (ds:List D),us.map (SeqAt.readOf s.heap)=toPs ds->us.map (λ u=>PyData.eqv (SeqAt.readOf s.heap u) y)=ds.map λ d=>PyData.eqv (toP d) y:=by
   intro us
   induction us with
   |nil=>
    intro ds q;cases ds with
    |nil=>rfl
    |cons d r=>unfold toPs at q;cases q
   |cons u us ih=>
    intro ds q;cases ds with
    |nil=>unfold toPs at q;cases q
    |cons d r=>
     unfold toPs at q;rw[y7]at q;injection q with q1 q2
     rw[y7,y7,ih r q2,q1]
  exact f us ds e
structure LF(K:C0)(H:Hp)(b:Bool)(p:Addr)(xs:List V)(ds:List D)(x:V)(d:D):Prop where
 sq:Sq b K H p xs
 DT:ax K H ds xs
 dat:Dat K H d x
 ns:sL ds=true
 n:nr d=true
 wL:PyData.canLayAll0 (toPs ds)=true
 lay:(toP d).canLay0=true
 dep:(toP d).depth < 62
theorem any_map{α:Type}(us:List α)(e:α->Bool)(bs:List Bool)(h:us.map e=bs):us.any e=bs.any id:=by rw[<- h,List.any_map];rfl
theorem G2(neg:Bool)(hu:X.A.units+64 < cLine):eN X (compareOp (if neg then .NotIn else .In)) (λ x y H Q=>∃(b:Bool) (p:Addr) (xs:List V) (ds:List D) (d:D),y=.ref p/\LF X.K H b p xs ds x d/\Q (.bl (if neg then !ds.any (λ e=>PyData.eqv (toP e) (toP d))else ds.any λ e=>PyData.eqv (toP e) (toP d))) H):=by
 intro pins s σ H x y v u Q I rx ry h;obtain⟨b,p,xs,ds,d,rfl,ok,q⟩:=h;cases ry;obtain⟨bs,rb⟩:=L7 I d ok.n ok.dat rx;have hd:=ok.dep;cases b with
 |false=>
  obtain⟨aw,r,pl,hz⟩:=I.list ok.sq;obtain⟨as,ra⟩:=sx I ds ok.ns ok.DT r;obtain⟨e,e1,e2⟩:=ja (A:=X.A.in1) rb ok.lay (by show X.A.units+1+_ < _;omega) ra ok.wL;have e3:aw.toArray.any e=ds.any λ e=>PyData.eqv (toP e) (toP d):=by rw[show aw.toArray.any e=aw.any e by simp,any_map _ _ _ e2,List.any_map];rfl
  cases neg with
  |false=>exact SeqAt.in_listAt e pl.isList (λ w hw=>e1 w (by simpa using hw)) ⟨.bl _,H,I,rfl,by rw[e3];exact q⟩
  |true=>exact SeqAt.notIn_listAt e pl.isList (λ w hw=>e1 w (by simpa using hw)) ⟨.bl _,H,I,rfl,by rw[e3];exact q⟩
 |true=>
  obtain⟨aw,r,pl,hz⟩:=I.tuple ok.sq;obtain⟨as,ra⟩:=sx I ds ok.ns ok.DT r;obtain⟨e,e1,e2⟩:=ja (A:=X.A.in1) rb ok.lay (by show X.A.units+1+_ < _;omega) ra ok.wL;have e3:aw.toArray.any e=ds.any λ e=>PyData.eqv (toP e) (toP d):=by rw[show aw.toArray.any e=aw.any e by simp,any_map _ _ _ e2,List.any_map];rfl
  cases neg with
  |false=>exact SeqAt.in_tupleAt e pl (λ w hw=>e1 w (by simpa using hw)) ⟨.bl _,H,I,rfl,by rw[e3];exact q⟩
  |true=>exact SeqAt.notIn_tupleAt e pl (λ w hw=>e1 w (by simpa using hw)) ⟨.bl _,H,I,rfl,by rw[e3];exact q⟩
end
end L3
namespace L3
open PySem PySem.Spec L2 L5 PyProof.Rows
section
variable {X:Cx}
def EH:List D->Mem->bD->Prop:=λ xs M Q=>∃i j,xs=[.int i,.int j]/\Q (.int (max i j)) M
theorem Ls(hc:X.calm=true):cY X (.builtin "max") EH:=⟨_,xj hc,λ xs ds H M Q2 Q hd hm q k=>by
 obtain⟨i,j,rfl,q⟩:=q;obtain⟨v,r,rfl,hv,hr⟩:=ag.mp hd;obtain⟨v2,r2,rfl,IV,jh⟩:=ag.mp hr;cases(aj.mp jh);cases(ar.mp hv);cases(ar.mp IV);refine⟨i,j,rfl,k _ H _ M (ar.mpr rfl) hm (ak.refl H) ?_⟩;have e:(if j > i then j else i)=max i j:=by split <;> omega
 rw[e];exact q⟩
def EJ:List D->Mem->bD->Prop:=λ xs M Q=>(∃b,xs=[.bl b]/\Q (.int (if b then 1 else 0)) M)\/∃i,xs=[.int i]/\Q (.int i) M
theorem pE:cY X (.type "int") EJ:=⟨_,xl,λ xs ds H M Q2 Q hd hm q k=>by
 rcases q with⟨b,rfl,q⟩|⟨b,rfl,q⟩
 ·obtain⟨v,r,rfl,hv,hr⟩:=ag.mp hd;cases(aj.mp hr);cases(aP.mp hv);exact .inr ⟨b,rfl,k _ H _ M (ar.mpr rfl) hm (ak.refl H) q⟩
 ·obtain⟨v,r,rfl,hv,hr⟩:=ag.mp hd;cases(aj.mp hr);cases(ar.mp hv);exact .inl ⟨b,rfl,k _ H _ M (ar.mpr rfl) hm (ak.refl H) q⟩⟩
def Lf:fb:=λ x y M Q=>∃l k ds,x=.ref l/\y=.int k/\M l=some (.lst ds)/\-(2^63)<=k/\k < 2^63/\ds.length*k.toNat<=sizeLine/\∀p,M p=none->Q (.ref p) (ah M p (.lst (List.replicate k.toNat ds).flatten))
def vj:fb:=λ x y M Q=>vk x y M Q\/Lf x y M Q
theorem fO:eW X (binaryOp .Mult) vj:=Ha.or ⟨_,GW,λ x y d e H M Q2 Q hd he hm q k=>by
 obtain⟨l,n,ds,rfl,rfl,hM,h1,h2,hz,q⟩:=q;cases(aA.mp hd);cases(ar.mp he);obtain⟨xs,hx,PF⟩:=hm l _ hM;exact⟨l,n,xs,rfl,rfl,hx,h1,h2,by rw[PF.length];exact hz,λ p hp=>k _ _ (.ref p) _ (aA.mpr rfl) (dG hp (lY PF n.toNat) hm) (ak.laid hp) (q p (hm.free hp))⟩⟩
structure O0(M:Mem)(x y:D)(ds:List D):Prop where
 sq:cq M y=some ds
 ns:sL ds=true
 n:nr x=true
 wL:PyData.canLayAll0 (toPs ds)=true
 lay:(toP x).canLay0=true
 dep:(toP x).depth < 62
def Ip(neg:Bool):fb:=λ x y M Q=>∃ds,O0 M x y ds/\Q (.bl (if neg then !ds.any (λ e=>PyData.eqv (toP e) (toP x))else ds.any λ e=>PyData.eqv (toP e) (toP x))) M
theorem Es(neg:Bool)(hu:X.A.units+64 < cLine):eW X (compareOp (if neg then .NotIn else .In)) (Ip neg):=⟨_,G2 neg hu,λ x y d e H M Q2 Q hd he hm q k=>by
 obtain⟨ds,ok,q⟩:=q;obtain⟨p,xs,rfl,q1,x1⟩:=ow ok.sq he hm;exact⟨_,p,xs,ds,d,rfl,⟨q1,x1,hd,ok.ns,ok.n,ok.wL,ok.lay,ok.dep⟩,k _ H _ M (aP.mpr rfl) hm (ak.refl H) q⟩⟩
def Lj:fb:=λ x y M Q=>Qh x y M Q\/Ip false x y M Q
theorem Kr(hu:X.A.units+64 < cLine):eW X (compareOp .In) Lj:=Nt.or (Es false hu)
def vh:fb:=λ x y M Q=>∃i j,x=.str i/\y=.str j/\Q (.bl (!(!(Builtin.Str.occurrences j i 0 j.length 1).isEmpty))) M
theorem zp:eW X (compareOp .NotIn) vh:=⟨_,oI,λ x y d e H M Q2 Q hd he hm q k=>by
 obtain⟨i,j,rfl,rfl,q⟩:=q;cases(aO.mp hd);cases(aO.mp he);exact⟨i,j,rfl,rfl,k _ H _ M (aP.mpr rfl) hm (ak.refl H) q⟩⟩
def kr:fb:=λ x y M Q=>vh x y M Q\/Ip true x y M Q
theorem fN(hu:X.A.units+64 < cLine):eW X (compareOp .NotIn) kr:=zp.or (Es true hu)
structure LD(ds:List D)(y:D)(j:Nat):Prop where
 lt:j < ds.length
 hit:∀e,ds[j]?=some e->PyData.eqv (toP e) (toP y)=true
 no:∀m e,m < j->ds[m]?=some e->PyData.eqv (toP e) (toP y)=false
def tG:D->List D->Mem->bD->Prop:=λ x vs M Q=>∃p ds y j,x=.ref p/\vs=[y]/\M p=some (.lst ds)/\O0 M y x ds/\LD ds y j/\Q (.int (j:Nat)) M
theorem gp(hu:X.A.units+64 < cLine):Ea X "list.index" tG:=⟨λ x vs H Q=>∃p ds xs d y j,x=.ref p/\vs=[y]/\LF X.K H false p xs ds y d/\LD ds d j/\Q (.int (j:Nat)) H,by
  intro pins s σ H x xs v us Q I rx rv h;obtain⟨p,ds,zs,d,y,j,rfl,rfl,ok,ix,q⟩:=h;cases(show v=Value.ref p from rx);obtain⟨u,rfl,ru⟩:=rv.one;have hd:=ok.dep;obtain⟨bs,rb⟩:=L7 I d ok.n ok.dat ru;obtain⟨aw,r,pl,hz⟩:=I.list ok.sq;obtain⟨as,ra⟩:=sx I ds ok.ns ok.DT r;obtain⟨e,e1,e2⟩:=ja (A:=X.A.in1) rb ok.lay (by show X.A.units+1+_ < _;omega) ra ok.wL;obtain⟨⟨c,dd,da,sl⟩,ho,hc,n,HS⟩:=pl.isList;cases(show c=.type "list" from hc);cases(show da=.seq aw.toArray n from HS);have l1:=r.length;have l2:=ok.DT.length;have eQ:=ix.lt;have at_:∀m (hm:m < aw.length) (jC:m < ds.length),e aw[m]=PyData.eqv (toP ds[m]) (toP d):=λ m hm jC=>by have:=B6 (·[m]?) e2;simp only[m8,c9 hm,c9 jC,Option.map_some,Option.some.injEq]at this;exact this
  have hs:ds.length<=16777216:=by
   have h2:zs.length<=sizeLine:=hz;have h3:sizeLine=16777216:=by decide
   omega
  refine B3 PySem.F.slot_list_index ⟨_,ho,rfl⟩ PySem.F.entry_list_index (PySem.F.args_list_index_2 _ _) (SeqAt.list_indexAt p aw.toArray n dd sl u e j (by simp;omega) (by omega) ?_ ?_) ⟨ho,λ y hy=>e1 y (by simpa using hy),?_⟩
  ·have:=at_ j (by omega) eQ;simp only[getElem_toArray];rw[this];exact ix.hit _ (c9 eQ)
  ·intro m hm RB;have eg:m < aw.length:=by simpa using hm
   have:=at_ m eg (by omega);simp only[getElem_toArray];rw[this];exact ix.no m _ RB (c9 (by omega))
  ·exact⟨.int _,H,I.tok _,⟨_,rfl⟩,q⟩,λ x xs d ds H M Q2 Q hx hd hm q k=>by
  obtain⟨p,es,y,j,rfl,rfl,hM,ok,ix,q⟩:=q;cases(aA.mp hx);obtain⟨v,r,rfl,hv,hr⟩:=ag.mp hd;cases(aj.mp hr);obtain⟨zs,hz,mw⟩:=hm p _ hM;exact⟨p,es,zs,y,v,j,rfl,rfl,⟨eA.of hz,mw,hv,ok.ns,ok.n,ok.wL,ok.lay,ok.dep⟩,ix,k _ H _ M (ar.mpr rfl) hm (ak.refl H) q⟩⟩
def Lg:D->List D->Mem->bD->Prop:=λ x vs M Q=>(∃p ds y,x=.ref p/\vs=[]/\M p=some (.lst ds)/\ds[ds.length - 1]?=some y/\Q y (ah M p (.lst ds.dropLast)))\/
 ∃p ds i k y,x=.ref p/\vs=[.int i]/\M p=some (.lst ds)/\-(2^63)<=i/\i < 2^63/\seqIndex? i ds.length=some k/\ds[k]?=some y/\Q y (ah M p (.lst (ds.eraseIdx k)))
theorem ax.eraseIdx {K:C0}{H:Hp}:∀{ds:List D} {xs:List V} (n:Nat),ax K H ds xs->ax K H (ds.eraseIdx n) (xs.eraseIdx n)
 |[],xs,n,h=>by rw[aj]at h;subst h;simp[aj]
 |d::ds,xs,0,h=>by obtain⟨x,r,rfl,a,b⟩:=ag.mp h;exact b
 |d::ds,xs,n+1,h=>by obtain⟨x,r,rfl,a,b⟩:=ag.mp h;rw[eraseIdx_cons_succ,eraseIdx_cons_succ,ag];exact⟨x,_,rfl,a,b.eraseIdx n⟩
theorem ax.dropLast {K:C0}{H:Hp}{ds:List D}{xs:List V}(h:ax K H ds xs):ax K H ds.dropLast xs.dropLast:=by rw[dropLast_eq_take,dropLast_eq_take,h.length];exact h.take _
theorem Bm.or {id:String}{r r':V->List V->Hp->VK->Prop}(h:Bm X id r)(h':Bm X id r'):Bm X id (λ x vs H Q=>r x vs H Q\/r' x vs H Q):=by
 intro pins s σ H x xs v us Q I a b q;rcases q with q|q
 ·exact h pins s σ H x xs v us Q I a b q
 ·exact h' pins s σ H x xs v us Q I a b q
theorem Kx:Ea X "list.pop" Lg:=⟨_,Bm.or Hj zA,λ x xs d ds H M Q2 Q hx hd hm q k=>by
 rcases q with⟨p,es,y,rfl,rfl,hM,hy,q⟩|⟨p,es,i,j,y,rfl,rfl,hM,h1,h2,hs,hy,q⟩
 ·cases(aA.mp hx);cases(aj.mp hd);obtain⟨zs,h1,h2⟩:=hm p _ hM;obtain⟨v,hv,NT⟩:=h2.get hy;have t:=ak.lst (o:=.lst zs.dropLast) h1;exact .inl ⟨p,zs,v,rfl,rfl,h1,by rw[h2.length];exact hv,k _ _ y _ (Dat.mono t y NT) (hm.put (u:=.lst es.dropLast) t ⟨_,aG,ax.mono t _ h2.dropLast⟩) t q⟩
 ·cases(aA.mp hx);obtain⟨v0,r,rfl,Ro,hr⟩:=ag.mp hd;cases(aj.mp hr);cases(ar.mp Ro);obtain⟨zs,g1,g2⟩:=hm p _ hM;obtain⟨v,hv,NT⟩:=g2.get hy;have t:=ak.lst (o:=.lst (zs.eraseIdx j)) g1;exact .inr ⟨p,zs,i,j,v,rfl,rfl,g1,h1,h2,by rw[g2.length];exact hs,hv,k _ _ y _ (Dat.mono t y NT) (hm.put (u:=.lst (es.eraseIdx j)) t ⟨_,aG,ax.mono t _ (g2.eraseIdx j)⟩) t q⟩⟩
def AI:D->List D->Mem->bD->Prop:=λ x vs M Q=>∃p ds,x=.ref p/\vs=[]/\M p=some (.lst ds)/\Q .bf (ah M p (.lst []))
theorem Dt:Ea X "list.clear" AI:=⟨_,zB,λ x xs d ds H M Q2 Q hx hd hm q k=>by
 obtain⟨p,es,rfl,rfl,hM,q⟩:=q;cases(aA.mp hx);cases(aj.mp hd);obtain⟨zs,h1,h2⟩:=hm p _ hM;have t:=ak.lst (o:=.lst []) h1;exact⟨p,zs,rfl,rfl,h1,k _ _ .bf _ (cU.mpr rfl) (hm.put (u:=.lst []) t ⟨_,aG,by rw[aj]⟩) t q⟩⟩
end
theorem vW{K:C0}{i j l:Nat}:∀v σ H Q,Ee K (mH 3 (cC (hName i) (cC (hName j) (cC (hName l) mI)))) v σ H Q->qW K 3 (cX (ck i) (cX (ck j) (cX (ck l) oZ))) v σ H Q:=λ v σ H Q ⟨d,δ,M,Q2,hd,hs,hm,q,k⟩=>by
 cases d with
 |tup ds=>
  obtain⟨p,xs,rfl,hq,hx⟩:=aQ.mp hd;obtain⟨hl,q⟩:=q
  match ds,hl,hx,q with
  |[a,b,c],hl,hx,q=>obtain⟨x,r,rfl,ha,hx⟩:=ag.mp hx;obtain⟨y,r,rfl,hb,hx⟩:=ag.mp hx;obtain⟨z,r,rfl,hc,hx⟩:=ag.mp hx;cases(aj.mp hx);exact⟨p,[x,y,z],rfl,hq,rfl,x,[y,z],rfl,y,[z],rfl,z,[],rfl,rfl,k _ H _ M (((hs.set ha).set hb).set hc) hm (ak.refl H) q⟩
 |_=>exact q.elim
section
variable {X:Cx}{scope:Scope}{tgs:List Str}{fr:List Nat}
theorem BA{i j l k:Nat}{x y z:Str}{px py pz pt:Pos}(h:∀cl C fp s H,PG (bq X scope cl tgs fr C fp s H) (.Tuple [.Name x px,.Name y py,.Name z pz] k pt) (qW X.K 3 (cX (ck i) (cX (ck j) (cX (ck l) oZ)))))(hi:i < tgs.length)(hj:j < tgs.length)(hl:l < tgs.length):Lv X scope tgs fr (.Tuple [.Name x px,.Name y py,.Name z pz] k pt) (mH 3 (cC (hName i) (cC (hName j) (cC (hName l) mI)))):=
 ⟨_,h,An (iE (gu hi) (iE (gu hj) (iE (gu hl) Ao dJ lS) dJ (km dJ lS)) dJ (km dJ (km dJ lS))),vW⟩
end
end L3
namespace L4
open PySem PySem.Spec L2 L3 L5
section
variable {X:Cx}{scope:Scope}{tgs:List Str}{fr:List Nat}
theorem xH{i j l k:Nat}{x y z:Str}{px py pz pt:Pos}(h:∀cl C fp s H,PG (bq X scope cl tgs fr C fp s H) (.Tuple [.Name x px,.Name y py,.Name z pz] k pt) (qW X.K 3 (cX (ck i) (cX (ck j) (cX (ck l) oZ)))))(hi:i < tgs.length)(hj:j < tgs.length)(hl:l < tgs.length):D_ X scope tgs fr (.Tuple [.Name x px,.Name y py,.Name z pz] k pt) (mH 3 (cC (hName i) (cC (hName j) (cC (hName l) mI)))):=⟨BA h hi hj hl⟩
end
end L4
namespace L3
open PySem PySem.Spec L2 L5 PyProof.Rows
section
variable {M:Mem}{Q:bD}
theorem BP{i j l:Nat}{a b c:D}{δ:cI}{N:cI->Mem->Prop}(h:N (((δ.set i (some a)).set j (some b)).set l (some c)) M):mH 3 (cC (hName i) (cC (hName j) (cC (hName l) mI))) (.tup [a,b,c]) δ M N:=⟨rfl,h⟩
theorem B_{i j:Int}(q:Q (.int (max i j)) M):EH [.int i,.int j] M Q:=⟨i,j,rfl,q⟩
theorem yB{b:Bool}(q:Q (.int (if b then 1 else 0)) M):EJ [.bl b] M Q:=.inl ⟨b,rfl,q⟩
theorem lE{i j:Int}(h:pP i j)(q:Q (.int (i*j)) M):vj (.int i) (.int j) M Q:=.inl (yw h q)
theorem qt{d:D}{k:Int}(h0:0<=k)(h1:k<=10000)(q:Q (.tup (List.replicate k.toNat d)) M):vj (.tup [d]) (.int k) M Q:=.inl (yu h0 h1 q)
theorem qu{p:Addr}{d:D}{k:Int}(hM:M p=some (.lst [d]))(h0:0<=k)(h1:k<=10000)(q:∀p,M p=none->Q (.ref p) (ah M p (.lst (List.replicate k.toNat d)))):vj (.ref p) (.int k) M Q:=by
 refine .inr ⟨p,k,[d],rfl,rfl,hM,Int.le_trans (by decide) h0,m6 h1 (by decide),?_,?_⟩
 ·have:[d].length*k.toNat<=10000:=by simp;omega
  exact MR this
 ·have e:(List.replicate k.toNat [d]).flatten=List.replicate k.toNat d:=by
   generalize k.toNat=n
   induction n with
   |zero=>rfl
   |succ n ih=>rw[j8,n6,ih,j8];rfl
  rw[e];exact q
theorem dq{a:Addr}{ds:List D}(h:M a=some (.lst ds)):cq M (.ref a)=some ds:=by show aW M a=some ds;unfold aW;rw[h]
theorem jg{k:Nat}{x y:D}{ds:List D}(hs:cq M y=some ds)(hx:Pl k x)(hd:∀e∈ds,Pl k e)(hk:k<=60):O0 M x y ds:=by have f:=iq λ e he=>(hd e he).f;exact⟨hs,f.nr,hx.f.nr,f.lay,hx.f.lay,by have:=hx.f.dep;omega⟩
theorem AV{k:Nat}{x:D}{ds:List D}(hx:Pl k x)(hd:∀e∈ds,Pl k e){b:Bool}(hb:b=true↔x∈ds):(ds.any λ e=>PyData.eqv (toP e) (toP x))=b:=by
 rw[q8,hb,List.any_eq_true];constructor
 ·rintro⟨e,he,h⟩;rw[<- (gx e x (hd e he) hx).mp h];exact he
 ·intro h;exact⟨x,h,(gx x x hx hx).mpr rfl⟩
theorem Ce{k:Nat}{x y:D}{ds:List D}{b:Bool}(hs:cq M y=some ds)(hx:Pl k x)(hd:∀e∈ds,Pl k e)(hk:k<=60)(hb:b=true↔x∈ds)(q:Q (.bl b) M):Lj x y M Q:=by refine .inr ⟨ds,jg hs hx hd hk,?_⟩;rw[AV hx hd hb];exact q
theorem sv{k:Nat}{x y:D}{ds:List D}{b:Bool}(hs:cq M y=some ds)(hx:Pl k x)(hd:∀e∈ds,Pl k e)(hk:k<=60)(hb:b=true↔x∈ds)(q:Q (.bl (!b)) M):kr x y M Q:=by refine .inr ⟨ds,jg hs hx hd hk,?_⟩;rw[AV hx hd hb];exact q
theorem uG{α:Type}{xs:List α}{enc:α->D}(inj:∀a b,enc a=enc b->a=b)(a:α):enc a∈xs.map enc↔a∈xs:=by
 rw[A1];constructor
 ·rintro⟨b,hb,e⟩;rw[<- inj _ _ e];exact hb
 ·intro h;exact⟨a,h,rfl⟩
theorem lF{α:Type}[DecidableEq α]{k:Nat}{p:Addr}{xs:List α}{a:α}(enc:α->D)(inj:∀a b,enc a=enc b->a=b)(hM:M p=some (.lst (xs.map enc)))(ha:a∈xs)(hp:∀a,Pl k (enc a))(hk:k<=60)(q:Q (.int (xs.idxOf a:Nat)) M):tG (.ref p) [enc a] M Q:=by
 have eQ:xs.idxOf a < xs.length:=idxOf_lt_length_of_mem ha;refine⟨p,xs.map enc,enc a,xs.idxOf a,rfl,rfl,hM,jg (dq hM) (hp a) (oD λ x _=>hp x) hk,⟨by rw[w6];exact eQ,λ e he=>?_,λ m e hm he=>?_⟩,q⟩
 ·rw[m8,c9 eQ,getElem_idxOf]at he;cases he;exact(gx _ _ (hp a) (hp a)).mpr rfl
 ·rw[m8,c9 (by omega)]at he;cases he;refine Au (hp _) (hp a) ⟨(λ z=>by cases z),λ z=>?_⟩;have:=inj _ _ z;have fk:=not_of_lt_findIdx (p:=(·==a)) (xs:=xs) (i:=m) hm;exact absurd (show(xs[m]==a)=true by rw[this];simp) (by simpa using fk)
theorem yt{p:Addr}{ds:List D}{j:Nat}{y:D}(hM:M p=some (.lst ds))(hj:ds[j]?=some y)(hz:ds.length<=10000)(q:Q y (ah M p (.lst (ds.eraseIdx j)))):Lg (.ref p) [.int (j:Int)] M Q:=by have hl:j < ds.length:=(c6.mp hj).1;exact .inr ⟨p,ds,j,j,y,rfl,rfl,hM,Int.le_trans (by decide) (Int.natCast_nonneg j),m6 (show(j:Int)<=10000 by omega) (by decide),by rw[seqIndex_of (by omega) (by omega)];simp,hj,q⟩
theorem yI{p:Addr}{ds:List D}(hM:M p=some (.lst ds))(q:Q .bf (ah M p (.lst []))):AI (.ref p) [] M Q:=⟨p,ds,rfl,rfl,hM,q⟩
end
end L3
namespace L3
open PySem PySem.Spec L2 L5 PyProof.Rows
def yl(i:Nat)(te:bT):iL:=λ E δ M=>∃a,δ[i]?=some (some (.int a))/\te δ M λ d M1=>∃b,d=.int b/\E.nx (δ.set i (some (.int (a+b)))) M1
section
variable {X:Cx}{pos:Pos}{te:bT}
theorem Cz{i:Nat}{x:Str}{e:Expr}{pos':Pos}(hN:X.N.Nodup)(hi:X.N[i]?=some x)(hx:Loc X.env.scope x)(he:QE X e te)(hf:X.fn x=true\/X.env.scope.names.lookup x=some .local:=by first|exact .inl rfl|exact .inr rfl|assumption):QS X (.AugAssign (.Name x pos') .Add e pos) (yl i te):=ip (GA hN hi hx he HD hf) λ E σ H ⟨δ,M,D2,hs,hm,⟨a,ea,q⟩,k⟩=>by obtain⟨v,ev,hv⟩:=hs.get i _ ea;cases(ar.mp hv);refine⟨_,ev,δ,M,_,hs,hm,q,λ y H1 d M1 hd bP t1 q1=>?_⟩;obtain⟨b,rfl,q1⟩:=q1;cases(ar.mp hd);exact⟨_,_,rfl,rfl,k.nx _ _ _ _ ((hs.mono t1).set (ar.mpr rfl)) bP t1 q1⟩
end
theorem Cm{i:Nat}{te:bT}{E:gL}{δ:cI}{M:Mem}{a:Int}(ea:δ[i]?=some (some (.int a)))(h:te δ M λ d M1=>∃b,d=.int b/\E.nx (δ.set i (some (.int (a+b)))) M1):yl i te E δ M:=⟨a,ea,h⟩
def Aw(R:Src->Mem->Prop)(ds:List D)(M1:Mem):Prop:=match ds with
 |[.tup xs]=>R (.fix (eK xs)) M1
 |[x]=>(∃zs,cq M1 x=some zs)/\R (.fn (gJ x)) M1
 |_=>False
theorem yD{ta:dP}{δ:cI}{M:Mem}{R:Src->Mem->Prop}(h:ta δ M (Aw R)):zJ ta δ M R:=h
theorem yE{xs:List D}{M:Mem}{R:Src->Mem->Prop}(h:R (.fix (eK xs)) M):Aw R [.tup xs] M:=h
theorem yF{a:Addr}{xs:List D}{M:Mem}{R:Src->Mem->Prop}(hM:M a=some (.lst xs))(h:R (.fn (gJ (.ref a))) M):Aw R [.ref a] M:=⟨⟨xs,dq hM⟩,h⟩
end L3
namespace L4
open PySem PySem.Spec L2 L3 L5
section
variable {X:Cx}{pos:Pos}{te:bT}
theorem Bt{i:Nat}{x:Str}{e:Expr}{pos':Pos}(hN:X.N.Nodup)(hi:X.N[i]?=some x)(hx:Loc X.env.scope x)(he:WE X e te)(hf:X.fn x=true\/X.env.scope.names.lookup x=some .local:=by first|exact .inl rfl|exact .inr rfl|assumption):WS X (.AugAssign (.Name x pos') .Add e pos) (yl i te):=⟨Cz hN hi hx he.h hf⟩
end
end L4
namespace L2
open PySem PySem.Spec PyProof.Rows
section
variable {X:Cx}
def Nh(K:C0)(x y:V)(H:Hp)(Q:Bool->Prop):Prop:=(∃a o,y=.ref a/\mQ H a x o/\Q o.isSome)\/∃a b kvs k,y=.ref a/\x=.ref b/\mj K H a kvs/\k.dep<=5/\fU K H k (.ref b)/\Q (hX kvs k).isSome
theorem Dc(neg:Bool)(hu:X.A.units+64 < cLine):eN X (compareOp (if neg then .NotIn else .In)) (λ x y H Q=>Nh X.K x y H λ b=>Q (.bl (if neg then !b else b)) H):=by
 intro pins s σ H x y v u Q I rx ry h;rcases h with⟨a,o,rfl,g,q⟩|⟨a,b,kvs,k,rfl,rfl,d,hk,pS,q⟩
 ·cases(show u=Value.ref a from ry);cases neg with
  |false=>exact OM (by omega) I g rx λ s3 I3=>⟨.bl o.isSome,H,I3,rfl,q⟩
  |true=>exact DU (by omega) I g rx λ s3 I3=>⟨.bl (!o.isSome),H,I3,rfl,q⟩
 ·cases(show u=Value.ref a from ry);cases(show v=Value.ref b from rx);cases neg with
  |false=>exact MC hu I d hk pS λ s3 I3=>⟨.bl (hX kvs k).isSome,H,I3,rfl,q⟩
  |true=>exact BD hu I d hk pS λ s3 I3=>⟨.bl (!(hX kvs k).isSome),H,I3,rfl,q⟩
def JY(K:C0)(x y:V)(H:Hp)(Q:VK):Prop:=(∃a v,x=.ref a/\mQ H a y (some v)/\Q v H)\/∃a b kvs k v,x=.ref a/\y=.ref b/\mj K H a kvs/\k.dep<=5/\fU K H k (.ref b)/\hX kvs k=some v/\Q v H
theorem HB(hu:X.A.units+64 < cLine):tR X (λ x y H Q=>JY X.K x y H Q):=by
 intro value slice pins s σ H x y v u Q I rx ry h hs;rcases h with⟨a,w,rfl,g,q⟩|⟨a,b,kvs,k,w,rfl,rfl,d,hk,pS,g,q⟩
 ·cases(show v=Value.ref a from rx);refine tail_any (ops:=[.ref a,u]) (rf I g) PySem.F.slot_dict_getitem.lookup ?_ hs;exact xf (by omega) I g ry λ w' s3 I3 gN=>⟨w,H,I3,gN,q⟩
 ·cases(show v=Value.ref a from rx);cases(show u=Value.ref b from ry);obtain⟨_,_,xs,_,dd⟩:=d.of I;refine tail_any (ops:=[.ref a,.ref b]) dd.typeIs PySem.F.slot_dict_getitem.lookup ?_ hs;exact vZ hu I d hk pS g λ w' s3 I3 gN=>⟨w,H,I3,gN,q⟩
def JX(K:C0):xr:=λ o i v H Q=>(∃a H',o=.ref a/\A_ H a i v H'/\Q H')\/∃a b kvs k,o=.ref a/\i=.ref b/\mj K H a kvs/\k.dep<=5/\fU K H k (.ref b)/\kvs.length < sizeLine/\Q (upd H a (pb a (il kvs k b v)))
theorem BM(hu:X.A.units+64 < cLine):pL X (JX X.K):=by
 intro pins s σ H o i v ov iv u Q I ro ri rv h;rcases h with⟨a,H',rfl,g,q⟩|⟨a,b,kvs,k,rfl,rfl,d,hk,pS,hl,q⟩
 ·cases(show ov=Value.ref a from ro);exact xc (by omega) I g ri rv λ s3 I3=>⟨H',I3,q⟩
 ·cases(show ov=Value.ref a from ro);cases(show iv=Value.ref b from ri);exact vY hu I d hk pS hl rv λ s3 I3=>⟨_,I3,q⟩
theorem tO:cQ X (.builtin "len") (λ xs H Q=>∃a,xs=[.ref a]/\((∃kvs,H a=some (.dK kvs)/\Q (.int kvs.length) H)\/∃kvs,H a=some (pb a kvs)/\Q (.int kvs.length) H)):=by
 intro pins s σ H xs us Q I r h;obtain⟨a,rfl,h⟩:=h;obtain⟨u,rfl,ru⟩:=vals1 r;cases(show u=Value.ref a from ru);rcases h with⟨kvs,e,q⟩|⟨kvs,e,q⟩
 ·exact Le I (.inl e) λ t s' I'=>⟨.int kvs.length,H,I',⟨t,rfl⟩,q⟩
 ·exact Jv I e λ t s' I'=>⟨.int kvs.length,H,I',⟨t,rfl⟩,q⟩
end
end L2
namespace L3
open PySem PySem.Spec L2 L5 PyProof.Rows
noncomputable instance Sz:DecidableEq D:=λ a b=>Classical.propDecidable (a=b)
noncomputable def cO (kvs:List (D×D))(k:D):Option D:=(kvs.find? λ p=>decide (p.1=k)).map (·.2)
noncomputable def putD (kvs:List (D×D))(k v:D):List (D×D):=if(cO kvs k).isSome=true then kvs.map (λ p=>if p.1=k then(p.1,v)else p)else kvs++[(k,v)]
def fe(t:Bool)(x:D):Prop:=match t with
 |false=>∃k:Key,x=fj k
 |true=>∃ks:List IK,x=mq (.t ks)/\(IK.t ks).dep<=5
def xy(K:C0)(H:Hp):Option D->Option V->Prop
 |none,none=>True
 |some d,some v=>Dat K H d v
 |_,_=>False
section
variable {K:C0}{H:Hp}
theorem Ba.look {kvs:List (D×D)}{xs:List (Key×V)}(h:Ba K H kvs xs)(k:Key):xy K H (cO kvs (fj k)) (eR xs k):=by
 induction h with
 |nil=>exact True.intro
 |@cons p q ps qs iB t ih=>
  obtain⟨h1,h2⟩:=iB;unfold cO eR at ih ⊢;by_cases e:q.1=k
  ·have e':p.1=fj k:=by rw[h1,e]
   simp only[r6,x8 e,x8 e',Option.map_some];exact h2
  ·have e':¬p.1=fj k:=λ z=>e (qL (h1.symm.trans z));simp only[r6,r9 e,r9 e'];exact ih
theorem xx.look {kvs:List (D×D)}{xs:List eM}(h:xx K H kvs xs)(k:IK):xy K H (cO kvs (mq k)) (hX xs k):=by
 induction h with
 |nil=>exact True.intro
 |@cons p q ps qs iB t ih=>
  obtain⟨h1,_,_,h2⟩:=iB;unfold cO hX at ih ⊢;by_cases e:q.1=k
  ·have e':p.1=mq k:=by rw[h1,e]
   simp only[r6,x8 e,x8 e',Option.map_some];exact h2
  ·have e':¬p.1=mq k:=λ z=>e (oU (h1.symm.trans z));simp only[r6,r9 e,r9 e'];exact ih
theorem xy.isSome {o:Option D}{u:Option V}(h:xy K H o u):o.isSome=u.isSome:=by
 cases o with
 |none=>cases u with
  |none=>rfl
  |some _=>exact(show False from h).elim
 |some _=>cases u with
  |none=>exact(show False from h).elim
  |some _=>rfl
theorem xy.some_of {d:D}{u:Option V}(h:xy K H (some d) u):∃v,u=some v/\Dat K H d v:=by
 cases u with
 |none=>exact(show False from h).elim
 |some v=>exact⟨v,rfl,h⟩
theorem xx.keys {a:Addr}{kvs:List (D×D)}{xs:List eM}(h:xx K H kvs xs)(e:H a=some (pb a xs)):mj K H a xs:=by
 refine⟨e,?_⟩;clear e
 induction h with
 |nil=>intro p hp;cases hp
 |@cons p q ps qs iB t ih=>
  intro x hx;rcases y8.mp hx with rfl|hx
  ·obtain⟨h1,h2,h3,_⟩:=iB;rw[h1]at h3;exact⟨h2,jq _ h3⟩
  ·exact ih x hx
theorem yO(xs:List (Key×V))(k:Key)(v:V):putK xs k v=if(eR xs k).isSome=true then xs.map (λ kv=>if kv.1=k then(kv.1,v)else kv)else xs++[(k,v)]:=by unfold putK;rw[kU]
theorem Ba.put {kvs:List (D×D)}{xs:List (Key×V)}(h:Ba K H kvs xs)(k:Key){d:D}{v:V}(hd:Dat K H d v):Ba K H (putD kvs (fj k) d) (putK xs k v):=by
 rw[yO];unfold putD;rw[(h.look k).isSome];by_cases e:(eR xs k).isSome=true
 ·rw[B8 e,B8 e];clear e
  induction h with
  |nil=>exact .nil
  |@cons p q ps qs iB t ih=>
   rw[y7,y7];refine .cons ?_ ih;obtain⟨h1,h2⟩:=iB;by_cases e:q.1=k
   ·rw[B8 e,B8 (by rw[h1,e])];exact⟨h1,hd⟩
   ·rw[B9 e,B9 (λ z=>e (qL (h1.symm.trans z)))];exact⟨h1,h2⟩
 ·rw[B9 e,B9 e];exact Paired.snoc h ⟨rfl,hd⟩
theorem xx.put {kvs:List (D×D)}{xs:List eM}(h:xx K H kvs xs)(k:IK){b:Addr}{d:D}{v:V}(hk:k.dep<=5)(hb:Dat K H (mq k) (.ref b))(hd:Dat K H d v):xx K H (putD kvs (mq k) d) (il xs k b v):=by
 unfold putD il;rw[(h.look k).isSome];by_cases e:(hX xs k).isSome=true
 ·rw[B8 e,B8 e];clear e
  induction h with
  |nil=>exact .nil
  |@cons p q ps qs iB t ih=>
   rw[y7,y7];refine .cons ?_ ih;obtain⟨h1,h2,h3,h4⟩:=iB;by_cases e:q.1=k
   ·rw[B8 e,B8 (by rw[h1,e])];exact⟨h1,h2,h3,hd⟩
   ·rw[B9 e,B9 (λ z=>e (oU (h1.symm.trans z)))];exact⟨h1,h2,h3,h4⟩
 ·rw[B9 e,B9 e];exact Paired.snoc h ⟨rfl,hk,hb,hd⟩
end
section
variable {X:Cx}
def Ll(neg:Bool):fb:=λ x y M Q=>∃a t kvs,y=.ref a/\M a=some (.cE t kvs)/\fe t x/\Q (.bl (if neg then !(cO kvs x).isSome else(cO kvs x).isSome)) M
theorem jZ{K:C0}{H:Hp}{ks:List IK}{v:V}(h:Dat K H (mq (.t ks)) v):∃b,v=.ref b:=by unfold mq at h;obtain⟨p,xs,rfl,_⟩:=aQ.mp h;exact⟨p,rfl⟩
theorem Hb(neg:Bool)(hu:X.A.units+64 < cLine):eW X (compareOp (if neg then .NotIn else .In)) (Ll neg):=⟨_,Dc neg hu,λ x y d e H M Q2 Q hd he hm q k=>by
 obtain⟨a,t,kvs,rfl,hM,ok,q⟩:=q;cases(aA.mp he);have hr:=hm a _ hM;cases t with
 |false=>obtain⟨xs,hx,rel⟩:=hr;obtain⟨kk,rfl⟩:=ok;rw[iI hd];refine .inl ⟨a,_,rfl,mQ.k hx,k _ H _ M (aP.mpr rfl) hm (ak.refl H) ?_⟩;rw[<- (rel.look kk).isSome];exact q
 |true=>
  obtain⟨xs,hx,rel⟩:=hr;obtain⟨ks,rfl,iD⟩:=ok;obtain⟨b,rfl⟩:=jZ hd;refine .inr ⟨a,b,xs,_,rfl,rfl,rel.keys hx,iD,jq _ hd,k _ H _ M (aP.mpr rfl) hm (ak.refl H) ?_⟩;rw[<- (rel.look _).isSome];exact q⟩
def vi:fb:=λ x y M Q=>kr x y M Q\/Ll true x y M Q
theorem zq(hu:X.A.units+64 < cLine):eW X (compareOp .NotIn) vi:=(fN hu).or (Hb true hu)
def Lm:fb:=λ x y M Q=>∃a t kvs d,x=.ref a/\M a=some (.cE t kvs)/\fe t y/\cO kvs y=some d/\Q d M
def Im:fb:=λ x y M Q=>Ji x y M Q\/Lm x y M Q
theorem hW(hu:X.A.units+64 < cLine):LC X Im:=by
 obtain⟨r,h1,h2⟩:=(L3.aV:LC X Ji);refine⟨_,h1.or (HB hu),λ x y d e H M Q2 Q hd he hm q k=>?_⟩;rcases q with q|⟨a,t,kvs,w,rfl,hM,ok,hl,q⟩
 ·exact .inl (h2 x y d e H M Q2 Q hd he hm q k)
 ·cases(aA.mp hd);have hr:=hm a _ hM;cases t with
  |false=>obtain⟨xs,hx,rel⟩:=hr;obtain⟨kk,rfl⟩:=ok;have hv:=rel.look kk;rw[hl]at hv;obtain⟨v,e1,e2⟩:=hv.some_of;rw[iI he];exact .inr (.inl ⟨a,v,rfl,by rw[<- e1];exact mQ.k hx,k _ H _ M e2 hm (ak.refl H) q⟩)
  |true=>obtain⟨xs,hx,rel⟩:=hr;obtain⟨ks,rfl,iD⟩:=ok;have hv:=rel.look (.t ks);rw[hl]at hv;obtain⟨v,e1,e2⟩:=hv.some_of;obtain⟨b,rfl⟩:=jZ he;exact .inr (.inr ⟨a,b,xs,_,v,rfl,rfl,rel.keys hx,iD,jq _ he,e1,k _ H _ M e2 hm (ak.refl H) q⟩)
def Lk:iK:=λ o i v M N=>∃a t kvs,o=.ref a/\M a=some (.cE t kvs)/\fe t i/\kvs.length < sizeLine/\N (ah M a (.cE t (putD kvs i v)))
def EG:iK:=λ o i v M N=>DV o i v M N\/Lk o i v M N
theorem pL.or {t u:xr}(h:pL X t)(g:pL X u):pL X (λ o i v H Q=>t o i v H Q\/u o i v H Q):=by
 intro pins s σ H o i v ov iv uu Q I ro ri rv q;rcases q with q|q
 ·exact h pins s σ H o i v ov iv uu Q I ro ri rv q
 ·exact g pins s σ H o i v ov iv uu Q I ro ri rv q
theorem Fe(hu:X.A.units+64 < cLine):AX X EG:=by
 obtain⟨r,h1,h2⟩:=(jA:AX X DV);refine⟨_,pL.or h1 (BM hu),λ o i v d j e H M Q2 Q hd hj he hm q k=>?_⟩;rcases q with q|⟨a,t,kvs,rfl,hM,ok,hl,q⟩
 ·exact .inl (h2 o i v d j e H M Q2 Q hd hj he hm q k)
 ·cases(aA.mp hd);have hr:=hm a _ hM;cases t with
  |false=>obtain⟨xs,hx,rel⟩:=hr;obtain⟨kk,rfl⟩:=ok;rw[iI hj];have t:=ak.mut (o:=.dK (putK xs kk v)) hx (λ _ z=>by cases z) (λ _ _ z=>by cases z);refine .inr (.inl ⟨a,_,rfl,A_.k hx (by rw[<- y4 rel];exact hl),k _ _ (hm.put (u:=.cE false (putD kvs (fj kk) e)) t ⟨_,aG,(rel.put kk he).mono t⟩) t q⟩)
  |true=>obtain⟨xs,hx,rel⟩:=hr;obtain⟨ks,rfl,iD⟩:=ok;obtain⟨b,rfl⟩:=jZ hj;have t:=ak.mut (o:=pb a (il xs (.t ks) b v)) hx (λ _ z=>by cases z) (λ _ _ z=>by cases z);refine .inr (.inr ⟨a,b,xs,_,rfl,rfl,rel.keys hx,iD,jq _ hj,by rw[<- y4 rel];exact hl,k _ _ (hm.put (u:=.cE true (putD kvs (mq (.t ks)) e)) t ⟨_,aG,(rel.put (.t ks) iD hj he).mono t⟩) t q⟩)
def AH:List D->Mem->bD->Prop:=λ xs M Q=>xg xs M Q\/∃a t kvs,xs=[.ref a]/\M a=some (.cE t kvs)/\Q (.int (kvs.length:Nat)) M
theorem jz:cY X (.builtin "len") AH:=by
 obtain⟨r,h1,h2⟩:=(L3.bV:cY X (.builtin "len") xg);refine⟨_,h1.or tO,λ xs ds H M Q2 Q hd hm q k=>?_⟩;rcases q with q|⟨a,t,kvs,rfl,hM,q⟩
 ·exact .inl (h2 xs ds H M Q2 Q hd hm q k)
 ·obtain⟨x,r,rfl,hx,hr⟩:=ag.mp hd;cases(aj.mp hr);cases(aA.mp hx);have hr:=hm a _ hM;cases t with
  |false=>obtain⟨xs,hx,rel⟩:=hr;exact .inr ⟨a,rfl,.inl ⟨xs,hx,by rw[<- y4 rel];exact k _ H _ M (ar.mpr rfl) hm (ak.refl H) q⟩⟩
  |true=>obtain⟨xs,hx,rel⟩:=hr;exact .inr ⟨a,rfl,.inr ⟨xs,hx,by rw[<- y4 rel];exact k _ H _ M (ar.mpr rfl) hm (ak.refl H) q⟩⟩
def Ek(t:Bool):bT:=λ _ M Q=>∀p,M p=none->Q (.ref p) (ah M p (.cE t []))
theorem Gp(t:Bool){pos:Pos}:QE X (.Dict [] [] pos) (Ek t):=by
 cases t with
 |false=>refine bF yZ λ σ H Q ⟨δ,M,Q2,hs,hm,q,k⟩ p hp=>?_;exact k _ _ (.ref p) _ (aA.mpr rfl) (hm.put (u:=.cE false []) (ak.laid hp) ⟨[],aG,.nil⟩) (ak.laid hp) (q p (hm.free hp))
 |true=>refine bF y_ λ σ H Q ⟨δ,M,Q2,hs,hm,q,k⟩ p hp=>?_;exact k _ _ (.ref p) _ (aA.mpr rfl) (hm.put (u:=.cE true []) (ak.laid hp) ⟨[],aG,.nil⟩) (ak.laid hp) (q p (hm.free hp))
end
end L3
namespace L4
open PySem PySem.Spec L2 L3 L5
theorem EX{X:Cx}(t:Bool){pos:Pos}:WE X (.Dict [] [] pos) (Ek t):=⟨Gp t⟩
end L4
namespace L2
open PySem PySem.Spec PySem.W PyProof.Rows L5
section
variable {X:Cx}
theorem za{k v:Expr}{tk tv:TE}{pos:Pos}(hu:X.A.units+64 < cLine)(hk:PE X k tk)(hv:PE X v tv):PE X (.Dict [some k] [v] pos) (λ σ H Q=>∀p,H p=none->tk σ (upd H p (pb p [])) λ x H1=>tv σ H1 λ y H2=>∃b ik,x=.ref b/\H2 p=some (pb p [])/\ik.dep<=5/\fU X.K H2 ik (.ref b)/\Q (.ref p) (upd H2 p (pb p (il [] ik b y)))):=by
 intro pins s σ H Q I h;refine wpAny_Dict_any rfl rfl (by simp) (by simp) ?_;have I0:=I.laid (a:=s.heap.objs.size) (o:=pb s.heap.objs.size []) (t':=s.toks) (λ _ _ q=>i5 _ q) (A6 _) (pd (u_ s.heap I.big));refine pairTrees_cons_walk (cG (hk pins _ σ _ _ I0 (h _ (I.aZ.fresh (A6 _)))) λ kv s1 ⟨x,H1,I1,r1,q1⟩=>cG (hv pins s1 σ H1 _ I1 q1) λ vv s2 ⟨y,H2,I2,r2,q2⟩=>pairTrees_nil_walk ?_);obtain⟨b,ik,rfl,hp,hd,pS,q⟩:=q2;cases(show kv=Value.ref b from r1);generalize s.heap.objs.size=p at*;obtain⟨z,nm,xs,rel,dd⟩:=mj.of I2 (kvs:=[]) ⟨hp,λ _ z=>by cases z⟩;cases rel;have rM:(il [] ik b y).length<=sizeLine:=by have:=qz [] ik b y;exact A2 this (by decide)
 unfold storeAll;rw[forIn_cons];refine B0 (B0 (wpAny_dictSet_heap (knd:=h_ X.prog X.w) (hsz:=A8 _) (show X.A.units+8 < cLine by omega) ⟨hd,lL I2 ik pS rfl⟩ dd λ h' ve hs=>B1 ?_));dsimp only;rw[forIn_nil];obtain⟨q',es,ep,hq,h2,h3,h4,_,h5⟩:=ve;exact B1 ⟨.ref p,_,gy I2 (by rw[hp];exact True.intro) hs ⟨q',hq⟩ (pd ⟨rM,nm,_,xB.put .nil ik r2,q',es,ep,hq,h2,h3,h4,h5⟩),rfl,q⟩
end
end L2
namespace L3
open PySem PySem.Spec L2 L5 PyProof.Rows
section
variable {X:Cx}
def Fn(tk tv:bT):bT:=λ δ M Q=>∀p,M p=none->tk δ (ah M p (.cE true [])) λ x M1=>tv δ M1 λ y M2=>M2 p=some (.cE true [])/\fe true x/\Q (.ref p) (ah M2 p (.cE true [(x,y)]))
theorem CL{k v:Expr}{tk tv:bT}{pos:Pos}(hu:X.A.units+64 < cLine)(hk:QE X k tk)(hv:QE X v tv):QE X (.Dict [some k] [v] pos) (Fn tk tv):=by refine bF (za hu hk hv) ?_;rintro σ H Q ⟨δ,M,Q2,hs,hm,q,k⟩ p hp;have t0:ak H (upd H p (pb p [])):=ak.laid hp;refine⟨δ,ah M p (.cE true []),_,hs.mono t0,hm.put (u:=.cE true []) t0 ⟨[],aG,.nil⟩,q p (hm.free hp),λ x H1 d M1 hd bP t1 q1=>?_⟩;refine⟨δ,M1,_,(hs.mono t0).mono t1,bP,q1,λ y H2 e M2 he jC t2 q2=>?_⟩;obtain⟨eB,⟨ks,rfl,iD⟩,q2⟩:=q2;have hd2:=Dat.mono t2 _ hd;obtain⟨b,rfl⟩:=jZ hd2;obtain⟨xs,hx,rel⟩:=jC p _ eB;cases rel;have t:=ak.mut (o:=pb p (il [] (.t ks) b y)) hx (λ _ z=>by cases z) (λ _ _ z=>by cases z);exact⟨b,.t ks,rfl,hx,iD,jq _ hd2,k _ _ _ _ (aA.mpr rfl) (jC.put (u:=.cE true [(mq (.t ks),e)]) t ⟨_,aG,((xx.put (kvs:=[]) .nil (.t ks) iD hd2 he):xx X.K H2 [(mq (.t ks),e)] (il [] (.t ks) b y)).mono t⟩) ((t0.trans t1).trans (t2.trans t)) q2⟩
end
section
variable {Q:bD}{M:Mem}{a:Addr}{kvs:List (D×D)}{x y v d:D}{t:Bool}{N:Mem->Prop}{xs:List D}
theorem wj(h:M a=some (.cE t kvs))(hk:fe t x)(q:Q (.bl (!(cO kvs x).isSome)) M):vi x (.ref a) M Q:=.inr ⟨a,t,kvs,rfl,h,hk,q⟩
theorem dZ(h:Ji x y M Q):Im x y M Q:=.inl h
theorem FH(h:M a=some (.cE t kvs))(hk:fe t x)(e:cO kvs x=some d)(q:Q d M):Im (.ref a) x M Q:=.inr ⟨a,t,kvs,d,rfl,h,hk,e,q⟩
theorem BS(h:M a=some (.cE t kvs))(hk:fe t x)(hl:kvs.length < sizeLine)(q:N (ah M a (.cE t (putD kvs x v)))):EG (.ref a) x v M N:=.inr ⟨a,t,kvs,rfl,h,hk,hl,q⟩
theorem Cb(h:M a=some (.cE t kvs))(q:Q (.int (kvs.length:Nat)) M):AH [.ref a] M Q:=.inr ⟨a,t,kvs,rfl,h,q⟩
theorem fK(h:xg xs M Q):AH xs M Q:=.inl h
end
end L3
namespace KK
open PySem L3 L4 L5
open L2 hiding aV ib
abbrev Row:=List Int
end KK
namespace KK
open PySem L3 L4 L5
open L2 hiding aV ib
theorem Ext.free {M M':Mem}(h:Ext M M'){p:Addr}(hp:M' p=none):M p=none:=by
 cases e:M p with
 |none=>rfl
 |some o=>rw[h p o e]at hp;cases hp
theorem Ext.trans {M M1 M2:Mem}(h:Ext M M1)(g:Ext M1 M2):Ext M M2:=λ b o e=>g b o (h b o e)
theorem Ext.new {M M':Mem}(h:Ext M M'){p:Addr}(hp:M' p=none)(x:MO):Ext M (ah M' p x):=NA h hp x
theorem bJ{M:Mem}{p q:Addr}{x:MO}(h:M p=some x)(g:M q=none):p≠q:=λ z=>by subst z;rw[h]at g;cases g
end KK
namespace KK
open PySem L3 L4 L5
open L2 hiding aV ib
theorem JJ{α:Type}{ds:List α}{X:Prop}(h:ds.length<=16)(q:X):ds.length<=sizeLine/\X:=⟨A2 h (by decide),q⟩
theorem qv{M:Mem}{Q:bD}(q:Q (.bl true) M):Io false .bf .bf M Q:=q
theorem uY{P:Program}{w:World}{K:C0}{mg:Str->Option Value}{base:Heap}{k:Nat}{f:Addr}{fd:FuncData}{ps:List Str}{sp:gK}(h:∀ds M Q,¬sp ds M Q):cu P w K mg base fh k f fd ps (cW K sp):=
 ⟨λ _ _ _ _ ⟨ds,M,Q,_,_,q,_⟩=>absurd q (h ds M Q),λ _ _ _ _ _ _ _ _ _ _ _ _ _ ⟨ds,M,Q,_,_,q,_⟩=>absurd q (h ds M Q)⟩
def OX:D->Prop
 | .bf=>True| .bl _=>True| .int _=>True| .str _=>True|_=>False
def xt(M:Mem):Nat->D->D->Prop
 |0,_,_=>False
 |k+1,x,y=>(x=y/\OX x)\/(∃ds es,x=.tup ds/\y=.tup es/\ds.length=es.length/\ds.length<=10000/\∀(i:Nat) (d e:D),ds[i]?=some d->es[i]?=some e->xt M k d e)\/
  ∃p q ds es,x=.ref p/\y=.ref q/\M p=some (.lst ds)/\M q=some (.lst es)/\ds.length=es.length/\ds.length<=10000/\∀(i:Nat) (d e:D),ds[i]?=some d->es[i]?=some e->xt M k d e
theorem ye(M:Mem)(k:Nat){r:List Int}(h:r.length<=10000):xt M (k+2) (row r) (row r):=
 .inr (.inl ⟨_,_,rfl,rfl,rfl,by rw[w6];exact h,λ i d e hd he=>by
  rw[hd]at he;cases he;obtain⟨x,_,rfl⟩:=A1.mp (j4 hd);exact .inl ⟨rfl,True.intro⟩⟩)
theorem yf{M:Mem}{k:Nat}{p q:Addr}{ds:List D}(hp:M p=some (.lst ds))(hq:M q=some (.lst ds))(hl:ds.length<=10000)(h:∀d∈ds,xt M k d d):xt M (k+1) (.ref p) (.ref q):=
 .inr (.inr ⟨p,q,ds,ds,rfl,rfl,hp,hq,rfl,hl,λ i d e hd he=>by
  rw[hd]at he;cases he;exact h d (j4 hd)⟩)
def yd(k:Nat):gK:=λ ds M Q=>∃x y,ds=[x,y]/\xt M k x y/\Q (.bl true) M
theorem BJ:∀ds M Q,¬yd 0 ds M Q:=λ ds M Q ⟨_,_,_,h,_⟩=>h
end KK
namespace KK
open PySem L3 L4 L5
open L2 hiding aV ib
theorem Bs(a:Nat):∀b:Nat,(a^^^b)+2*(a&&& b)=a+b:=by
 induction a using Nat.strongRecOn with
 |ind a ih=>
  intro b;by_cases h:a=0
  ·subst h;simp
  ·have h1:=ih (a / 2) (by omega) (b / 2);rw[<- Nat.xor_div_two,<- Nat.and_div_two]at h1;have x1:(a^^^b) % 2=1↔¬(a % 2=1↔b % 2=1):=Nat.xor_mod_two_eq_one;have x2:(a&&& b) % 2=1↔a % 2=1/\b % 2=1:=Nat.and_mod_two_eq_one;omega
theorem tP(a b:Nat):Builtin.bitXor (a:Int) (b:Int)=((a^^^b:Nat):Int):=by rw[PyProof.Rows.bitXor_and,PyProof.Rows.bitAnd_pp (by omega) (by omega)];have:=Bs a b;simp only[m9];omega
end KK
namespace KK
open PySem L3 L4 L5
open L2 hiding aV ib
structure Tb(m h:Nat)(rows:List Row):Prop where
 len:rows.length=m
 pos:0 < m
 dA:m<=300
 DM:h<=12
 row:∀r∈rows,r.length=h/\∀x∈r,0<=x/\x < (m:Int)
def cz(rows:List Row)(ls:Row):D:=.tup [.tup (rows.map row),row ls]
def dE(rows:List Row)(h x:Nat):Nat:=((rows.getD x []).getD h 0).toNat
theorem Tb.at {m h:Nat}{rows:List Row}(T:Tb m h rows){x i:Nat}(hx:x < m)(hi:i < h):(rows.getD x []).length=h/\(rows.getD x []).getD i 0=(dE rows i x:Int)/\dE rows i x < m:=by
 have sT:x < rows.length:=by rw[T.len];exact hx
 have e:rows.getD x []=rows[x]:=by rw[c3,c9 sT];rfl
 have hr:=T.row _ (p8 sT);unfold dE;rw[e];have Mi:i < (rows[x]).length:=by rw[hr.1];exact hi
 have e2:(rows[x]).getD i 0=(rows[x])[i]:=by rw[c3,c9 Mi];rfl
 have hb:=hr.2 _ (p8 Mi);rw[e2];exact⟨hr.1,by omega,by omega⟩
end KK
namespace L2
open PySem PySem.Spec PyProof.Rows
theorem vS{x:V}{xs:List V}{us:List Value}(r:Vals (x::xs) us):∃u ws,us=u::ws/\RelV x u/\Vals xs ws:=by
 cases r with
 |cons a b=>exact⟨_,_,rfl,a,b⟩
end L2
namespace L2
open PySem PySem.Spec PySem.W PySem.Calls PyProof.Rows L5
theorem zY:∀(vs:List Value) (ns:List Int),vs.length=ns.length->(∀(j:Nat) (v:Value) (n:Int),vs[j]?=some v->ns[j]?=some n->∃t:Tok,v=Value.int n t)->IntsAre vs ns
 |[],[],_,_=>.nil
 |[],_::_,h,_=>by cases h
 |_::_,[],h,_=>by cases h
 |v::vs,n::ns,h,k=>by obtain⟨t,rfl⟩:=k 0 v n rfl rfl;exact .cons n t (zY vs ns (by simpa using h) λ j v n a b=>k (j+1) v n (by simpa using a) (by simpa using b))
theorem qS{vs:List Value}{ns:List Int}(h:IntsAre vs ns):Vals (ns.map V.int) vs:=by
 induction h with
 |nil=>exact .nil
 |cons n t _ ih=>exact .cons ⟨t,rfl⟩ ih
theorem qT:∀{ns:List Int} {vs:List Value},Vals (ns.map V.int) vs->IntsAre vs ns
 |[],_,h=>by cases h;exact .nil
 |n::ns,_,h=>by obtain⟨u,us,rfl,ru,r⟩:=vS h;obtain⟨t,rfl⟩:=ru;exact .cons n t (qT r)
section
variable {X:Cx}
theorem rA(hc:X.calm=true):cQ X (.builtin "sorted") (λ xs H Q=>∃(a:Addr) (kvs:List (Key×V)) (ns:List Int),xs=[.ref a]/\H a=some (.dK kvs)/\kvs.map (·.1)=ns.map Sum.inl/\ns.length < 64/\∀(gQ:List Int) (p:Addr),gQ.Perm ns->gQ.Pairwise (·<=·)->H p=none->Q (.ref p) (upd H p (.lst (gQ.map V.int)))):=by
 intro pins s σ H xs us Q I r ⟨a,kvs,ns,e,hd,hk,Jf,q⟩;subst e;obtain⟨u,rfl,rx⟩:=vals1 r;cases(show u=Value.ref a from rx);obtain⟨z,nm,vs,rel,dd⟩:=va I.aZ hd;obtain⟨ep,HY⟩:=dd.dictAt;have len:vs.length=ns.length:=by rw[<- y4 rel];have:=B6 List.length hk;simpa using this
 refine call_function_entry kind_sorted plain_sorted entry_sorted (args_sorted1 _) ?_;unfold Builtin.«sorted»;refine B0 (m:=checkCount "sorted" 1 1 _) (B1 (B0 (kdu_collect (A:=X.A.in1) (kdl_dict (knd:=cj X.prog X.w) (kvs:=vs) (ep:=ep) nm) (show X.A.in1.handled=none from I.ok.hd hc) HY (by rw[A7];omega) λ h' tk acc RH sY=>?_)));have hl:acc.toList.length=ns.length:=by rw[j9,sY.1,len]
 have keys:vs.map (·.1)=ns.map Sum.inl:=by
  rw[<- hk];clear hk hd HY dd sY len q z
  induction rel with
  |nil=>rfl
  |cons p _ ih=>rw[y7,y7,ih,p.1]
 have hI:IntsAre acc.toList ns:=zY _ _ hl λ j v n a b=>by
  obtain⟨k,x,e1,e2⟩:=sY.2 j v (by rw[<- Array.getElem?_toList];exact a);have e3:k=Sum.inl n:=by have:=B6 (λ l=>l[j]?) keys;simp only[m8,e1,b,Option.map_some,Option.some.injEq]at this;exact this
  subst e3;rcases bG (show lN (Sum.inl n) v=true from e2)with⟨i,t,h1,rfl⟩|⟨x,t,h1,rfl⟩
  ·cases h1;exact⟨t,rfl⟩
  ·cases h1
 refine B0 (wpAny_newList ?_ (by rw[hl,A7];omega));have KR:(h'.push (seqObj "list" acc.toList.toArray 0)).get? h'.objs.size=some (seqObj "list" acc.toList.toArray 0):=k4 _ rfl;refine B0 (y3 (p6 slot_list_sort ⟨_,KR,rfl⟩ entry_list_sort (list_sort_tree KR hI (by omega) λ out gQ a1 a2 a3=>⟨_,rfl,?_⟩) (args_list_sort _)));refine B1 ⟨_,rfl,?_⟩;obtain⟨c,Je⟩:=sortedHeap_at (out:=out) KR;have I0:Inv X pins σ H {s with heap:=h',toks:=tk}:=I.kept (t':=tk) RH;have kp:∀b o,h'.get? b=some o->(sortedHeap (h'.push (seqObj "list" acc.toList.toArray 0)) h'.objs.size acc.toList out).get? b=some o:=λ b o e=>by rw[sortedHeap_old (z9 (A0 e)) (by rw[size_push'];exact o8 (A0 e))];exact i5 _ e
 exact⟨.ref h'.objs.size,_,I0.laid (t':=tk) kp (A6 _) (show bp X.prog X.w _ _ _ (.lst (gQ.map V.int))from⟨by rw[w6,a2.length_eq,A7];omega,out.toList,c,qS a1,by rw[Array.toArray_toList];exact Je⟩),rfl,q gQ _ a2 a3 (I0.aZ.fresh (A6 _))⟩
theorem rz:cQ X (.builtin "sorted") (λ xs H Q=>∃(a:Addr) (ns:List Int),xs=[.ref a]/\eA X.K H a (ns.map V.int)/\ns.length < 64/\∀(gQ:List Int) (p:Addr),gQ.Perm ns->gQ.Pairwise (·<=·)->H p=none->Q (.ref p) (upd H p (.lst (gQ.map V.int)))):=by intro pins s σ H xs us Q I r ⟨a,ns,e,hq,Jf,q⟩;subst e;obtain⟨u,rfl,rx⟩:=vals1 r;cases(show u=Value.ref a from rx);obtain⟨aw,r',pl,hz⟩:=I.list hq;have hI:=qT r';have hl:=r'.length;rw[w6]at hl;refine sorted_ints pl.isList hI (by omega) λ out gQ a1 a2 a3=>?_;obtain⟨c,Je⟩:=sortedAll_at s.heap aw out;exact⟨.ref (s.heap.objs.size+1),_,I.laid (t':=s.toks) (λ _ _=>sortedAll_old) (Nat.le_succ _) (show bp X.prog X.w _ _ _ (.lst (gQ.map V.int))from⟨by rw[w6,a2.length_eq,A7];omega,out.toList,c,qS a1,by rw[Array.toArray_toList];exact Je⟩),rfl,q gQ _ a2 a3 (I.aZ.fresh (Nat.le_succ _))⟩
end
end L2
namespace L3
open PySem PySem.Spec L2 L5 PyProof.Rows
def AF:List D->Mem->bD->Prop:=λ xs M Q=>∃(a:Addr) (ns:List Int),xs=[.ref a]/\((∃kvs,M a=some (.cE false kvs)/\kvs.map (·.1)=ns.map D.int)\/M a=some (.lst (ns.map D.int)))/\ns.length < 64/\∀(gQ:List Int) (p:Addr),gQ.Perm ns->gQ.Pairwise (·<=·)->M p=none->Q (.ref p) (ah M p (.lst (gQ.map D.int)))
theorem nA:∀{xs:List Key} {ns:List Int},xs.map fj=ns.map D.int->xs=ns.map Sum.inl
 |[],[],_=>rfl
 |[],_::_,h=>by cases h
 |_::_,[],h=>by cases h
 |x::xs,n::ns,h=>by
  rw[y7,y7,List.cons.injEq]at h;rw[y7,nA h.2];cases x with
  |inl i=>have:=h.1;simp only[fj,D.int.injEq]at this;rw[this]
  |inr i=>have:=h.1;simp[fj]at this
theorem D4{X:Cx}(hc:X.calm=true):cY X (.builtin "sorted") AF:=⟨_,(rA hc).or rz,λ xs ds H M Q2 Q hd hm q k=>by
 obtain⟨a,ns,rfl,hs,Jf,q⟩:=q;obtain⟨x,r,rfl,hx,hr⟩:=ag.mp hd;cases(aj.mp hr);cases(aA.mp hx);have fin:∀(gQ:List Int) (p:Addr),gQ.Perm ns->gQ.Pairwise (·<=·)->H p=none->Q (.ref p) (upd H p (.lst (gQ.map V.int))):=λ gQ p a1 a2 hp=>k _ _ (.ref p) _ (aA.mpr rfl) (dG hp (jo gQ) hm) (ak.laid hp) (q gQ p a1 a2 (hm.free hp));rcases hs with⟨kvs,hM,hk⟩|hM
 ·obtain⟨ys,hy,rel⟩:=hm a _ hM;refine .inl ⟨a,ys,ns,rfl,hy,?_,Jf,fin⟩;refine nA ?_;rw[<- hk];clear hk hy hM q fin
  induction rel with
  |nil=>rfl
  |cons p _ ih=>rw[y7,y7,y7,ih,p.1]
 ·obtain⟨ys,hy,Ml⟩:=hm a _ hM;rw[lZ Ml]at hy;exact .inr ⟨a,ns,rfl,eA.of hy,Jf,fin⟩⟩
theorem we{M:Mem}{a:Addr}{Q:bD}(ns:List Int)(h:M a=some (.lst (ns.map D.int)))(Jf:ns.length < 64)(q:∀(gQ:List Int) (p:Addr),gQ.Perm ns->gQ.Pairwise (·<=·)->M p=none->Q (.ref p) (ah M p (.lst (gQ.map D.int)))):AF [.ref a] M Q:=⟨a,ns,rfl,.inr h,Jf,q⟩
end L3
namespace L2
open PySem PySem.Spec PyProof.Rows
def Mz(lo:Int)(n:Nat):It:=⟨λ i _=>i < n,λ i H x H'=>H'=H/\x=.int (lo - i),λ i _=>n<=i⟩
theorem vV{P:Program}{w:World}{K:C0}{tg:Expr}(it:Addr)(lo:Int)(n:Nat):Turn P w K tg (Mz lo n) [it] it (λ i h=>IsRangeIter h it (lo+(i:Nat)*(-1)) ((n:Int) - (i:Nat)) (-1)) where
 mem:=by simp
 obj:=λ i h st b hb=>by
  have e:b=it:=by simpa using hb
  subst e;exact⟨_,st,λ v z=>by
   have z':Data.fields _=Data.cell v:=z;cases z'⟩
 keep:=λ i h h' st k=>k it (by simp) _ st
 item:=by intro X hP hw hK hc i pins s σ H E I hf st hg;subst hP hw hK;obtain⟨f0,f1,f2,f3,f4,f5⟩:=hf it (by simp);have W:=Walks.range (prog:=X.prog) (w:=X.w) (I.ok.hd hc) it lo (-1) n;refine W.item i s _ _ hg st λ v h' tk hv ue kk=>?_;obtain⟨t,rfl⟩:=hv;have I1:Inv X pins σ H {s with heap:=h',toks:=tk}:=I.turned (λ b o hb e=>kk b o (by simpa using hb) e) f0 f1 f3 f4 f5;refine⟨_,rfl,qV (s:={s with heap:=h',toks:=tk}) (n:="range_iterator") ue rfl rfl (by decide) ⟨.int (lo - i),H,I1,⟨t,?_⟩,⟨rfl,rfl⟩,ue,λ b hb=>(hf b hb).1⟩⟩;rw[Int.mul_neg,Int.mul_one,<- Int.sub_eq_add_neg]
 done:=by intro X hP hw hK hc i pins s σ H E I hf st hg;subst hP hw hK;obtain⟨f0,f1,f2,f3,f4,f5⟩:=hf it (by simp);exact wpAny_pyNext_range_end (I.ok.hd hc) st (by have:n<=i:=hg;omega) λ h' eb=>⟨rfl,I.turned (t':=s.toks) (λ b o hb e=>eb b o hb e) f0 f1 f3 f4 f5⟩
 self:=λ _ _ _ _ _ st h=>wpAny_pyIter_rangeiter st h
section
variable {X:Cx}{tg:Expr}
theorem nj(a b:Int):Builtin.Range.rangeSize a b (-1)=((a - b).toNat:Int):=by unfold Builtin.Range.rangeSize;rw[B9 (by decide)];simp only[Int.neg_neg,Int.ediv_one];split <;> omega
theorem small_down{a b:Int}(ha: -(2^62)<=a)(Ti:a < 2^62)(hb: -(2^62)<=b)(Th:b < 2^62):Builtin.Range.small a b (-1)=true:=by
 unfold Builtin.Range.small;rw[nj];have e:(((a - b).toNat:Nat):Int)=if a - b<=0 then 0 else a - b:=by split <;> omega
 rw[e];simp only[Builtin.Range.rangeFitsLong,p7,Bool.or_eq_true,decide_eq_true_eq,beq_iff_eq,show ¬(-1:Int) > 0 by decide,B5];split <;> omega
theorem DR{pins:List (Addr×Obj)}{σ:St}{H:Hp}{s:Shared}{R:It->Hp->Prop}{E:Value->Shared->Prop}{lo hi:Int}{t u v:Tok}{tk:Nat}(I:Inv X pins σ H s)(h1: -(2^62)<=lo)(h2:lo < 2^62)(h3: -(2^62)<=hi)(h4:hi < 2^62) (q:R (Mz lo (lo - hi).toNat) H):wpAny (model X.prog X.w) X.A (pyIter (.ref s.heap.objs.size)) (OW X pins σ tg R) E {s with heap:=s.heap.push {cls:=.type "range",data:=.fields #[.int lo t,.int hi u,.int (-1) v]},toks:=tk}:=by
 refine wpAny_pyIter_range (IsRange.new ..) (small_down h1 h2 h3 h4) ?_;have I1:Inv X pins σ H {s with heap:=s.heap.push {cls:=.type "range",data:=.fields #[.int lo t,.int hi u,.int (-1) v]},toks:=tk}:=I.kept λ b o e=>i5 _ e;refine⟨(s.heap.push {cls:=.type "range",data:=.fields #[.int lo t,.int hi u,.int (-1) v]}).objs.size,[(s.heap.push {cls:=.type "range",data:=.fields #[.int lo t,.int hi u,.int (-1) v]}).objs.size],_,_,H,rfl,
  I1.kept (t':=tk) λ b o e=>i5 _ e,vV _ lo (lo - hi).toNat,?_,λ b hb=>?_,q⟩
 ·have e1:lo+((0:Nat):Int)*(-1)=lo:=by simp
  have e2:(((lo - hi).toNat:Nat):Int) - ((0:Nat):Int)=Builtin.Range.rangeSize lo hi (-1):=by rw[nj];omega
  show IsRangeIter _ _ (lo+((0:Nat):Int)*(-1)) ((((lo - hi).toNat:Nat):Int) - ((0:Nat):Int)) (-1);rw[e1,e2];exact k4 _ rfl
 ·have e:b=(s.heap.push {cls:=.type "range",data:=.fields #[.int lo t,.int hi u,.int (-1) v]}).objs.size:=by simpa using hb
  subst e;exact I1.jk (A6 _) (I1.aZ.fresh (A6 _))
def KH(ta:TA):TI:=λ σ H R=>ta σ H λ vs H1=>∃i j:Int,vs=[.int i,.int j,.int (-1)]/\(-1000000000<=i/\i<=1000000000/\-1000000000<=j/\j<=1000000000)/\R (Mz i (i - j).toNat) H1
theorem C6{a b c:Expr}{ta:TA}{p pos:Pos}(hg:Gl X "range")(hm:X.mg "range"=none)(ha:PA X [a,b,c] ta)(hs:starEach [a,b,c] X.env=[(false,eval a X.env),(false,eval b X.env),(false,eval c X.env)]:=by rfl)(hs2:starEach [b,c] X.env=[(false,eval b X.env),(false,eval c X.env)]:=by rfl):PI X tg (.Call (.Name "range" p) [a,b,c] [] pos) (KH ta):=by
 intro pins s σ H R I h;refine Call_ (fT I hg hm boot_range (a7 (cG (ha pos pins s σ H _ I h) λ us s1 ⟨vs,H1,I1,r1,q1⟩=>?_) (by rw[hs,hs2]) (by rw[hs2];rfl)));obtain⟨i,j,e,⟨q1,q2,q3,q4⟩,q⟩:=q1;subst e;cases r1 with
 |cons r rr=>
  cases rr with
  |cons r' rr=>
   cases rr with
   |cons Nj rr=>cases rr;obtain⟨t,rfl⟩:=r;obtain⟨t',rfl⟩:=r';obtain⟨S0,rfl⟩:=Nj;exact call_range_3 (by decide) (DR I1 (by omega) (by omega) (by omega) (by omega) q) (Or.inl (PyProof.noPylong_small (by omega)))
end
end L2
namespace L3
open PySem PySem.Spec L2 L5 PyProof.Rows
def jD(lo:Int)(n:Nat):List D:=(List.range n).map λ i=>D.int (lo - (i:Nat))
theorem jn(lo:Int)(n:Nat):(jD lo n).length=n:=by simp[jD]
theorem nN{lo:Int}{n i:Nat}(h:i < n):(jD lo n)[i]?=some (.int (lo - (i:Nat))):=by simp[jD,h]
theorem Ay{lo:Int}{n i:Nat}{d:D}(h:(jD lo n)[i]?=some d):i < n/\d=.int (lo - (i:Nat)):=by
 have hi:i < n:=by have:=(c6.mp h).1;rw[jn]at this;exact this
 rw[nN hi]at h;exact⟨hi,(u6 h).symm⟩
theorem wR{K:C0}{H1:Hp}{lo:Int}{n:Nat}:pM K H1 (Mz lo n) (.fix (jD lo n)):=λ H M ds t hm e=>by cases e;rw[jn];refine⟨λ i hi=>hi,λ i hi=>A3 hi.symm,λ i x H' hi y=>?_⟩;obtain⟨e,rfl⟩:=y;subst e;exact⟨ak.refl _,hm,_,nN hi,ar.mpr rfl⟩
section
variable {X:Cx}{tg:Expr}{ta:dP}{a b c:Expr}{p pos:Pos}
def zK(ta:dP):nW:=λ δ M R=>ta δ M λ ds M1=>∃i j:Int,ds=[.int i,.int j,.int (-1)]/\(-1000000000<=i/\i<=1000000000/\-1000000000<=j/\j<=1000000000)/\R (.fix (jD i (i - j).toNat)) M1
theorem wo(hg:Gl X "range")(hm:X.mg "range"=none)(ha:QA X [a,b,c] ta)(hs:starEach [a,b,c] X.env=[(false,eval a X.env),(false,eval b X.env),(false,eval c X.env)]:=by rfl)(hs2:starEach [b,c] X.env=[(false,eval b X.env),(false,eval c X.env)]:=by rfl):QI X tg (.Call (.Name "range" p) [a,b,c] [] pos) (zK ta):=uE (C6 hg hm ha hs hs2) λ σ H R ⟨δ,M,R2,hs,hm,q,k⟩=>by refine⟨δ,M,_,hs,hm,q,λ xs H1 ds M1 hd bP t1 q1=>?_⟩;obtain⟨i,j,rfl,hb,q1⟩:=q1;obtain⟨x,r,rfl,hx,hr⟩:=ag.mp hd;obtain⟨y,r2,rfl,hy,jh⟩:=ag.mp hr;obtain⟨z,r3,rfl,hz,NX⟩:=ag.mp jh;cases(aj.mp NX);cases(ar.mp hx);cases(ar.mp hy);cases(ar.mp hz);exact⟨i,j,rfl,hb,k _ H1 _ M1 wR bP t1 q1⟩
end
end L3
namespace L4
open PySem PySem.Spec L2 L3
theorem vR{X:Cx}{tg:Expr}{ta:dP}{a b c:Expr}{p pos:Pos}(hg:Gl X "range")(hm:X.mg "range"=none)(ha:WA X [a,b,c] ta)(hs:starEach [a,b,c] X.env=[(false,eval a X.env),(false,eval b X.env),(false,eval c X.env)]:=by rfl)(hs2:starEach [b,c] X.env=[(false,eval b X.env),(false,eval c X.env)]:=by rfl):WI X tg (.Call (.Name "range" p) [a,b,c] [] pos) (zK ta):=⟨wo (hg:=hg) (hm:=hm) ha.h (hs:=hs) (hs2:=hs2)⟩
theorem Cj{ta:dP}{δ:cI}{M:Mem}{R:Src->Mem->Prop}(h:ta δ M λ ds M1=>∃i j:Int,ds=[.int i,.int j,.int (-1)]/\(-1000000000<=i/\i<=1000000000/\-1000000000<=j/\j<=1000000000)/\R (.fix (jD i (i - j).toNat)) M1):zK ta δ M R:=h
end L4
namespace L4
open PySem L2 L3
theorem Pf{A:Type}{P:List A->Prop}{n:Nat}(h:∀a t,t.length=n->P (a::t)):∀us:List A,us.length=n+1->P us
 |[],e=>nomatch e
 |a::t,e=>h a t (Nat.succ.inj e)
theorem Q5{A:Type}{P:List A->Prop}(h:∀a,P [a]):∀us:List A,us.length=1->P us:=Pf λ a t e=>by rw[a6 e];exact h a
theorem ln2{A:Type}{P:List A->Prop}(h:∀a b,P [a,b]):∀us:List A,us.length=2->P us:=Pf λ a=>Q5 (P:=λ t=>P (a::t)) (h a)
end L4
namespace L2
open PySem PySem.Spec PyProof.Rows
section
variable {X:Cx}
def so(lo:Int)(n:Nat):List V:=(List.range n).map λ(i:Nat)=>V.int (lo+(i:Int))
theorem wd{lo:Int}{n:Nat}{acc:Array Value}(h:ItemsOf (λ i v=>∃t,v=Value.int (lo+(i:Int)*1) t) acc n):Vals (so lo n) acc.toList:=by
 obtain⟨hl,hv⟩:=h;have go:∀(m:Nat) (vs:List Value) (k:Nat),vs.length=m->(∀j v,vs[j]?=some v->∃t,v=Value.int (lo+((k+j:Nat):Int)) t)->Vals ((List.range' k m).map λ(i:Nat)=>V.int (lo+(i:Int))) vs:=by
  intro m
  induction m with
  |zero=>intro vs k hl _;rw[a6 hl];exact .nil
  |succ m ih=>
   intro vs k hl hv;cases vs with
   |nil=>cases hl
   |cons v vs=>rw[range'_succ,y7];obtain⟨t,rfl⟩:=hv 0 v rfl;refine .cons ⟨t,by simp⟩ (ih vs (k+1) (by simpa using hl) λ j u hj=>?_);obtain⟨t,e⟩:=hv (j+1) u (by simpa using hj);refine⟨t,?_⟩;rw[e];congr 1;omega
 have:=go n acc.toList 0 (by simpa using hl) (λ j v hj=>by
  obtain⟨t,e⟩:=hv j v (by simpa using hj);refine⟨t,?_⟩;rw[e,Nat.zero_add,Int.mul_one])
 rw[<- range_eq_range']at this;exact this
theorem xi:cQ X (.type "range") (λ xs H Q=>∃i j:Int,xs=[.int i,.int j]/\∀r,H r=none->Q (.ref r) (upd H r (.Ft i j))):=by intro pins s σ H xs us Q I rr ⟨i,j,e,q⟩;subst e;obtain⟨u,u2,rfl,⟨t,rfl⟩,⟨t2,rfl⟩⟩:=vals2 rr;refine call_range_2 ⟨.ref s.heap.objs.size,_,I.laid (t':=s.toks+1) (o:=.Ft i j) (λ b o e=>i5 _ e) (A6 _) ⟨_,_,_,k4 _ rfl⟩,rfl,q _ (I.aZ.fresh (A6 _))⟩
end
end L2
namespace L3
open PySem PySem.Spec PyProof.Rows L2
section
variable {X:Cx}{a:Expr}{ta:dP}{p p2 pos fM:Pos}
theorem AB{K:C0}{H:Hp}(lo:Int)(n:Nat):ax K H (cF lo n) (so lo n):=by
 unfold cF so;generalize List.range n=l
 induction l with
 |nil=>exact aj.mpr rfl
 |cons x l ih=>exact ag.mpr ⟨_,_,rfl,ar.mpr rfl,ih⟩
end
end L3
namespace L2
open PySem PySem.Spec PyProof.Rows L5
open PySem.AutoSeq1 (wpAny_loadPart')
section
variable {prog:Program}{w:World}{A:Around}{E:Value->Shared->Prop}{s:Shared}{T1 T2:String}{S1 S2:Heap->Addr->Array Value->Prop}
theorem dY{M:Model}{a:Addr}{Q:Option Obj->Shared->Prop}(h:Q (s.heap.get? a) s):wpAny M A (loadIfAlive a) Q E s:=λ Γ p hΓ=>by unfold loadIfAlive;simp only[Sem.wp_loadIfAlive];exact B1 h Γ p hΓ
abbrev gc(h:Heap)(z u v r:Addr)(f1:Bool):Prop:=h.get? z=some {cls:=.type "zip",dict:=none,data:=.fields #[rawInt r,.bool f1,.bool false,.ref u,.ref v],slots:=#[]}
end
end L2
namespace L2
open PySem PySem.Spec PyProof.Rows L5
open PySem.AutoSeq1 (wpAny_loadPart')
theorem rP:typeLookup (.type "zip") "__len__"=pure none:=by rw[typeLookup_type,builtinLookup_eq_fast];kernel_rfl
theorem pW:typeLookup (.type "zip") "__length_hint__"=pure none:=by rw[typeLookup_type,builtinLookup_eq_fast];kernel_rfl
end L2
namespace L2
open PySem PySem.Spec PyProof.Rows L5
section
variable {X:Cx}{e1 e2:Expr}{ta:TA}{p p2 pos fM:Pos}
theorem qc:∀ps:List Addr,Vals (ps.map V.ref) (ps.map Value.ref)
 |[]=>.nil
 |p::ps=>.cons rfl (qc ps)
end
end L2
namespace L3
open PySem PySem.Spec PyProof.Rows L2 L5
theorem sh{K:C0}{H:Hp}{M:Mem}{d:D}{xs:List D}{v:V}(hm:RelM K H M)(e:cq M d=some xs)(hd:Dat K H d v):∃(b:Bool) (l:Addr) (xv:List V),v=.ref l/\Sq b K H l xv/\ax K H xs xv:=by
 obtain⟨p,xv,rfl,h1,h2⟩:=fG e hd hm;cases h1 with
 |inl h1=>exact⟨false,p,xv,rfl,h1,h2⟩
 |inr h1=>exact⟨true,p,xv,rfl,h1,h2⟩
end L3
namespace L5
open PySem L2
structure Sr where
 a:Addr
 l:Addr
 k:Bool
 xs:Array Value
def Sr.on (q:Sr)(h:Heap)(i:Nat):Prop:=match q.k with
 |true=>jS "tuple_iterator" h q.a q.l i/\Heap.IsTuple h q.l q.xs
 |false=>jS "list_iterator" h q.a q.l i/\Heap.IsList h q.l q.xs
theorem Sr.keep {q:Sr}{h h':Heap}{i:Nat}(x:q.on h i)(k1:∀o,h.get? q.a=some o->h'.get? q.a=some o)(k2:∀o,h.get? q.l=some o->h'.get? q.l=some o):q.on h' i:=by
 unfold Sr.on at x ⊢;split at x
 ·exact⟨x.1.keep k1,fR.keep x.2 k2⟩
 ·exact⟨x.1.keep k1,iw.keep x.2 k2⟩
structure Ap(qs:List Sr):Prop where
 nd:(qs.map (·.a)).Nodup
 la:∀q∈qs,∀r∈qs,q.l≠r.a
theorem Ap.tail {q:Sr}{qs:List Sr}(D:Ap (q::qs)):Ap qs:=⟨(nodup_cons.mp D.nd).2,λ a ha b hb=>D.la a (.tail _ ha) b (.tail _ hb)⟩
theorem Ap.ne {q r:Sr}{qs:List Sr}(D:Ap (q::qs))(h:r∈qs):r.a≠q.a:=λ e=>(nodup_cons.mp D.nd).1 (by show q.a∈_;rw[<- e];exact List.mem_map_of_mem (f:=λ x:Sr=>x.a) h)
abbrev rowAt(qs:List Sr)(i:Nat):List Value:=qs.map λ q=>q.xs.getD i .none
section
variable {prog:Program}{w:World}{A:Around}{E:Value->Shared->Prop}{s:Shared}{i:Nat}
set_option tactic.hygienic true in
theorem Sr.item {q:Sr}{Q:Value->Shared->Prop}(x:q.on s.heap i)(lt:i < q.xs.size)(n:q.l≠q.a) (k:∀h',q.on h' (i+1)->Heap.SameBut q.a s.heap h'->Q (q.xs.getD i .none) {s with heap:=h'}):wpAny (model prog w) A (Builtin.SmallTypes.nextOf (.ref q.a)) Q E s:=by
 have e:q.xs[i]?=some (q.xs.getD i .none):=by rw[c5 lt,Array.getD_eq_getD_getElem?,c5 lt];rfl
 unfold Sr.on at x;split at x
 ·rename_i hk;exact fR.item x.1 x.2 e λ h' a s'=>k h' (by unfold Sr.on;rw[hk];exact⟨a,fR.keep x.2 λ o e=>s'.extBut _ _ n e⟩) s'
 ·rename_i hk;exact iw.item x.1 x.2 e λ h' a s'=>k h' (by unfold Sr.on;rw[hk];exact⟨a,iw.keep x.2 λ o e=>s'.extBut _ _ n e⟩) s'
theorem Sr.stop {q:Sr}{Q:Value->Shared->Prop}(hA:A.handled=none)(x:q.on s.heap i)(ge:q.xs.size<=i) (k:∀h' e,Heap.ExtBut q.a s.heap h'->(∃o,h'.get? e=some o/\o.cls=.type "StopIteration")->E (.ref e) {s with heap:=h'}):wpAny (model prog w) A (Builtin.SmallTypes.nextOf (.ref q.a)) Q E s:=by
 have e:q.xs[i]?=none:=Array.getElem?_eq_none ge;unfold Sr.on at x;split at x
 ·exact fR.stop hA x.1 x.2 e k
 ·exact iw.stop hA x.1 x.2 e k
theorem qZ{σ:Type}{b:Value->σ->Sem (ForInStep σ)}{mk:Array Value->σ}(hb:∀(a:Addr) (acc:Array Value) (s:Shared) (Q:ForInStep σ->Shared->Prop),wpAny (model prog w) A (Builtin.SmallTypes.nextOf (.ref a)) (λ x s'=>Q (.yield (mk (acc.push x))) s') E s->wpAny (model prog w) A (b (.ref a) (mk acc)) Q E s):∀(qs:List Sr) (acc:Array Value) (s:Shared) (Q:σ->Shared->Prop),Ap qs->(∀q∈qs,q.on s.heap i)->(∀q∈qs,i < q.xs.size)->
   (∀h',(∀q∈qs,q.on h' (i+1))->h'.objs.size=s.heap.objs.size->(∀f o,(∀q∈qs,f≠q.a)->s.heap.get? f=some o->h'.get? f=some o)->Q (mk (acc++(rowAt qs i).toArray)) {s with heap:=h'})->
   wpAny (model prog w) A (forIn (qs.map λ q=>Value.ref q.a) (mk acc) b) Q E s
 |[],acc,s,Q,D,hq,lt,k=>by have:=k s.heap (λ q h=>nomatch h) rfl λ f o _ e=>e;simp only[rowAt,map_nil,Array.append_empty]at this;exact B1 this
 |q::qs,acc,s,Q,D,hq,lt,k=>by
  have nl:=D.la q (.head _) q (.head _);rw[y7,forIn_cons];refine B0 (hb _ _ _ _ (Sr.item (hq q (.head _)) (lt q (.head _)) nl λ h1 o1 s1=>?_));refine qZ hb qs _ _ _ D.tail (λ r hr=>Sr.keep (hq r (.tail _ hr)) (λ o e=>s1.extBut _ _ (D.ne hr) e) λ o e=>s1.extBut _ _ (D.la r (.tail _ hr) q (.head _)) e) (λ r hr=>lt r (.tail _ hr)) λ h2 o2 z2 k2=>?_;have:=k h2 (λ r hr=>?_) (z2.trans s1.1) λ f o nf e=>k2 f o (λ r hr=>nf r (.tail _ hr)) (s1.extBut _ _ (nf q (.head _)) e)
  ·rw[show acc.push (q.xs.getD i Value.none)++(rowAt qs i).toArray=acc++(rowAt (q::qs) i).toArray by simp[rowAt]];exact this
  ·rcases y8.mp hr with e|hr
   ·subst e;exact Sr.keep o1 (λ o e=>k2 _ o (λ t ht=>(D.ne ht).symm) e) λ o e=>k2 _ o (λ t ht=>D.la r (.head _) t (.tail _ ht)) e
   ·exact o2 r hr
theorem lW{σ:Type}{b:Value->σ->Sem (ForInStep σ)}{mk:Array Value->σ}(hb:∀(a:Addr) (acc:Array Value) (s:Shared) (Q:ForInStep σ->Shared->Prop),wpAny (model prog w) A (Builtin.SmallTypes.nextOf (.ref a)) (λ x s'=>Q (.yield (mk (acc.push x))) s') E s->wpAny (model prog w) A (b (.ref a) (mk acc)) Q E s)(hA:A.handled=none):∀(qs:List Sr) (acc:Array Value) (s:Shared) (Q:σ->Shared->Prop),Ap qs->(∀q∈qs,q.on s.heap i)->(∃q∈qs,q.xs.size<=i)->
   (∀h' e,(∀f o,(∀q∈qs,f≠q.a)->s.heap.get? f=some o->h'.get? f=some o)->(∃o,h'.get? e=some o/\o.cls=.type "StopIteration")->E (.ref e) {s with heap:=h'})->
   wpAny (model prog w) A (forIn (qs.map λ q=>Value.ref q.a) (mk acc) b) Q E s
 |[],acc,s,Q,D,hq,ge,k=>by obtain⟨q,h,_⟩:=ge;cases h
 |q::qs,acc,s,Q,D,hq,ge,k=>by
  have nl:=D.la q (.head _) q (.head _);rw[y7,forIn_cons];by_cases lt:i < q.xs.size
  ·refine B0 (hb _ _ _ _ (Sr.item (hq q (.head _)) lt nl λ h1 o1 s1=>?_));refine lW hb hA qs _ _ _ D.tail (λ r hr=>Sr.keep (hq r (.tail _ hr)) (λ o e=>s1.extBut _ _ (D.ne hr) e) λ o e=>s1.extBut _ _ (D.la r (.tail _ hr) q (.head _)) e) ?_ λ h2 e k2 oe=>?_
   ·obtain⟨r,hr,z⟩:=ge;rcases y8.mp hr with e|hr
    ·subst e;exact absurd lt (Nat.not_lt.mpr z)
    ·exact⟨r,hr,z⟩
   ·exact k h2 e (λ f o nf e=>k2 f o (λ r hr=>nf r (.tail _ hr)) (s1.extBut _ _ (nf q (.head _)) e)) oe
  ·refine B0 (hb _ _ _ _ (Sr.stop hA (hq q (.head _)) (Nat.le_of_not_lt lt) λ h1 e s1 oe=>k h1 e (λ f o nf z=>s1 _ _ (nf q (.head _)) z) oe))
end
end L5
namespace L5
open PySem L2
abbrev eO(h:Heap)(T:Addr)(vs:List Value):Prop:=h.get? T=some {cls:=.type "tuple",data:=.seq vs.toArray}
structure Zn(z u v:Addr)(qs:List Sr):Prop where
 ap:Ap qs
 uz:u≠z
 vz:v≠z
 uv:u≠v
 s:∀q∈qs,q.a≠z/\q.a≠u/\q.a≠v/\q.l≠z/\q.l≠v
section
variable {prog:Program}{w:World}{A:Around}{E:Value->Shared->Prop}{s:Shared}{i:Nat}{z u v:Addr}{qs:List Sr}
theorem Zn.kz (D:Zn z u v qs){h h':Heap}(s1:Heap.SameBut z h h')(hq:∀q∈qs,q.on h i):∀q∈qs,q.on h' i:=λ q h=>Sr.keep (hq q h) (λ o e=>s1.extBut _ _ (D.s q h).1 e) λ o e=>s1.extBut _ _ (D.s q h).2.2.2.1 e
theorem tU{σ:Type}{b:Value->σ->Sem (ForInStep σ)}{mk:Array Value->σ}{c:σ->Sem PySem.Fin}{r:Addr}{Q:Value->Shared->Prop}{s0:Shared}(D:Zn z u v qs)(dA:qs.length<=100) (hb:∀(a:Addr) (acc:Array Value) (s:Shared) (Q:ForInStep σ->Shared->Prop),wpAny (model prog w) A (Builtin.SmallTypes.nextOf (.ref a)) (λ x s'=>Q (.yield (mk (acc.push x))) s') E s->wpAny (model prog w) A (b (.ref a) (mk acc)) Q E s) (hc:∀acc,c (mk acc)=newTuple acc.toList >>= ret) (hz:gc s.heap z u v r true) (e0:Heap.SameBut z s0.heap s.heap) (e1:s={s0 with heap:=s.heap}) (hq:∀q∈qs,q.on s0.heap i) (lt:∀q∈qs,i < q.xs.size) (k:∀h',gc h' z u v r true->(∀q∈qs,q.on h' (i+1))->eO h' s0.heap.objs.size (rowAt qs i)->h'.objs.size=s0.heap.objs.size+1->
   (∀f o,f≠z->(∀q∈qs,f≠q.a)->s0.heap.get? f=some o->h'.get? f=some o)->Q (.ref s0.heap.objs.size) {s0 with heap:=h'}):
  wpAny (model prog w) A (forIn (qs.map λ q=>Value.ref q.a) (mk #[]) b >>= c) (λ fin s'=>∃v,fin=.done (.ret v)/\Q v s') E s:=by
 refine B0 (qZ hb qs #[] s _ D.ap (D.kz e0 hq) lt λ h' o' z' k'=>?_);rw[hc];have z2:gc h' z u v r true:=k' _ _ (λ q h=>(D.s q h).1.symm) hz;have e:(#[]++(rowAt qs i).toArray).toList=rowAt qs i:=by simp
 rw[e];refine B0 (wpAny_newTuple ?_ (by show(rowAt qs i).length<=sizeLine;rw[w6];exact A2 dA (by decide)));refine B1 ⟨_,rfl,?_⟩;have ez:h'.objs.size=s0.heap.objs.size:=z'.trans e0.1;have up:∀f o,h'.get? f=some o->(h'.push {cls:=.type "tuple",data:=.seq (rowAt qs i).toArray}).get? f=some o:=λ f o e=>i5 _ e;have t4:eO (h'.push {cls:=.type "tuple",data:=.seq (rowAt qs i).toArray}) h'.objs.size (rowAt qs i):=k4 _ rfl;rw[ez]at t4;have:=k _ (up _ _ z2) (λ q h=>Sr.keep (o' q h) (λ o e=>up _ o e) λ o e=>up _ o e) t4 (by rw[y0,ez]) λ f o n1 n2 e=>up f o (k' f o n2 (e0.extBut _ _ n1 e));show Q (.ref h'.objs.size) {s with heap:=_};rw[ez,e1];exact this
theorem Bp{r:Addr}{f1:Bool}{o:Obj}{Q:Value->Shared->Prop}(D:Zn z u v qs)(fk:qs≠[])(dA:qs.length<=100)(hz:gc s.heap z u v r f1)(hr:s.heap.get? r=some o)(hu:eO s.heap u (qs.map λ q=>.ref q.a))(hq:∀q∈qs,q.on s.heap i)(lt:∀q∈qs,i < q.xs.size) (k:∀h',gc h' z u v r true->(∀q∈qs,q.on h' (i+1))->eO h' s.heap.objs.size (rowAt qs i)->h'.objs.size=s.heap.objs.size+1->
   (∀f o,f≠z->(∀q∈qs,f≠q.a)->s.heap.get? f=some o->h'.get? f=some o)->Q (.ref s.heap.objs.size) {s with heap:=h'}):
  wpAny (model prog w) A (Builtin.«zip.__next__» ⟨[.ref z],[]⟩) (λ fin s'=>∃v,fin=.done (.ret v)/\Q v s') E s:=by
 refine B0 (m:=field (.ref z) 2) (A9 hz rfl (x:=.bool false) rfl ?_);refine B0 (m:=field (.ref z) 3) (A9 hz rfl (x:=.ref u) rfl ?_);refine B0 (x9 hu rfl ?_);have em:(qs.map λ q=>Value.ref q.a).toArray.isEmpty=false:=by cases qs with|nil=>exact absurd rfl fk|cons q qs=>rfl
 simp only[em];refine B0 (m:=Builtin.SmallTypes.ownedTupleIsFree (.ref z)) ?_;unfold Builtin.SmallTypes.ownedTupleIsFree;refine B0 (m:=field (.ref z) 0) (A9 hz rfl (x:=rawInt r) rfl ?_);show wpAny _ _ (loadIfAlive (r:Int).toNat >>= _) _ _ _;rw[m9];refine B0 (dY ?_);rw[hr];show wpAny _ _ (field (.ref z) 1 >>= _) _ _ _;refine B0 (m:=field (.ref z) 1) (A9 hz rfl (x:=.bool f1) rfl ?_);cases f1 with
 |false=>
  refine B0 (l5 hz (by simp) λ g1 z1 s1=>?_);refine B1 ?_;rw[B9 (by decide)];rw[List.forIn_toArray];refine tU (mk:=λ acc=>((none,acc):Option PySem.Fin×Array Value)) (s0:=s) (s:={s with heap:=g1}) (r:=r) D dA ?_ ?_ z1 s1 rfl hq lt k
  rotate_left
  ·intro acc;rfl
  intro a acc s Q h;exact B0 (y3 (B0 (B4 h (λ x s' h'=>B1 (B1 h')) λ _ _ e=>e)))
 |true=>
  refine B1 ?_;rw[B9 (by decide)];rw[List.forIn_toArray];refine tU (mk:=λ acc=>((none,acc):Option PySem.Fin×Array Value)) (s0:=s) (s:=s) (r:=r) D dA ?_ ?_ hz ⟨rfl,λ _ _=>rfl⟩ rfl hq lt k
  rotate_left
  ·intro acc;rfl
  intro a acc s Q h;exact B0 (y3 (B0 (B4 h (λ x s' h'=>B1 (B1 h')) λ _ _ e=>e)))
theorem pV{r:Addr}{f1:Bool}{o:Obj}{Q:PySem.Fin->Shared->Prop}(hA:A.handled=none)(D:Zn z u v qs)(hz:gc s.heap z u v r f1)(hr:s.heap.get? r=some o)(hu:eO s.heap u (qs.map λ q=>.ref q.a))(hq:∀q∈qs,q.on s.heap i)(ge:∃q∈qs,q.xs.size<=i)
  (k:∀h' e,(∀f o,f≠z->(∀q∈qs,f≠q.a)->s.heap.get? f=some o->h'.get? f=some o)->(∃o,h'.get? e=some o/\o.cls=.type "StopIteration")->E (.ref e) {s with heap:=h'}):
  wpAny (model prog w) A (Builtin.«zip.__next__» ⟨[.ref z],[]⟩) Q E s:=by
 refine B0 (m:=field (.ref z) 2) (A9 hz rfl (x:=.bool false) rfl ?_);refine B0 (m:=field (.ref z) 3) (A9 hz rfl (x:=.ref u) rfl ?_);refine B0 (x9 hu rfl ?_);have em:(qs.map λ q=>Value.ref q.a).toArray.isEmpty=false:=by
  cases qs with
  |nil=>obtain⟨q,h,_⟩:=ge;cases h
  |cons q qs=>rfl
 simp only[em];refine B0 (m:=Builtin.SmallTypes.ownedTupleIsFree (.ref z)) ?_;unfold Builtin.SmallTypes.ownedTupleIsFree;refine B0 (m:=field (.ref z) 0) (A9 hz rfl (x:=rawInt r) rfl ?_);show wpAny _ _ (loadIfAlive (r:Int).toNat >>= _) _ _ _;rw[m9];refine B0 (dY ?_);rw[hr];show wpAny _ _ (field (.ref z) 1 >>= _) _ _ _;refine B0 (m:=field (.ref z) 1) (A9 hz rfl (x:=.bool f1) rfl ?_);cases f1 with
 |false=>refine B0 (l5 hz (by simp) λ g1 z1 s1=>?_);refine B1 ?_;rw[B9 (by decide)];rw[List.forIn_toArray];refine B0 (lW (mk:=λ acc=>((none,acc):Option PySem.Fin×Array Value)) ?_ hA qs #[] {s with heap:=g1} _ D.ap (D.kz s1 hq) ge λ h' e kp oe=>k h' e (λ f o n1 n2 e=>kp f o n2 (s1.extBut _ _ n1 e)) oe);intro a acc s Q h;exact B0 (y3 (B0 (B4 h (λ x s' h'=>B1 (B1 h')) λ _ _ e=>e)))
 |true=>refine B1 ?_;rw[B9 (by decide)];rw[List.forIn_toArray];refine B0 (lW (mk:=λ acc=>((none,acc):Option PySem.Fin×Array Value)) ?_ hA qs #[] s _ D.ap hq ge λ h' e kp oe=>k h' e (λ f o n1 n2 e=>kp f o n2 e) oe);intro a acc s Q h;exact B0 (y3 (B0 (B4 h (λ x s' h'=>B1 (B1 h')) λ _ _ e=>e)))
theorem uF{σ:Type}{b:Value×Nat->σ->Sem (ForInStep σ)}{st:σ}(hb:∀(a:Addr) (j:Nat) (cs:List Value) (s:Shared) (Q:ForInStep σ->Shared->Prop),(∃o,s.heap.get? z=some o)->wpAny (model prog w) A (Builtin.SmallTypes.nextOf (.ref a)) (λ x s'=>∃cs:List Value,cs.length<=100/\eO s'.heap v cs/\∀h',eO h' v (cs.set j x)->Heap.SameBut v s'.heap h'->Q (.yield st) {s' with heap:=h'}) (λ _ _=>False) s->wpAny (model prog w) A (b (.ref a,j) st) Q E s):∀(rs:List Sr) (j:Nat) (cs:List Value) (s:Shared) (Q:σ->Shared->Prop),Ap rs->(∀q∈rs,q.a≠v/\q.l≠v/\q.a≠z)->eO s.heap v cs->cs.length<=100->j+rs.length<=cs.length->(∃o,s.heap.get? z=some o)->(∀q∈rs,q.on s.heap i)->(∀q∈rs,i < q.xs.size)->v≠z->
   (∀h',(∀q∈rs,q.on h' (i+1))->h'.objs.size=s.heap.objs.size->eO h' v (cs.take j++rowAt rs i++cs.drop (j+rs.length))->(∀f o,f≠v->(∀q∈rs,f≠q.a)->s.heap.get? f=some o->h'.get? f=some o)->Q st {s with heap:=h'})->
   wpAny (model prog w) A (forIn ((rs.map λ q=>Value.ref q.a).zipIdx j) st b) Q E s
 |[],j,cs,s,Q,D,ne,hv,dA,hj,hz,hq,lt,vz,k=>by have:=k s.heap (λ q h=>nomatch h) rfl (by simpa[rowAt]using hv) λ f o _ _ e=>e;exact B1 this
 |q::rs,j,cs,s,Q,D,ne,hv,dA,hj,hz,hq,lt,vz,k=>by
  have nl:=D.la q (.head _) q (.head _);obtain⟨n1,n2,n3⟩:=ne q (.head _);rw[y7,zipIdx_cons,forIn_cons];refine B0 (hb _ _ cs _ _ hz (Sr.item (hq q (.head _)) (lt q (.head _)) nl λ h1 o1 s1=>⟨cs,dA,s1.extBut _ _ n1.symm hv,λ h2 v2 s2=>?_⟩));have kp:∀f o,f≠v->f≠q.a->s.heap.get? f=some o->h2.get? f=some o:=λ f o m1 m2 e=>s2.extBut _ _ m1 (s1.extBut _ _ m2 e);obtain⟨oz,ez⟩:=hz;rw[p5]at hj;refine uF hb rs (j+1) (cs.set j (q.xs.getD i .none)) _ _ D.tail (λ r hr=>ne r (.tail _ hr)) v2 (by rw[length_set];exact dA) (by rw[length_set];omega) ⟨oz,kp _ _ vz.symm n3.symm ez⟩ (λ r hr=>Sr.keep (hq r (.tail _ hr)) (λ o e=>kp _ o (ne r (.tail _ hr)).1 (D.ne hr) e) λ o e=>kp _ o (ne r (.tail _ hr)).2.1 (D.la r (.tail _ hr) q (.head _)) e) (λ r hr=>lt r (.tail _ hr)) vz λ h3 o3 z3 v3 k3=>?_;refine k h3 (λ r hr=>?_) (z3.trans (s2.1.trans s1.1)) ?_ λ f o m1 m2 e=>k3 f o m1 (λ r hr=>m2 r (.tail _ hr)) (kp f o m1 (m2 q (.head _)) e)
  ·rcases y8.mp hr with e|hr
   ·subst e;exact Sr.keep o1 (λ o e=>k3 _ o n1 (λ t ht=>(D.ne ht).symm) (s2.extBut _ _ n1 e)) λ o e=>k3 _ o n2 (λ t ht=>D.la r (.head _) t (.tail _ ht)) (s2.extBut _ _ n2 e)
   ·exact o3 r hr
  ·have e:(cs.set j (q.xs.getD i .none)).take (j+1)++rowAt rs i++(cs.set j (q.xs.getD i .none)).drop (j+1+rs.length)=cs.take j++rowAt (q::rs) i++cs.drop (j+(rs.length+1)):=by
    have e1:(cs.set j (q.xs.getD i .none)).take (j+1)=cs.take j++[q.xs.getD i .none]:=by rw[take_add_one,take_set_of_le (A6 _),i7 (by omega)];rfl
    have e2:(cs.set j (q.xs.getD i .none)).drop (j+1+rs.length)=cs.drop (j+(rs.length+1)):=by rw[drop_set_of_lt (by omega),show j+1+rs.length=j+(rs.length+1) by omega]
    rw[e1,e2];simp[rowAt]
   rw[p5,<- e];exact v3
end
end L5
namespace L5
open PySem L2 PyProof.Rows
section
variable {prog:Program}{w:World}{A:Around}{E:Value->Shared->Prop}{s:Shared}{i:Nat}{z u v:Addr}{qs:List Sr}
theorem xC{cs:List Value}{Q:Value->Shared->Prop}(D:Zn z u v qs)(fk:qs≠[])(dA:qs.length<=100)(hz:IsZip s.heap z u v .none)(hu:eO s.heap u (qs.map λ q=>.ref q.a))(hv:eO s.heap v cs)(hl:cs.length=qs.length)(hq:∀q∈qs,q.on s.heap i)(lt:∀q∈qs,i < q.xs.size) (k:∀h',gc h' z u v s.heap.objs.size false->(∀q∈qs,q.on h' (i+1))->eO h' s.heap.objs.size (rowAt qs i)->h'.objs.size=s.heap.objs.size+1->
   (∀f o,f≠z->f≠v->(∀q∈qs,f≠q.a)->s.heap.get? f=some o->h'.get? f=some o)->Q (.ref s.heap.objs.size) {s with heap:=h'}):
  wpAny (model prog w) A (Builtin.«zip.__next__» ⟨[.ref z],[]⟩) (λ fin s'=>∃v,fin=.done (.ret v)/\Q v s') E s:=by
 refine B0 (m:=field (.ref z) 2) (A9 hz rfl (x:=.bool false) rfl ?_);refine B0 (m:=field (.ref z) 3) (A9 hz rfl (x:=.ref u) rfl ?_);refine B0 (x9 hu rfl ?_);have em:(qs.map λ q=>Value.ref q.a).toArray.isEmpty=false:=by cases qs with|nil=>exact absurd rfl fk|cons q qs=>rfl
 simp only[em];refine B0 (m:=Builtin.SmallTypes.ownedTupleIsFree (.ref z)) ?_;unfold Builtin.SmallTypes.ownedTupleIsFree;refine B0 (m:=field (.ref z) 0) (A9 hz rfl (x:=.none) rfl (B1 ?_));simp only[if_true];refine B0 (B2 (B0 (A9 hz rfl (x:=.ref v) rfl (B0 (l5 hz (by simp) λ g1 z1 s1=>?_)))));have z1:IsZip g1 z u v .ellipsis:=z1;refine B0 (uF (v:=v) (z:=z) (i:=i) ?_ qs 0 cs {s with heap:=g1} _ D.ap (λ q h=>⟨(D.s q h).2.2.1,(D.s q h).2.2.2.2,(D.s q h).1⟩) (s1.extBut _ _ D.vz hv) (by rw[hl];exact dA) (by rw[hl];omega) ⟨_,z1⟩ (D.kz s1 hq) lt D.vz λ g2 o2 e2 v2 k2=>?_)
 ·intro a j cs s2 Q2 S3 h;refine B0 (wpAny_onRaise (B0 (m:=Builtin.SmallTypes.nextOf (.ref a)) (B4 h (λ x s' h'=>B1 ?_) λ _ _ e=>e.elim)));obtain⟨Ts,h0,h1,h2⟩:=h';refine B0 (x9 h1 rfl (B0 (x5 h1 rfl (B0 (wpAny_letGo (B1 (h2 _ ?_ (j6 ..))))) (by rw[o7];exact A2 h0 (by decide)) (by rw[Array.size_setIfInBounds,o7];exact A2 h0 (by decide)))));unfold eO;rw[i8 _ h1 rfl];simp[Obj.mapSeq]
 ·rw[take_zero,nil_append,drop_eq_nil_of_le (by rw[hl];omega),q9]at v2;refine B0 (x9 v2 rfl (B0 (wpAny_newTuple ?_ (by show(rowAt qs i).length<=sizeLine;rw[w6];exact A2 dA (by decide)))));have ez:g2.objs.size=s.heap.objs.size:=e2.trans s1.1;have z2:IsZip g2 z u v .ellipsis:=k2 _ _ D.vz.symm (λ q h=>(D.s q h).1.symm) z1;have Pd:z < g2.objs.size:=A0 z2;refine B0 (m:=Builtin.SmallTypes.ownedTupleHandOut (.ref z) (.ref g2.objs.size)) ?_;unfold Builtin.SmallTypes.ownedTupleHandOut;have z6:IsZip (g2.push {cls:=.type "tuple",data:=.seq (rowAt qs i).toArray}) z u v .ellipsis:=i5 _ z2;refine B0 (l5 z6 (by simp) λ g7 z7 s7=>l5 (show IsZip g7 z u v (rawInt g2.objs.size)from z7) (by simp) λ g8 z8 s8=>?_);have z8:IsZip g8 z u v (rawInt g2.objs.size):=z8;have go:∀f o,f≠z->g2.get? f=some o->g8.get? f=some o:=λ f o n1 e=>s8.extBut _ _ n1 (s7.extBut _ _ n1 (i5 _ e));have t8:eO g8 g2.objs.size (rowAt qs i):=s8.extBut _ _ (A4 Pd) (s7.extBut _ _ (A4 Pd) (k4 _ rfl));have e8:g8.objs.size=g2.objs.size+1:=by rw[s8.1,s7.1,y0]
  rw[ez]at z8 t8 e8;refine B1 ⟨_,rfl,?_⟩;show Q (.ref g2.objs.size) _;rw[ez];exact k g8 z8 (λ q h=>Sr.keep (o2 q h) (λ o e=>go _ o (D.s q h).1 e) λ o e=>go _ o (D.s q h).2.2.2.1 e) t8 e8 λ f o n1 n2 n3 e=>go f o n1 (k2 f o n2 n3 (s1.extBut _ _ n1 e))
def mN(h:Heap)(z u v:Addr)(qs:List Sr)(i N0:Nat):Prop:=eO h u (qs.map λ q=>.ref q.a)/\(∀q∈qs,q.on h i)/\
 ((i=0/\IsZip h z u v .none/\∃cs,eO h v cs/\cs.length=qs.length)\/∃(r:Addr) (f1:Bool) (o:Obj),gc h z u v r f1/\h.get? r=some o/\N0<=r)
def rH(h:Heap)(qs:List Sr)(N0:Nat)(ps:List Addr):Prop:=ps.Nodup/\∀(j:Nat) (p:Addr),ps[j]?=some p->N0<=p/\eO h p (rowAt qs j)
theorem Hg{N0:Nat}{Q:Option Value->Shared->Prop}(D:Zn z u v qs)(fk:qs≠[])(dA:qs.length<=100)(hN:N0<=s.heap.objs.size)(hz:z < N0)(hv:v < N0)(sU:∀q∈qs,q.a < N0)(Z:mN s.heap z u v qs i N0)(lt:∀q∈qs,i < q.xs.size) (k:∀h',mN h' z u v qs (i+1) N0->eO h' s.heap.objs.size (rowAt qs i)->h'.objs.size=s.heap.objs.size+1->(∀f o,f≠z->f≠v->(∀q∈qs,f≠q.a)->s.heap.get? f=some o->h'.get? f=some o)->Q (some (.ref s.heap.objs.size)) {s with heap:=h'}):wpAny (model prog w) A (pyNext (.ref z)) Q E s:=by
 obtain⟨hu,hq,zz⟩:=Z;have ku:∀h':Heap,(∀f o,f≠z->f≠v->(∀q∈qs,f≠q.a)->s.heap.get? f=some o->h'.get? f=some o)->eO h' u (qs.map λ q=>.ref q.a):=λ h' kp=>kp _ _ D.uz D.uv (λ q h=>(D.s q h).2.1.symm) hu;have ty:s.TypeIs (.ref z) "zip":=by
  rcases zz with⟨_,q,_⟩|⟨r,f1,o,q,_⟩
  ·exact⟨_,q,rfl⟩
  ·exact⟨_,q,rfl⟩
 unfold pyNext;refine B0 (wpAny_attempt (i3 (name:=Str.ofString "__next__") ty F.slot_zip_next (p6 F.slot_zip_next ty F.entry_zip_next ?_ (F.args_zip_next_1 _))));rcases zz with⟨rfl,q,cs,q2,q3⟩|⟨r,f1,o,q,q2,q3⟩
 ·exact xC D fk dA q hu q2 q3 hq lt λ h' a1 a2 a3 a4 a5=>B1 (k h' ⟨ku h' a5,a2,.inr ⟨s.heap.objs.size,false,_,a1,a3,hN⟩⟩ a3 a4 a5)
 ·refine Bp D fk dA q q2 hu hq lt λ h' a1 a2 a3 a4 a5=>B1 (k h' ⟨ku h' λ f o n1 _ n3 e=>a5 f o n1 n3 e,a2,.inr ⟨r,true,o,a1,a5 _ _ (A4 (l7 hz q3)) (λ t ht=>A4 (l7 (sU t ht) q3)) q2,q3⟩⟩ a3 a4 λ f o n1 _ n3 e=>a5 f o n1 n3 e)
theorem Hq{N0:Nat}{Q:Option Value->Shared->Prop}(hA:A.handled=none)(D:Zn z u v qs)(Z:mN s.heap z u v qs i N0)(hi:i≠0)(ge:∃q∈qs,q.xs.size<=i) (k:∀h',(∀f o,f≠z->f≠v->(∀q∈qs,f≠q.a)->s.heap.get? f=some o->h'.get? f=some o)->Q none {s with heap:=h'}):wpAny (model prog w) A (pyNext (.ref z)) Q E s:=by
 obtain⟨hu,hq,zz⟩:=Z;rcases zz with⟨z0,_⟩|⟨r,f1,o,q,q2,q3⟩
 ·exact absurd z0 hi
 ·have ty:s.TypeIs (.ref z) "zip":=⟨_,q,rfl⟩;unfold pyNext;refine B0 (wpAny_attempt (i3 (name:=Str.ofString "__next__") ty F.slot_zip_next (p6 F.slot_zip_next ty F.entry_zip_next ?_ (F.args_zip_next_1 _))));refine pV hA D q q2 hu hq ge λ h' e kp oe=>?_;obtain⟨ob,RS,RR⟩:=oe;exact B0 (wpAny_isInstance (T:="StopIteration") (b:=true) ⟨ob,RS,RR⟩ isSubtype_stop (B1 (k _ λ f o n1 _ n3 e=>kp f o n1 n3 e)))
theorem mN.keep {h h':Heap}{S:Addr}{N0:Nat}(x:mN h z u v qs i N0)(hS:S < N0)(n1:S≠z)(n2:S≠u)(n3:S≠v)(n4:∀q∈qs,S≠q.a/\S≠q.l)(k:∀f o,f≠S->h.get? f=some o->h'.get? f=some o):mN h' z u v qs i N0:=by
 obtain⟨a1,a2,a4⟩:=x;refine⟨k _ _ n2.symm a1,λ q hq=>Sr.keep (a2 q hq) (λ o e=>k _ o (n4 q hq).1.symm e) λ o e=>k _ o (n4 q hq).2.symm e,?_⟩;rcases a4 with⟨z0,q,cs,q2,q3⟩|⟨r,f1,o,q1,q2,q3⟩
 ·exact .inl ⟨z0,k _ _ n1.symm q,cs,k _ _ n3.symm q2,q3⟩
 ·exact .inr ⟨r,f1,o,k _ _ n1.symm q1,k _ _ (A4 (l7 hS q3)) q2,q3⟩
theorem Lc{R:Result->Shared->Prop}{S:Addr}{N0 n:Nat}(hA:A.in1.handled=none)(D:Zn z u v qs)(fk:qs≠[])(dA:qs.length<=100)(hn:n<=10000)(Ja:n≠0)(hsz:∀q∈qs,q.xs.size=n) (hz:z < N0) (hv:v < N0) (sU:∀q∈qs,q.a < N0) (hS:S < N0) (n1:S≠z) (n2:S≠u) (n3:S≠v) (n4:∀q∈qs,S≠q.a/\S≠q.l) (res:Value):∀(k i:Nat) (s:Shared) (ps:List Addr) (c:Nat),n - i=k->i<=n->ps.length=i->N0<=s.heap.objs.size->mN s.heap z u v qs i N0->
   s.heap.get? S=some {cls:=.type "list",dict:=none,data:=.seq (ps.map Value.ref).toArray c,slots:=#[]}->rH s.heap qs N0 ps->
   (∀(h':Heap) (GC:List Addr) (c':Nat),(∀f o,f≠z->f≠v->(∀q∈qs,f≠q.a)->f≠S->s.heap.get? f=some o->h'.get? f=some o)->h'.get? S=some {cls:=.type "list",dict:=none,data:=.seq (GC.map Value.ref).toArray c',slots:=#[]}->GC.length=n->rH h' qs N0 GC->R (.ok (.ret res)) {s with heap:=h'})->
   codeAny (model prog w) A (.builtin "list.extend.loop" ⟨[.ref S,.ref z,res],[]⟩) R s:=by
 intro k
 induction k with
 |zero=>intro i s ps c hk hi hp hN Z Oq pr hR;refine codeAny_builtin F.entry_extend_loop ?_;rw[Around.under_plainId k5 _];show wpAny _ A.in1 (pyNext (.ref z) >>= _) _ _ s;obtain⟨q0,h0⟩:=exists_mem_of_ne_nil _ fk;refine B0 (Hq hA D Z (by omega) ⟨q0,h0,by rw[hsz q0 h0];omega⟩ λ h' kp=>B1 ?_);refine hR h' ps c (λ f o m1 m2 m3 _ e=>kp f o m1 m2 m3 e) (kp _ _ n1 n3 (λ q h=>(n4 q h).1) Oq) (by omega) ⟨pr.1,λ j p e=>?_⟩;obtain⟨mF,e3⟩:=pr.2 j p e;exact⟨mF,kp _ _ (A4 (l7 hz mF)) (A4 (l7 hv mF)) (λ q h=>A4 (l7 (sU q h) mF)) e3⟩
 |succ k ih=>
  intro i s ps c hk hi hp hN Z Oq pr hR;refine codeAny_builtin F.entry_extend_loop ?_;rw[Around.under_plainId k5 _];show wpAny _ A.in1 (pyNext (.ref z) >>= _) _ _ s;refine B0 (Hg D fk dA hN hz hv sU Z (λ q h=>by rw[hsz q h];omega) λ h' Z' t1 sz kp=>?_);have PN:=kp _ _ n1 n3 (λ q h=>(n4 q h).1) Oq;show wpAny _ A.in1 (updateSeq S (·.push (.ref s.heap.objs.size)) >>= λ _=>again (.builtin "list.extend.loop" ⟨[.ref S,.ref z,res],[]⟩)) _ _ _;refine B0 ?_;have hlen:(ps.map Value.ref).toArray.size=i:=by rw[o7,w6,hp]
  have ot:∀f o,f≠S->h'.get? f=some o->(h'.update S (Obj.mapSeq (·.push (.ref s.heap.objs.size)))).get? f=some o:=λ f o ne e=>(i6 _ _ (B7 ne)).trans e;refine x5 PN rfl (B1 ⟨plainId_quiet k5 _,ih (i+1) _ (ps++[s.heap.objs.size]) (c+1) (by omega) (by omega) (by rw[k9,hp];rfl) ?_ (Z'.keep hS n1 n2 n3 n4 ot) ?_ ?_ ?_⟩) (by rw[hlen];exact A2 (show i<=10000 by omega) (by decide)) (by rw[Array.size_push,hlen];exact A2 (show i+1<=10001 by omega) (by decide))
  ·show N0<=(h'.update S _).objs.size;rw[Heap.size_update,sz];exact Nat.le_succ_of_le hN
  ·rw[i8 _ PN rfl];simp[Obj.mapSeq]
  ·refine⟨nodup_append.mpr ⟨pr.1,by simp,λ q hq q' NY ee=>?_⟩,?_⟩
   ·obtain⟨j,hj⟩:=mem_iff_getElem?.mp hq;have lt:=A0 (pr.2 j q hj).2;rw[ee,l8.mp NY]at lt;exact y6 _ lt
   intro j p e;by_cases hj:j < ps.length
   ·rw[c4 hj]at e;obtain⟨mF,e3⟩:=pr.2 j p e;exact⟨mF,ot _ _ (A4 (l7 hS mF)) (kp _ _ (A4 (l7 hz mF)) (A4 (l7 hv mF)) (λ q h=>A4 (l7 (sU q h) mF)) e3)⟩
   ·rw[a9 (by omega)]at e;have RL:j - ps.length=0:=by have:=(c6.mp e).1;simp at this;omega
    rw[RL]at e;have ep:s.heap.objs.size=p:=by simpa using e
    have ej:j=i:=by omega
    subst ej;rw[<- ep];exact⟨hN,ot _ _ (A4 (l7 hS hN)) t1⟩
  ·intro h2 GC c' Q6 hs2 N_ QV;exact hR h2 GC c' (λ f o m1 m2 m3 m5 e=>Q6 f o m1 m2 m3 m5 (ot f o m5 (kp f o m1 m2 m3 e))) hs2 N_ QV
end
end L5
namespace L5
open PySem L2 PyProof.Rows
theorem kX(a b c:Value):checkTypeCall "zip" ⟨[a,b,c],[]⟩=pure ():=by kernel_rfl
theorem mB(a b c:Value):checkBuiltinCall "zip.__new__" ⟨[.type "zip",a,b,c],[]⟩=pure ():=by kernel_rfl
theorem gY(a b c d:Value):argsOk "object.__init__" ⟨[a,b,c,d],[]⟩:=by unfold argsOk;rw[signature?_of (id:="object.__init__") (n:=['_','_','t','i','n','i','_','_']) (o:=['t','c','e','j','b','o']) (by kernel_rfl) F.owner_object];kernel_rfl
abbrev zh(b:Bool)(h:Heap)(l:Addr):Heap:=h.push {cls:=.type (LO b),data:=.fields #[.ref l,.int 0 0]}
abbrev z3(b c d:Bool)(h:Heap)(l m n:Addr):Heap:=zh d (zh c (zh b h l) m) n
abbrev z4(b c d:Bool)(h:Heap)(l m n:Addr):Heap:=(z3 b c d h l m n).push {cls:=.type "tuple",data:=.seq #[.ref h.objs.size,.ref (zh b h l).objs.size,.ref (zh c (zh b h l) m).objs.size]}
abbrev z5(b c d:Bool)(h:Heap)(l m n:Addr):Heap:=(z4 b c d h l m n).push {cls:=.type "tuple",data:=.seq #[.none,.none,.none]}
abbrev z6(b c d:Bool)(h:Heap)(l m n:Addr):Heap:=(z5 b c d h l m n).push {cls:=.type "zip",data:=.fields #[.none,.bool false,.bool false,.ref (z3 b c d h l m n).objs.size,.ref (z4 b c d h l m n).objs.size]}
theorem rQ(b c d:Bool)(l m n:Addr)(xs ys zs:Array Value):Meets (Builtin.«zip.__new__» ⟨[.type "zip",.ref l,.ref m,.ref n],[]⟩) (λ _ R s=>iC b s.heap l xs/\iC c s.heap m ys/\iC d s.heap n zs/\R (.ok (.ret (.ref (z5 b c d s.heap l m n).objs.size))) {s with heap:=z6 b c d s.heap l m n}):=
 .of_wp λ prog w A R s h=>by
  obtain⟨hp,g,dr,tk,os⟩:=s;obtain⟨a1,a2,a3,h⟩:=h;have sz:=sub_zip;have b1:iC b (Shared.heap ⟨hp,g,dr,tk,os⟩) l xs:=a1;have b2:iC c (Shared.heap ⟨zh b hp l,g,dr,tk,os⟩) m ys:=(fS c).keep a2 λ o e=>i5 _ e;have b3:iC d (Shared.heap ⟨zh c (zh b hp l) m,g,dr,tk,os⟩) n zs:=(fS d).keep a3 λ o e=>i5 _ (i5 _ e)
  wp_walk using(fS b).start b1,(fS c).start b2,(fS d).start b3
  exact⟨_,rfl,h⟩
section
variable {prog:Program}{w:World}{A:Around}{E:Value->Shared->Prop}{s:Shared}
theorem Sr.new {h:Heap}{a l:Addr}{b:Bool}{xs:Array Value}(h1:jS (LO b) h a l 0)(h2:iC b h l xs):Sr.on ⟨a,l,b,xs⟩ h 0:=by
 cases b
 ·exact⟨h1,h2⟩
 ·exact⟨h1,h2⟩
theorem ou{b:Bool}{h:Heap}{l:Addr}{xs:Array Value}(x:iC b h l xs):l < h.objs.size:=by
 cases b
 ·obtain⟨o,e,_⟩:=x;exact A0 e
 ·obtain⟨o,e,_⟩:=x;exact A0 e
theorem Dr{b c d:Bool}{l m n:Addr}{xs ys zs:Array Value}{Q:Value->Shared->Prop}(a1:iC b s.heap l xs)(a2:iC c s.heap m ys)(a3:iC d s.heap n zs) (k:∀(h':Heap) (qs:List Sr),qs=[⟨s.heap.objs.size,l,b,xs⟩,⟨s.heap.objs.size+1,m,c,ys⟩,⟨s.heap.objs.size+2,n,d,zs⟩]->Zn (s.heap.objs.size+5) (s.heap.objs.size+3) (s.heap.objs.size+4) qs->IsZip h' (s.heap.objs.size+5) (s.heap.objs.size+3) (s.heap.objs.size+4) .none->(∀N,mN h' (s.heap.objs.size+5) (s.heap.objs.size+3) (s.heap.objs.size+4) qs 0 N)->
   h'.objs.size=s.heap.objs.size+6->(∀f o,s.heap.get? f=some o->h'.get? f=some o)->Q (.ref (s.heap.objs.size+5)) {s with heap:=h'}):
  wpAny (model prog w) A (call (.type "zip") [.ref l,.ref m,.ref n]) Q E s:=by
 refine callType_new F.called_zip (by decide) (kX _ _ _) (mB _ _ _) (λ ob=>gY ob _ _ _) F.entry_zip_new (rQ b c d l m n xs ys zs) ⟨a1,a2,a3,?_⟩;have e1:(zh b s.heap l).objs.size=s.heap.objs.size+1:=y0 ..;have e2:(zh c (zh b s.heap l) m).objs.size=s.heap.objs.size+2:=by rw[y0,e1]
 have e3:(z3 b c d s.heap l m n).objs.size=s.heap.objs.size+3:=by rw[y0,e2]
 have e4:(z4 b c d s.heap l m n).objs.size=s.heap.objs.size+4:=by rw[y0,e3]
 have e5:(z5 b c d s.heap l m n).objs.size=s.heap.objs.size+5:=by rw[y0,e4]
 have e6:(z6 b c d s.heap l m n).objs.size=s.heap.objs.size+6:=by rw[y0,e5]
 have u5:∀f o,(z5 b c d s.heap l m n).get? f=some o->(z6 b c d s.heap l m n).get? f=some o:=λ f o e=>i5 _ e;have u4:∀f o,(z4 b c d s.heap l m n).get? f=some o->(z6 b c d s.heap l m n).get? f=some o:=λ f o e=>u5 f o (i5 _ e);have u3:∀f o,(z3 b c d s.heap l m n).get? f=some o->(z6 b c d s.heap l m n).get? f=some o:=λ f o e=>u4 f o (i5 _ e);have u2:∀f o,(zh c (zh b s.heap l) m).get? f=some o->(z6 b c d s.heap l m n).get? f=some o:=λ f o e=>u3 f o (i5 _ e);have u1:∀f o,(zh b s.heap l).get? f=some o->(z6 b c d s.heap l m n).get? f=some o:=λ f o e=>u2 f o (i5 _ e);have u0:∀f o,s.heap.get? f=some o->(z6 b c d s.heap l m n).get? f=some o:=λ f o e=>u1 f o (i5 _ e);have g6:(z6 b c d s.heap l m n).get? (z5 b c d s.heap l m n).objs.size=some _:=k4 _ rfl;have g5:=u5 _ _ (k4 (z4 b c d s.heap l m n) rfl);have g4:=u4 _ _ (k4 (z3 b c d s.heap l m n) rfl);have g3:=u3 _ _ (k4 (zh c (zh b s.heap l) m) rfl);have g2:=u2 _ _ (k4 (zh b s.heap l) rfl);have g1:=u1 _ _ (k4 s.heap rfl);rw[e3,e4,e5]at g6;rw[e4]at g5;rw[e1,e2,e3]at g4;rw[e2]at g3;rw[e1]at g2;show _/\_;rw[e5];refine⟨⟨_,g6,rfl⟩,k _ _ rfl ?_ g6 (λ N=>⟨g4,?_,.inl ⟨rfl,g6,_,g5,rfl⟩⟩) e6 u0⟩
 ·have lo:∀{x:Addr} (i:Nat),x < s.heap.objs.size->x≠s.heap.objs.size+i:=λ i h=>z9 (l7 h (p9 _ i));have ne:∀i j:Nat,i≠j->s.heap.objs.size+i≠s.heap.objs.size+j:=λ i j h e=>h (Nat.add_left_cancel e);have hl:=ou a1;have hm:=ou a2;have hn:=ou a3;refine⟨⟨?_,?_⟩,ne 3 5 (by decide),ne 4 5 (by decide),ne 3 4 (by decide),?_⟩
  ·refine nodup_cons.mpr ⟨?_,nodup_cons.mpr ⟨?_,by simp⟩⟩
   ·simp only[y7,map_nil,y8,not_mem_nil,or_false];exact λ z=>z.elim (ne 0 1 (by decide)) (ne 0 2 (by decide))
   ·simp only[y7,map_nil,y8,not_mem_nil,or_false];exact ne 1 2 (by decide)
  ·simp only[y8,not_mem_nil,or_false,forall_eq_or_imp,forall_eq];exact⟨⟨lo 0 hl,lo 1 hl,lo 2 hl⟩,⟨lo 0 hm,lo 1 hm,lo 2 hm⟩,lo 0 hn,lo 1 hn,lo 2 hn⟩
  ·simp only[y8,not_mem_nil,or_false,forall_eq_or_imp,forall_eq];exact⟨⟨ne 0 5 (by decide),ne 0 3 (by decide),ne 0 4 (by decide),lo 5 hl,lo 4 hl⟩,⟨ne 1 5 (by decide),ne 1 3 (by decide),ne 1 4 (by decide),lo 5 hm,lo 4 hm⟩,ne 2 5 (by decide),ne 2 3 (by decide),ne 2 4 (by decide),lo 5 hn,lo 4 hn⟩
 ·simp only[y8,not_mem_nil,or_false,forall_eq_or_imp,forall_eq];exact⟨Sr.new ⟨_,g1,rfl,rfl⟩ ((fS b).keep a1 λ o e=>u0 _ o e),Sr.new ⟨_,g2,rfl,rfl⟩ ((fS c).keep a2 λ o e=>u0 _ o e),Sr.new ⟨_,g3,rfl,rfl⟩ ((fS d).keep a3 λ o e=>u0 _ o e)⟩
end
end L5
namespace L5
open PySem L2 PyProof.Rows
section
variable {prog:Program}{w:World}{A:Around}{E:Value->Shared->Prop}{s:Shared}
theorem mL{z u v:Addr}{qs:List Sr}{n:Nat}{Q:Value->Shared->Prop}(hA:A.handled=none)(D:Zn z u v qs)(fk:qs≠[])(dA:qs.length<=100)(hn:n<=10000)(Ja:n≠0)(hsz:∀q∈qs,q.xs.size=n) (hz:z < s.heap.objs.size) (hu:u < s.heap.objs.size) (hv:v < s.heap.objs.size) (sU:∀q∈qs,q.a < s.heap.objs.size/\q.l < s.heap.objs.size) (hZ:IsZip s.heap z u v .none) (Z:∀N,mN s.heap z u v qs 0 N) (hQ:∀(h':Heap) (ps:List Addr) (c:Nat),(∀f o,f≠z->f≠v->(∀q∈qs,f≠q.a)->s.heap.get? f=some o->h'.get? f=some o)->h'.get? s.heap.objs.size=some {cls:=.type "list",data:=.seq (ps.map Value.ref).toArray c}->ps.length=n->rH h' qs (s.heap.objs.size+1) ps->Q (.ref s.heap.objs.size) {s with heap:=h'}):wpAny (model prog w) A (call (.type "list") [.ref z]) Q E s:=by
 have Z:=Z (s.heap.objs.size+1);refine callType_codes (Q₁:=λ obj s₁=>obj=.ref s.heap.objs.size/\s₁={s with heap:=s.heap.push {cls:=.type "list",data:=.seq #[]}}) F.called_list (F.typeCall_list_1 _) F.entry_list_init
  (code_list_new _ ⟨rfl,rfl⟩) λ obj s₁ h₁=>?_
 obtain⟨rfl,rfl⟩:=h₁;have up:∀f o,s.heap.get? f=some o->(s.heap.push {cls:=.type "list",data:=.seq #[]}).get? f=some o:=λ f o e=>i5 _ e;have hS:(s.heap.push {cls:=.type "list",data:=.seq #[]}).get? s.heap.objs.size=some {cls:=.type "list",data:=.seq #[]}:=k4 _ rfl;have sz:(s.heap.push {cls:=.type "list",data:=.seq #[]}).objs.size=s.heap.objs.size+1:=y0 ..;have Z:mN (s.heap.push {cls:=.type "list",data:=.seq #[]}) z u v qs 0 (s.heap.objs.size+1):=Z.keep (Nat.lt_succ_self _) (A4 hz) (A4 hu) (A4 hv) (λ q h=>⟨A4 (sU q h).1,A4 (sU q h).2⟩) λ f o _ e=>up f o e;have hZ:=up _ _ hZ;refine⟨⟨_,hS,rfl⟩,F.args_list_init_2 _ _,?_⟩;have hQ:∀(h':Heap) (ps:List Addr) (c:Nat),(∀f o,f≠z->f≠v->(∀q∈qs,f≠q.a)->f≠s.heap.objs.size->(s.heap.push {cls:=.type "list",data:=.seq #[]}).get? f=some o->h'.get? f=some o)->h'.get? s.heap.objs.size=some {cls:=.type "list",data:=.seq (ps.map Value.ref).toArray c}->ps.length=n->rH h' qs (s.heap.objs.size+1) ps->Q (.ref s.heap.objs.size) {s with heap:=h'}:=
  λ h' ps c kp a b d=>hQ h' ps c (λ f o n1 n2 n3 e=>kp f o n1 n2 n3 (z9 (A0 e)) (up f o e)) a b d
 generalize s.heap.push {cls:=.type "list",data:=.seq #[]}=g at*;generalize hN:s.heap.objs.size=N at*;show wpAny _ _ (do let old <- Builtin.List.listItems (.ref N);Builtin.List.listUpdate (.ref N) (λ _=>#[]);letGo old.toList.reverse;Builtin.List.listExtendWith (.ref N) (.ref z) .none) _ _ _;refine B0 ?_;unfold Builtin.List.listItems;refine B0 (x9 hS rfl (B1 ?_));show wpAny _ _ (updateSeq N (λ _=>#[]) >>= λ _=>letGo (#[]:Array Value).toList.reverse >>= λ _=>Builtin.List.listExtendWith (.ref N) (.ref z) .none) _ _ _;refine B0 (x5 hS rfl ?_);have PM:=i8 (Obj.mapSeq (λ _=>(#[]:Array Value))) hS rfl;have o2:∀b o,b≠N->g.get? b=some o->(g.update N (Obj.mapSeq (λ _=>(#[]:Array Value)))).get? b=some o:=λ b o hb e=>(i6 _ _ (B7 hb)).trans e;have s2:(g.update N (Obj.mapSeq (λ _=>(#[]:Array Value)))).objs.size=N+1:=by rw[Heap.size_update,sz]
 refine B0 (wpAny_letGo ?_);have nz:N≠z:=A4 hz;have Z2:=Z.keep (Nat.lt_succ_self _) nz (A4 hu) (A4 hv) (λ q h=>⟨A4 (sU q h).1,A4 (sU q h).2⟩) o2;have PK:=o2 _ _ nz.symm hZ;have hQ:∀(h':Heap) (ps:List Addr) (c:Nat),(∀f o,f≠z->f≠v->(∀q∈qs,f≠q.a)->f≠N->(g.update N (Obj.mapSeq (λ _=>(#[]:Array Value)))).get? f=some o->h'.get? f=some o)->h'.get? N=some {cls:=.type "list",data:=.seq (ps.map Value.ref).toArray c}->ps.length=n->rH h' qs (N+1) ps->Q (.ref N) {s with heap:=h'}:=
  λ h' ps c kp a b d=>hQ h' ps c (λ f o n1 n2 n3 n4 e=>kp f o n1 n2 n3 n4 (o2 f o n4 e)) a b d
 generalize g.update N (Obj.mapSeq (λ _=>(#[]:Array Value)))=g2 at*;have hT:Shared.TypeIs {s with heap:=g2} (.ref z) "zip":=⟨_,PK,rfl⟩;unfold Builtin.List.listExtendWith;refine B0 (wpAny_typeOf hT ?_);have h1:Builtin.List.listSameRef (.ref N) (.ref z)=false:=by simp[Builtin.List.listSameRef,nz]
 have h2:(Value.type "zip"==Value.type "list")=false:=by decide
 have h3:(Value.type "zip"==Value.type "tuple")=false:=by decide
 simp only[h1,h2,h3,Bool.or_false,l0,B5];refine B0 (wpAny_pyIter_zip PK ?_);refine B0 (y3 ?_);unfold Builtin.List.listLengthHint;refine B0 (x6 hT rP ?_);show wpAny _ _ (specialOf (Value.ref z) (Str.ofString "__length_hint__") >>= _) _ _ _;refine B0 (x6 hT pW ?_);refine B1 ?_;show wpAny _ _ (rule "list.extend.makes-room" >>= λ _=>Builtin.List.listTouch (.ref N) >>= λ _=>again (.builtin "list.extend.loop" ⟨[.ref N,.ref z,.none],[]⟩)) _ _ _;refine B0 (B2 ?_);refine B0 ?_;show wpAny _ _ (updateSeq N (·.push .none) >>= λ _=>updateSeq N (·.pop)) _ _ _;refine B0 (x5 PM rfl ?_ (by size_fits) (by simp[Obj.mapSeq]));have PL:=i8 (Obj.mapSeq (·.push Value.none)) PM rfl;refine x5 (hz:=by seq_fits) PL rfl ?_;have R7:=i8 (Obj.mapSeq (·.pop)) PL rfl;have o4:∀b o,b≠N->g2.get? b=some o->((g2.update N (Obj.mapSeq (·.push Value.none))).update N (Obj.mapSeq (·.pop))).get? b=some o:=
  λ b o hb e=>(i6 _ _ (B7 hb)).trans ((i6 _ _ (B7 hb)).trans e)
 have Z4:=Z2.keep (Nat.lt_succ_self _) nz (A4 hu) (A4 hv) (λ q h=>⟨A4 (sU q h).1,A4 (sU q h).2⟩) o4;refine B1 ⟨plainId_quiet k5 _,?_⟩;have lt:∀{x:Nat},x < N->x < N+1:=λ h=>o8 h;refine Lc (prog:=prog) (w:=w) (A:=A.in1) (R:=wants (λ r s₂=>r=Value.none/\Q (Value.ref N) s₂) E) (S:=N) (N0:=N+1) hA D fk dA hn Ja hsz (lt hz) (lt hv) (λ q h=>lt (sU q h).1) (Nat.lt_succ_self _) nz (A4 hu) (A4 hv) (λ q h=>⟨A4 (sU q h).1,A4 (sU q h).2⟩) _ _ 0 {s with heap:=(g2.update N (Obj.mapSeq (·.push Value.none))).update N (Obj.mapSeq (·.pop))} [] _ rfl (A8 _) rfl ?_ Z4 R7 ⟨.nil,λ j p e=>by simp at e⟩ λ h' GC c' kp iR rM QX=>⟨rfl,?_⟩
 ·show N+1<=_;rw[Heap.size_update,Heap.size_update,s2];exact A6 _
 ·exact hQ h' GC c' (λ f o n1 n2 n3 n4 e=>kp f o n1 n2 n3 n4 (o4 f o n4 e)) iR rM QX
end
end L5
namespace L2
open PySem PySem.Spec PyProof.Rows L5
def kL{α:Type}:List α->List α->List α->List (List α)
 |x::xs,y::ys,z::zs=>[x,y,z]::kL xs ys zs
 |_,_,_=>[]
theorem tV{α:Type}:∀{xs ys zs:List α} {j:Nat} {r:List α},(kL xs ys zs)[j]?=some r->∃x y z,xs[j]?=some x/\ys[j]?=some y/\zs[j]?=some z/\r=[x,y,z]
 |x::xs,y::ys,z::zs,0,r,e=>⟨x,y,z,rfl,rfl,rfl,(u6 e).symm⟩
 |x::xs,y::ys,z::zs,j+1,r,e=>tV (xs:=xs) (ys:=ys) (zs:=zs) (j:=j) e
 |[],_,_,j,r,e=>by simp[kL]at e
 |_::_,[],_,j,r,e=>by simp[kL]at e
 |_::_,_::_,[],j,r,e=>by simp[kL]at e
theorem xD{α:Type}{n:Nat}:∀{xs ys zs:List α},xs.length=n->ys.length=n->zs.length=n->(kL xs ys zs).length=n:=by
 induction n with
 |zero=>intro xs ys zs h1 h2 h3;rw[a6 h1];rfl
 |succ n ih=>
  intro xs ys zs h1 h2 h3;cases xs with
  |nil=>cases h1
  |cons x xs=>cases ys with
   |nil=>cases h2
   |cons y ys=>cases zs with
    |nil=>cases h3
    |cons z zs=>exact B6 (·+1) (ih (Nat.succ.inj h1) (Nat.succ.inj h2) (Nat.succ.inj h3))
inductive ER:Hp->List (List V)->List Addr->Hp->Prop
 |nil {H}:ER H [] [] H
 |cons {H r rs p ps H'}:H p=none->ER (upd H p (.tup r)) rs ps H'->ER H (r::rs) (p::ps) H'
section
variable {X:Cx}{pins:List (Addr×Obj)}{σ:St}{H:Hp}{s s':Shared}
theorem k_(I0:Inv X pins σ H s){h':Heap}:∀(ps:List Addr) (rs:List (List V)) (H1:Hp),Inv X pins σ H1 {s with heap:=h'}->ps.length=rs.length->ps.Nodup->(∀p∈ps,s.heap.objs.size<=p/\H1 p=none)-> (∀(j:Nat) (p:Addr) (r:List V),ps[j]?=some p->rs[j]?=some r->r.length<=sizeLine/\∃us,Vals r us/\eO h' p us)->∃H2,ER H1 rs ps H2/\Inv X pins σ H2 {s with heap:=h'}/\∀b,b∉ps->H2 b=H1 b
 |[],rs,H1,I,hl,_,_,_=>by
  cases rs with
  |nil=>exact⟨H1,.nil,I,λ b _=>rfl⟩
  |cons r rs=>cases hl
 |p::ps,rs,H1,I,hl,nd,hf,pr=>by
  cases rs with
  |nil=>cases hl
  |cons r rs=>
   obtain⟨f1,us,q1,t⟩:=pr 0 p r rfl rfl;obtain⟨mF,eB⟩:=hf p k7;have fo:=I0.jk (H':=H1) mF eB;have I1:Inv X pins σ (upd H1 p (.tup r)) {s with heap:=h'}:=Inv.mW I eB ⟨f1,us,q1,⟨_,t,rfl,_,rfl⟩⟩ fo.2.1 (A2 I0.sz mF) fo.2.2.2.2.1 fo.2.2.2.2.2;have Pc:=nodup_cons.mp nd;obtain⟨H2,z1,z2,z3⟩:=k_ I0 ps rs (upd H1 p (.tup r)) I1 (by simpa using hl) Pc.2 (λ p' KP=>by
    obtain⟨a1,a2⟩:=hf p' (j3 _ KP);exact⟨a1,by rw[aF (λ e:p'=p=>Pc.1 (by rw[<- e];exact KP))];exact a2⟩) λ j p' r' e e'=>pr (j+1) p' r' (by simpa using e) (by simpa using e')
   refine⟨H2,.cons eB z1,z2,λ b hb=>?_⟩;rw[z3 b λ z=>hb (j3 _ z),aF (λ e:b=p=>hb (by rw[e];exact k7))]
end
section
variable {X:Cx}{e1 e2 e3:Expr}{ta:TA}{p p2 pos fM:Pos}
theorem vals3{x y z:V}{us:List Value}(r:Vals [x,y,z] us):∃a b c,us=[a,b,c]/\RelV x a/\RelV y b/\RelV z c:=by
 cases r with
 |cons a r=>cases r with
  |cons b r=>cases r with
   |cons c r=>cases r with
    |nil=>exact⟨_,_,_,rfl,a,b,c⟩
def Qz(K:C0)(ta:TA):TE:=λ σ H Q=>ta σ H λ vs H1=>∃(b c d:Bool) (l m n:Addr) (xs ys zs:List V) (k:Nat),vs=[.ref l,.ref m,.ref n]/\Sq b K H1 l xs/\Sq c K H1 m ys/\Sq d K H1 n zs/\xs.length=k/\ys.length=k/\zs.length=k/\k≠0/\k<=10000/\
 ∀(ps:List Addr) (H2:Hp) (r:Addr),ER H1 (kL xs ys zs) ps H2->H2 r=none->Q (.ref r) (upd H2 r (.lst (ps.map V.ref)))
theorem C7(hc:X.calm=true)(hg:Gl X "list")(hm:X.mg "list"=none)(K1:Gl X "zip")(KW:X.mg "zip"=none)(ha:PA X [e1,e2,e3] ta) (hs:starEach [e1,e2,e3] X.env=[(false,eval e1 X.env),(false,eval e2 X.env),(false,eval e3 X.env)]:=by rfl) (hs2:starEach [e2,e3] X.env=[(false,eval e2 X.env),(false,eval e3 X.env)]:=by rfl) (he:starEach [.Call (.Name "zip" p2) [e1,e2,e3] [] fM] X.env=(false,eval (.Call (.Name "zip" p2) [e1,e2,e3] [] fM) X.env)::starEach [] X.env:=by rfl):PE X (.Call (.Name "list" p) [.Call (.Name "zip" p2) [e1,e2,e3] [] fM] [] pos) (Qz X.K ta):=by
 intro pins s σ H Q I h;refine l9 (fT I hg hm (show bootBuiltins "list"=some (.type "list") by decide+kernel) ?_);refine a7 ?_ he rfl;rw[he];show wpAny _ _ (spliced ((false,eval (.Call (.Name "zip" p2) [e1,e2,e3] [] fM) X.env)::backTo pos (starEach [] X.env))) _ _ s;refine Calls.spliced_cons ?_;refine Call_ (fT I K1 KW boot_zip (a7 (cG (ha fM pins s σ H _ I h) λ us s1 ⟨vs,H1,I1,r1,q1⟩=>?_) (by rw[hs,hs2]) (by rw[hs2];rfl)));obtain⟨b,c,d,l,m,n,xs,ys,zs,k,ev,hl,eg,hn,lx,ly,lz,k0,dA,q⟩:=q1;subst ev;obtain⟨u1,u2,u3,rfl,r,r',Nj⟩:=vals3 r1;cases(show u1=Value.ref l from r);cases(show u2=Value.ref m from r');cases(show u3=Value.ref n from Nj);obtain⟨IU,v1,p1⟩:=iU I1 hl;obtain⟨Q9,v2,O9⟩:=iU I1 eg;obtain⟨Q8,v3,p3⟩:=iU I1 hn;refine Dr p1 O9 p3 λ g qs eq D Rc Z g6 g7=>?_;refine Calls.spliced_nil ?_;have QK:IU.length=k:=v1.length.symm.trans lx;have QJ:Q9.length=k:=v2.length.symm.trans ly;have QH:Q8.length=k:=v3.length.symm.trans lz;have lt:∀{b:Bool} {l:Addr} {xs:Array Value},iC b s1.heap l xs->l < g.objs.size:=λ x=>by rw[g6];exact l7 (ou x) (p9 _ _)
 have IS:∀j:Nat,j < 6->s1.heap.objs.size+j < g.objs.size:=λ j h=>by rw[g6];exact Nat.add_lt_add_left h _
 have ok:=mL (prog:=X.prog) (w:=X.w) (A:=X.A) (E:=X.xe) (s:={s1 with heap:=g}) (Q:=EP X pins σ Q) (n:=k) (I1.ok.hd hc) D (by rw[eq];simp) (by rw[eq];show 3<=100;decide) dA k0;refine ok ?_ (IS 5 (by decide)) (IS 3 (by decide)) (IS 4 (by decide)) ?_ Rc Z ?_
 ·rw[eq];simp only[y8,not_mem_nil,or_false,forall_eq_or_imp,forall_eq,o7];exact⟨QK,QJ,QH⟩
 ·rw[eq];simp only[y8,not_mem_nil,or_false,forall_eq_or_imp,forall_eq];exact⟨⟨IS 0 (by decide),lt p1⟩,⟨IS 1 (by decide),lt O9⟩,IS 2 (by decide),lt p3⟩
 ·intro h' ps c' kp hS rM pr;have N7:∀b o,s1.heap.get? b=some o->h'.get? b=some o:=λ b o e=>by have lt:∀k,b≠s1.heap.objs.size+k:=λ k=>z9 (l7 (A0 e) (p9 _ k));refine kp b o (lt 5) (lt 4) ?_ (g7 b o e);rw[eq];simp only[y8,not_mem_nil,or_false,forall_eq_or_imp,forall_eq];exact⟨lt 0,lt 1,lt 2⟩
  have I3:Inv X pins σ H1 {s1 with heap:=h'}:=I1.kept (t':=s1.toks) N7;have ge:∀j p,ps[j]?=some p->s1.heap.objs.size<=p:=λ j p hj=>A2 (by show s1.heap.objs.size<=g.objs.size+1;rw[g6];exact p9 _ 7) (pr.2 j p hj).1;obtain⟨H2,z1,I4,z3⟩:=k_ (s:=s1) (h':=h') I1 ps (kL xs ys zs) H1 I3 (by rw[rM,xD lx ly lz]) pr.1 (λ p hp=>by
    obtain⟨j,hj⟩:=mem_iff_getElem?.mp hp;exact⟨ge j p hj,I1.aZ.fresh (ge j p hj)⟩) λ j p r hj hr=>by
     obtain⟨x,y,z,ex,ey,ez,rfl⟩:=tV hr;obtain⟨a,ea,ra⟩:=v1.get ex;obtain⟨b,eb,rb⟩:=v2.get ey;obtain⟨c,ec,rc⟩:=v3.get ez;refine⟨by show 3<=sizeLine;decide,[a,b,c],.cons ra (.cons rb (.cons rc .nil)),?_⟩;have t:=(pr.2 j p hj).2;rw[eq]at t;have gd:∀{is:List Value} {u:Value},is[j]?=some u->is.toArray.getD j .none=u:=λ e=>by simp[Array.getD_eq_getD_getElem?,e]
     simp only[rowAt,y7,map_nil,gd ea,gd eb,gd ec]at t;exact t
  have nS:∀p∈ps,p≠g.objs.size:=λ p hp e=>by obtain⟨j,hj⟩:=mem_iff_getElem?.mp hp;have:=(pr.2 j p hj).1;rw[e]at this;exact absurd this (Nat.not_succ_le_self _)
  have fr:s1.heap.objs.size<=g.objs.size:=by rw[g6];exact p9 _ 6
  have HN:H2 g.objs.size=none:=(z3 _ λ h=>nS _ h rfl).trans (I1.aZ.fresh fr);have fo:=I1.jk (H':=H2) fr HN;have I5:Inv X pins σ (upd H2 g.objs.size (.lst (ps.map V.ref))) {s1 with heap:=h'}:=Inv.mW I4 HN ⟨by rw[w6,rM];exact A2 dA (by decide),ps.map Value.ref,c',qc ps,hS⟩ fo.2.1 (A2 I1.sz fr) fo.2.2.2.2.1 fo.2.2.2.2.2;exact⟨.ref g.objs.size,_,I5,rfl,q ps H2 _ z1 HN⟩
end
end L2
namespace L2
open PySem PySem.Spec PyProof.Rows
theorem xk{X:Cx}(hc:X.calm=true):cQ X (.type "list") (λ xs H Q=>∃r lo hi,xs=[.ref r]/\H r=some (.Ft lo hi)/\(-100000000<=lo/\lo<=100000000)/\(-100000000<=hi/\hi<=100000000)/\(hi - lo).toNat<=10000/\∀p,H p=none->Q (.ref p) (upd H p (.lst (so lo (hi - lo).toNat)))):=by
 intro pins s σ H xs us Q I rr ⟨r,lo,hi,e,hr,h1,h2,hn,q⟩;subst e;obtain⟨u,rfl,rx⟩:=vals1 rr;cases rx;obtain⟨t,u,v,ho⟩:=I.aZ r _ hr;have es:Builtin.Range.rangeSize lo hi 1=(((hi - lo).toNat:Nat):Int):=by rw[rangeSize_one];split <;> omega
 refine call_list_range (a:=lo) (b:=hi) (c:=1) (t:=t) (u:=u) (v:=v) (n:=(hi - lo).toNat) (I.ok.hd hc) ho (small_one (by omega) (by omega) (by omega) (by omega)) es (by omega) λ h' tk acc c' kp hS sY=>?_;have hf:=I.aZ.fresh (A6 s.heap.objs.size);have fo:=I.jk (H':=H) (A6 s.heap.objs.size) hf;have I2:Inv X pins σ (upd H s.heap.objs.size (.lst (so lo (hi - lo).toNat))) {s with heap:=h',toks:=tk}:=
  Inv.mW (I.kept (t':=tk) kp) hf ⟨by unfold so;rw[w6,n9];exact A2 hn (by decide),acc.toList,c',wd sY,by rw[show acc.toList.toArray=acc by simp];exact hS⟩ fo.2.1 I.sz fo.2.2.2.2.1 fo.2.2.2.2.2
 exact⟨.ref s.heap.objs.size,_,I2,rfl,q _ hf⟩
end L2
namespace L3
open PySem PySem.Spec PyProof.Rows L2 L5
def pX(xs ys zs:List D):List D:=(kL xs ys zs).map D.tup
theorem qA{H H':Hp}{rs:List (List V)}{ps:List Addr}(h:ER H rs ps H'):ak H H':=by
 induction h with
 |nil=>exact ak.refl _
 |cons hn _ ih=>exact(ak.laid hn).trans ih
theorem C2{K:C0}{M:Mem}{H H':Hp}{rs:List (List V)}{ps:List Addr}(h:ER H rs ps H')(r:RelM K H M):RelM K H' M:=by
 induction h with
 |nil=>exact r
 |cons hn _ ih=>exact ih (r.laid hn)
theorem qB{K:C0}:∀{rd:List (List D)} {rs:List (List V)} {ps:List Addr} {H H2:Hp},ER H rs ps H2->Paired (λ r v=>ax K H r v) rd rs->ax K H2 (rd.map D.tup) (ps.map V.ref)
 |_,_,_,_,_,.nil,.nil=>aj.mpr rfl
 |_,_,_,H,H2,.cons (r:=v) (p:=p) hn z,.cons (a:=r) a t=>by have t1:ak H (upd H p (.tup v)):=ak.laid hn;have t2:=qA z;exact ag.mpr ⟨.ref p,_,rfl,aQ.mpr ⟨p,v,rfl,.inl (.inl (t2.tup _ _ aG)),ax.mono (t1.trans t2) _ a⟩,qB z (Paired.qI t λ r v h=>ax.mono t1 r h)⟩
theorem mS{K:C0}{H:Hp}:∀{xs ys zs:List D} {xv yv zv:List V},ax K H xs xv->ax K H ys yv->ax K H zs zv->Paired (λ r v=>ax K H r v) (kL xs ys zs) (kL xv yv zv)
 |[],ys,zs,xv,yv,zv,h1,h2,h3=>by cases(aj.mp h1);exact .nil
 |x::xs,[],zs,xv,yv,zv,h1,h2,h3=>by obtain⟨a,r,rfl,_,_⟩:=ag.mp h1;cases(aj.mp h2);exact .nil
 |x::xs,y::ys,[],xv,yv,zv,h1,h2,h3=>by obtain⟨a,r,rfl,_,_⟩:=ag.mp h1;obtain⟨b,q,rfl,_,_⟩:=ag.mp h2;cases(aj.mp h3);exact .nil
 |x::xs,y::ys,z::zs,xv,yv,zv,h1,h2,h3=>by obtain⟨a,r,rfl,ha,hr⟩:=ag.mp h1;obtain⟨b,q,rfl,hb,hq⟩:=ag.mp h2;obtain⟨c,t,rfl,hc,ht⟩:=ag.mp h3;exact .cons (ag.mpr ⟨a,_,rfl,ha,ag.mpr ⟨b,_,rfl,hb,ax.one hc⟩⟩) (mS hr hq ht)
section
variable {X:Cx}{e1 e2 e3:Expr}{ta:dP}{p p2 pos fM:Pos}
def yj(ta:dP):bT:=λ δ M Q=>ta δ M λ ds M1=>∃(d1 d2 d3:D) (xs ys zs:List D) (n:Nat),ds=[d1,d2,d3]/\cq M1 d1=some xs/\cq M1 d2=some ys/\cq M1 d3=some zs/\xs.length=n/\ys.length=n/\zs.length=n/\n≠0/\n<=10000/\∀p,M1 p=none->Q (.ref p) (ah M1 p (.lst (pX xs ys zs)))
theorem Gm(hc:X.calm=true)(hg:Gl X "list")(hm:X.mg "list"=none)(K1:Gl X "zip")(KW:X.mg "zip"=none)(ha:QA X [e1,e2,e3] ta) (hs:starEach [e1,e2,e3] X.env=[(false,eval e1 X.env),(false,eval e2 X.env),(false,eval e3 X.env)]:=by rfl) (hs2:starEach [e2,e3] X.env=[(false,eval e2 X.env),(false,eval e3 X.env)]:=by rfl) (he:starEach [.Call (.Name "zip" p2) [e1,e2,e3] [] fM] X.env=(false,eval (.Call (.Name "zip" p2) [e1,e2,e3] [] fM) X.env)::starEach [] X.env:=by rfl):QE X (.Call (.Name "list" p) [.Call (.Name "zip" p2) [e1,e2,e3] [] fM] [] pos) (yj ta):=by refine bF (C7 hc hg hm K1 KW ha hs hs2 he) ?_;rintro σ H Q ⟨δ,M,Q2,hs,hm,q,k⟩;refine⟨δ,M,_,hs,hm,q,λ vs H1 ds M1 hd bP t1 ⟨d1,d2,d3,xs,ys,zs,n,e,s1,s2,s3,l1,l2,l3,n0,dA,q1⟩=>?_⟩;subst e;obtain⟨v1,r,rfl,Rn,hr⟩:=ag.mp hd;obtain⟨v2,r2,rfl,IV,jh⟩:=ag.mp hr;obtain⟨v3,r3,rfl,Rm,NX⟩:=ag.mp jh;cases(aj.mp NX);obtain⟨b1,l,xv,rfl,q3,dx⟩:=sh bP s1 Rn;obtain⟨b2,m,yv,rfl,q4,dy⟩:=sh bP s2 IV;obtain⟨b3,n',zv,rfl,q5,dz⟩:=sh bP s3 Rm;refine⟨b1,b2,b3,l,m,n',xv,yv,zv,n,rfl,q3,q4,q5,by rw[dx.length,l1],by rw[dy.length,l2],by rw[dz.length,l3],n0,dA,λ ps H2 r z hn=>?_⟩;have t2:=qA z;have t3:ak H2 (upd H2 r (.lst (ps.map V.ref))):=ak.laid hn;have m2:=C2 z bP;exact k _ _ _ _ (aA.mpr rfl) (m2.put (u:=.lst (pX xs ys zs)) t3 ⟨_,aG,ax.mono t3 _ (qB z (mS dx dy dz))⟩) (t1.trans (t2.trans t3)) (q1 r (m2.free hn))
def yk(ta:dP):bT:=λ δ M Q=>ta δ M λ ds M1=>∃i j:Int,ds=[.int i,.int j]/\(-10000<=i/\i<=10000)/\(-10000<=j/\j<=10000)/\(j - i).toNat<=10000/\∀p,M1 p=none->Q (.ref p) (ah M1 p (.lst (cF i (j - i).toNat)))
theorem Gn(hc:X.calm=true)(hg:Gl X "list")(hm:X.mg "list"=none)(Oe:Gl X "range")(N5:X.mg "range"=none)(ha:QA X [e1,e2] ta)(hs:starEach [e1,e2] X.env=[(false,eval e1 X.env),(false,eval e2 X.env)]:=by rfl)(hs2:starEach [e2] X.env=[(false,eval e2 X.env)]:=by rfl):QE X (.Call (.Name "list" p) [.Call (.Name "range" p2) [e1,e2] [] fM] [] pos) (yk ta):=by refine bF (gn (xk hc) hg hm (by decide+kernel) (kh (gn xi Oe N5 (by decide+kernel) ha (by decide) (by decide) (by rw[hs,hs2]) (by rw[hs2];rfl)) oH)) ?_;rintro σ H Q ⟨δ,M,Q2,hs,hm,q,k⟩;refine⟨δ,M,_,hs,hm,q,λ xs H1 ds M1 hd bP t1 ⟨i,j,e,hi,hj,hn,q1⟩=>?_⟩;subst e;obtain⟨x,r,rfl,hx,hr⟩:=ag.mp hd;obtain⟨y,r2,rfl,hy,jh⟩:=ag.mp hr;cases(aj.mp jh);cases(ar.mp hx);cases(ar.mp hy);refine⟨i,j,rfl,λ r HI=>?_⟩;refine⟨r,i,j,rfl,aG,⟨by omega,by omega⟩,⟨by omega,by omega⟩,hn,λ p hp=>?_⟩;have t2:ak H1 (upd H1 r (.Ft i j)):=ak.laid HI;have t3:=ak.laid (o:=.lst (so i (j - i).toNat)) hp;exact k _ _ _ _ (aA.mpr rfl) ((bP.laid HI).put (u:=.lst (cF i (j - i).toNat)) t3 ⟨_,aG,AB i _⟩) (t1.trans (t2.trans t3)) (q1 p ((bP.laid HI).free hp))
end
end L3
namespace L4
open PySem L2 L3
section
variable {X:Cx}{e1 e2 e3:Expr}{ta:dP}{p p2 pos fM:Pos}
theorem EV(hc:X.calm=true)(hg:Gl X "list")(hm:X.mg "list"=none)(K1:Gl X "zip")(KW:X.mg "zip"=none)(ha:WA X [e1,e2,e3] ta) (hs:starEach [e1,e2,e3] X.env=[(false,eval e1 X.env),(false,eval e2 X.env),(false,eval e3 X.env)]:=by rfl) (hs2:starEach [e2,e3] X.env=[(false,eval e2 X.env),(false,eval e3 X.env)]:=by rfl) (he:starEach [.Call (.Name "zip" p2) [e1,e2,e3] [] fM] X.env=(false,eval (.Call (.Name "zip" p2) [e1,e2,e3] [] fM) X.env)::starEach [] X.env:=by rfl):WE X (.Call (.Name "list" p) [.Call (.Name "zip" p2) [e1,e2,e3] [] fM] [] pos) (yj ta):=⟨Gm hc hg hm K1 KW ha.h hs hs2 he⟩
theorem EW(hc:X.calm=true)(hg:Gl X "list")(hm:X.mg "list"=none)(Oe:Gl X "range")(N5:X.mg "range"=none)(ha:WA X [e1,e2] ta)(hs:starEach [e1,e2] X.env=[(false,eval e1 X.env),(false,eval e2 X.env)]:=by rfl)(hs2:starEach [e2] X.env=[(false,eval e2 X.env)]:=by rfl):WE X (.Call (.Name "list" p) [.Call (.Name "range" p2) [e1,e2] [] fM] [] pos) (yk ta):=⟨Gn hc hg hm Oe N5 ha.h hs hs2⟩
end
theorem B'{ta:dP}{δ:cI}{M:Mem}{Q:bD}(h:ta δ M λ ds M1=>∃(d1 d2 d3:D) (xs ys zs:List D) (n:Nat),ds=[d1,d2,d3]/\cq M1 d1=some xs/\cq M1 d2=some ys/\cq M1 d3=some zs/\xs.length=n/\ys.length=n/\zs.length=n/\n≠0/\n<=10000/\∀p,M1 p=none->Q (.ref p) (ah M1 p (.lst (pX xs ys zs)))):yj ta δ M Q:=h
theorem Ca{ta:dP}{δ:cI}{M:Mem}{Q:bD}(h:ta δ M λ ds M1=>∃i j:Int,ds=[.int i,.int j]/\(-10000<=i/\i<=10000)/\(-10000<=j/\j<=10000)/\(j - i).toNat<=10000/\∀p,M1 p=none->Q (.ref p) (ah M1 p (.lst (cF i (j - i).toNat)))):yk ta δ M Q:=h
end L4
namespace L2
open PySem PySem.Spec PyProof.Rows
abbrev gf:=Addr->Option (Obj×V)
def gS(H:Hp)(C:gf):Hp:=λ b=>match C b with
 |some p=>some (eV p.1 b p.2)
 |none=>H b
def fi(H:Hp)(C:gf):Hp:=λ b=>match C b with
 |some _=>none
 |none=>H b
theorem gw{H:Hp}{C:gf}{b:Addr}{p:Obj×V}(e:C b=some p):gS H C b=some (eV p.1 b p.2):=by unfold gS;rw[e]
theorem bw{H:Hp}{C:gf}{b:Addr}(e:C b=none):gS H C b=H b:=by unfold gS;rw[e]
theorem eS{H:Hp}{C:gf}{b:Addr}{p:Obj×V}(e:C b=some p):fi H C b=none:=by unfold fi;rw[e]
theorem aX{H:Hp}{C:gf}{b:Addr}(e:C b=none):fi H C b=H b:=by unfold fi;rw[e]
theorem aE(C:gf)(b:Addr):C b=none\/∃p,C b=some p:=by
 cases e:C b with
 |none=>exact .inl rfl
 |some p=>exact .inr ⟨p,rfl⟩
def mm(C:gf)(h:Heap):Prop:=∀b p,C b=some p->h.get? b=some p.1/\AM b p.2 h
theorem vB{h h':Heap}{b:Addr}{v:V}(x:AM b v h)(k:∀o,h.get? b=some o->h'.get? b=some o):AM b v h':=by obtain⟨u,r,o,h1,h2⟩:=x;exact⟨u,r,o,k _ h1,h2⟩
theorem mm.obj {C:gf}{h:Heap}(c:mm C h){b:Addr}{p:Obj×V}(e:C b=some p){P:Program}{w:World}{H:Hp}:bp P w H h b (eV p.1 b p.2):=
 ⟨(c b p e).1,(c b p e).1,(c b p e).2,⟨_,(c b p e).1⟩,λ h1 h2 x k=>vB x k⟩
section
variable {P:Program}{w:World}{K:C0}{mg:Str->Option Value}{base:Heap}{A:Around}{outer:List Env}{s s':Shared}{H:Hp}{C:gf}
theorem fg.xM {H:Hp}{h:Heap}(x:fg P w H h)(hC:∀b p,C b=some p->∃o u,H b=some (.cD o u)):fg P w (fi H C) h:=λ b u e=>by
 rcases aE C b with z|⟨p,z⟩
 ·rw[aX z]at e;refine(x b u e).my (λ c v _ q=>q) (λ c q=>?_) λ c xs q=>?_
  ·rcases aE C c with y|⟨p,y⟩
   ·rw[aX y];exact q
   ·obtain⟨o,u,r⟩:=hC c p y;rw[r]at q;cases q
  ·rcases aE C c with y|⟨p,y⟩
   ·rw[aX y];exact q
   ·obtain⟨o,u,r⟩:=hC c p y;rw[r]at q;cases q
 ·rw[eS z]at e;cases e
theorem fg.cD {H:Hp}{h:Heap}(x:fg P w H h)(hC:∀b p,C b=some p->H b=none)(c:mm C h):fg P w (gS H C) h:=λ b u e=>by
 rcases aE C b with z|⟨p,z⟩
 ·rw[bw z]at e;refine(x b u e).my (λ c v _ q=>q) (λ c q=>?_) λ c xs q=>?_
  ·rcases aE C c with y|⟨p,y⟩
   ·rw[bw y];exact q
   ·rw[hC c p y]at q;cases q
  ·rcases aE C c with y|⟨p,y⟩
   ·rw[bw y];exact q
   ·rw[hC c p y]at q;cases q
 ·rw[gw z]at e;cases e;exact c.obj z
theorem mi.cD (e:mi P w K mg base A outer s H)(hC:∀b p,C b=some p->H b=none/\base.get? b=none/\b∉pT outer)(c:mm C s.heap):mi P w K mg base A outer s (gS H C):=by
 refine⟨e.frames,e.mod,λ b o q=>?_,e.xo,e.gR,λ b hb=>?_,e.aZ.cD (λ b p z=>(hC b p z).1) c,e.bare⟩
 ·rcases aE C b with z|⟨p,z⟩
  ·rw[bw z];exact e.bs b o q
  ·rw[(hC b p z).2.1]at q;cases q
 ·rcases aE C b with z|⟨p,z⟩
  ·rw[bw z];exact e.DK b hb
  ·exact absurd hb (hC b p z).2.2
theorem CE.xM {Q:VK}{u:Value}(h:CE outer P w (gS H C) s Q u s')(hC:∀b p,C b=some p->H b=none/\b∉pT outer)(c:mm C s.heap):CE outer P w H s (λ v H2=>∃H',H2=fi H' C/\(∀b p,C b=some p->H' b=some (eV p.1 b p.2))/\Q v H') u s':=by
 obtain⟨v,H',os,bare,un,aZ,r,q⟩:=h;have hf:∀b p,C b=some p->H' b=some (eV p.1 b p.2):=λ b p z=>un.jj b _ _ (gw z);have ne:∀b o,H b=some o->C b=none:=λ b o e=>by
  rcases aE C b with z|⟨p,z⟩
  ·exact z
  ·rw[(hC b p z).1]at e;cases e
 refine⟨v,fi H' C,os,bare,⟨λ b o e n hb hx=>?_,λ b o e n hb hx=>?_,λ b o e n hx=>?_,un.there,λ b xs e=>?_,λ b o x e=>?_,λ b ps e=>?_⟩,aZ.xM λ b p z=>⟨_,_,hf b p z⟩,r,H',rfl,hf,q⟩
 ·rcases aE C b with z|⟨p,z⟩
  ·exact un.keep b o e (by rw[bw z];exact n) hb hx
  ·rw[(c b p z).1]at e;cases e;exact(aZ b _ (hf b p z)).1
 ·rcases aE C b with z|⟨p,z⟩
  ·exact un.slot b o e (by rw[bw z];exact n) hb hx
  ·exact absurd hb (hC b p z).2
 ·rcases aE C b with z|⟨p,z⟩
  ·rw[aX z];exact un.free b o e (by rw[bw z];exact n) hx
  ·exact eS z
 ·rw[aX (ne b _ e)];exact un.kZ b xs (by rw[bw (ne b _ e)];exact e)
 ·rw[aX (ne b _ e)];exact un.jj b o x (by rw[bw (ne b _ e)];exact e)
 ·rw[aX (ne b _ e)];exact un.jM b ps (by rw[bw (ne b _ e)];exact e)
theorem mi.xM (e:mi P w K mg base A outer s H)(hC:∀b p,C b=some p->H b=some (eV p.1 b p.2)):mi P w K mg base A outer s (fi H C):=by
 refine⟨e.frames,e.mod,λ b o q=>⟨(e.bs b o q).1,?_⟩,e.xo,e.gR,λ b hb=>?_,e.aZ.xM λ b p z=>⟨_,_,hC b p z⟩,e.bare⟩
 ·rcases aE C b with z|⟨p,z⟩
  ·rw[aX z];exact(e.bs b o q).2
  ·exact eS z
 ·rcases aE C b with z|⟨p,z⟩
  ·rw[aX z];exact e.DK b hb
  ·exact eS z
theorem CE.cD {Q:VK}{u:Value}(h:CE outer P w (fi H C) s (λ v H'=>(∀b p,C b=some p->H' b=none)->Q v (gS H' C)) u s')(DG:fg P w H s.heap)(hC:∀b p,C b=some p->H b=some (eV p.1 b p.2))(uV:∀b∈pT outer,H b=none):CE outer P w H s Q u s':=by
 obtain⟨v,H',os,bare,un,aZ,r,q⟩:=h;have nf:∀b p,C b=some p->b∉pT outer:=λ b p z hb=>by have:=hC b p z;rw[uV b hb]at this;cases this
 have kc:∀b p,C b=some p->s'.heap.get? b=some p.1:=λ b p z=>un.keep b _ (DG b _ (hC b p z)).1 (eS z) (nf b p z) (by simp);have fr:∀b p,C b=some p->H' b=none:=λ b p z=>un.free b _ (DG b _ (hC b p z)).1 (eS z) (by simp);have ne:∀b,H b=none->C b=none:=λ b e=>by
  rcases aE C b with z|⟨p,z⟩
  ·exact z
  ·rw[hC b p z]at e;cases e
 have co:mm C s'.heap:=λ b p z=>⟨kc b p z,vB (DG b _ (hC b p z)).2.2.1 λ o e=>by rw[(DG b _ (hC b p z)).1]at e;cases e;exact kc b p z⟩;refine⟨v,gS H' C,os,bare,⟨λ b o e n hb hx=>un.keep b o e (by rw[aX (ne b n)];exact n) hb hx,λ b o e n hb hx=>un.slot b o e (by rw[aX (ne b n)];exact n) hb hx,λ b o e n hx=>by rw[bw (ne b n)];exact un.free b o e (by rw[aX (ne b n)];exact n) hx,un.there,λ b xs e=>?_,λ b o x e=>?_,λ b ps e=>?_⟩,aZ.cD fr co,r,q fr⟩
 ·rcases aE C b with z|⟨p,z⟩
  ·rw[bw z];exact un.kZ b xs (by rw[aX z];exact e)
  ·rw[hC b p z]at e;cases e
 ·rcases aE C b with z|⟨p,z⟩
  ·rw[bw z];exact un.jj b o x (by rw[aX z];exact e)
  ·rw[hC b p z]at e;rw[gw z];exact e
 ·rcases aE C b with z|⟨p,z⟩
  ·rw[bw z];exact un.jM b ps (by rw[aX z];exact e)
  ·rw[hC b p z]at e;cases e
end
end L2
namespace L2
open PySem PySem.Spec PyProof.Rows
structure iN(ps fv:List Str)(sc:Scope):Prop where
 kind:sc.kind=.function
 co:sc.isCoroutine=false
 gen:sc.isGenerator=false
 nd:(ps++fv).Nodup
 par:∀x∈ps,sc.names.lookup x=some .local
 zu:∀y∈sc.names,y.2≠.cell
 Ig:∀x∈fv,sc.names.lookup x=some .free
 all:∀x,sc.names.lookup x=some .free->x∈fv
def rl(P:Program)(w:World)(K:C0)(mg:Str->Option Value)(base:Heap)(N:List Str)(qual:Str)(scope:Scope)(f c:Addr)(cl:List (Str×Addr))(A:Around)(outer:List Env)(s:Shared)(H:Hp):Cx where
 prog:=P
 w:=w
 K:=K
 mg:=mg
 base:=base
 A:=A.deeper (PySem.W.envX qual scope s.heap.objs.size f (.ref c) cl)
 N:=N
 s₀:=s
 H₀:=H
 env:=PySem.W.envX qual scope s.heap.objs.size f (.ref c) cl
 outer:=outer
 stack:=PySem.W.envX qual scope s.heap.objs.size f (.ref c) cl::outer
 ex:=[]
 calm:=true
 fn:=λ _=>false
 pn:=[]
 xe:=λ _ _=>False
abbrev Lw:=List V->List V->Hp->VK->Prop
structure II(h:Heap)(H:Hp)(cl:List (Str×Addr))(fv:List Str)(fm:List V):Prop where
 len:fm.length=fv.length
 val:∀(i:Nat) (x:Str) (v:V),fv[i]?=some x->fm[i]?=some v->∃d,cl.lookup x=some d/\AM d v h
 inj:∀x y d,cl.lookup x=some d->cl.lookup y=some d->x=y
 free:∀x d,cl.lookup x=some d->x∈fv/\H d=none
structure nX(P:Program)(w:World)(K:C0)(mg:Str->Option Value)(base:Heap)(k:Nat)(L:jG)(ps fv:List Str)(sp:Lw):Prop where
 len:∀vs fm H Q,sp vs fm H Q->vs.length=ps.length
 run:∀(A:Around) (outer:List Env) (s:Shared) (H:Hp) (f c:Addr) (cl:List (Str×Addr)) (us:List Value) (vs fm:List V) (Q:VK),cB k A->mi P w K mg base A outer s H->jf f L c cl s.heap->pj c L.qual s.heap->II s.heap H cl fv fm->Vals vs us->sp vs fm H Q->
  codeAny (model P w) A (.call (.ref f) ⟨us,[]⟩) (CR (λ _ _ _ _ _ _=>False) outer P w H s Q λ _ _ _=>False) s
theorem ES{x:Str}{u:Value}:∀{ps:List Str} {us:List Value} {i:Nat},ps.Nodup->ps[i]?=some x->us[i]?=some u->(ps.zip us).reverse.lookup x=some u:=by
 intro ps us i nd h1 h2;have mem:(x,u)∈ps.zip us:=by have:(ps.zip us)[i]?=some (x,u):=getElem?_zip_eq_some.mpr ⟨h1,h2⟩;exact j4 this
 have un:∀v,(x,v)∈ps.zip us->v=u:=λ v hv=>by obtain⟨j,hj⟩:=mem_iff_getElem?.mp hv;obtain⟨a,b⟩:=getElem?_zip_eq_some.mp hj;have:=fQ nd h1 a;subst this;rw[h2]at b;exact(u6 b).symm
 have go:∀l:List (Str×Value),(x,u)∈l->(∀v,(x,v)∈l->v=u)->l.lookup x=some u:=by
  intro l
  induction l with
  |nil=>intro h;cases h
  |cons p l ih=>
   intro h hu;obtain⟨y,v⟩:=p;rw[p4];cases hy:x==y with
   |true=>
    have:x=y:=by simpa using hy
    subst this;rw[hu v (.head _)]
   |false=>
    rcases y8.mp h with e|h
    ·cases e;simp at hy
    ·exact ih h λ w hw=>hu w (.tail _ hw)
 exact go _ (mem_reverse.mpr mem) λ v hv=>un v (mem_reverse.mp hv)
theorem Hr{P:Program}{w:World}{K:C0}{mg:Str->Option Value}{base:Heap}{k:Nat}{L:jG}{ps fv:List Str}{sp:Lw}(S:iN ps fv L.scope)(len:∀vs fm H Q,sp vs fm H Q->vs.length=ps.length) (lR:∀(cl:List (Str×Addr)) (c:Addr) (kB:Value) (us:List Value),us.length=ps.length->bindArgs (PySem.W.kla_fn "<lambda>" L.qual L.params L.body L.scope cl L.pm (.ref c) kB) ⟨us,[]⟩=pure (ps.zip us)) (dw:∀(A:Around) (outer:List Env) (s:Shared) (H:Hp) (f c:Addr) (cl:List (Str×Addr)) (vs fm:List V) (Q:VK),cB k (A.deeper (PySem.W.envX L.qual L.scope s.heap.objs.size f (.ref c) cl))->sp vs fm H Q->
   ∃t,PE (rl P w K mg base (ps++fv) L.qual L.scope f c cl A outer s H) L.body t/\t ((vs++fm).map some) H Q):nX P w K mg base (k+1) L ps fv sp:=by
 refine⟨len,λ A outer s H f c cl us vs fm Q hr e0 hf hc hC r wX=>?_⟩;have hl:=len _ _ _ _ wX;have lim:s.heap.NoLimit:=e0.mod.nolimit.keeps λ b o e=>(e0.bs b o e).1;obtain⟨kB,ef⟩:=hf;refine PySem.W.kla_callFunE hr.depth ef rfl S.co S.gen rfl hc ?_;rw[lR cl c kB us (by rw[<- r.length];exact hl)];refine B1 (wpAny_newFunctionEnv S.zu (λ y hy=>S.par _ (of_mem_zip (show(y.1,y.2)∈ps.zip us from hy)).1) (λ h1 N4 DE=>⟨lim.fresh _ DE,?_⟩) S.kind);show codeAny _ _ (.expr L.body (PySem.W.envX L.qual L.scope s.heap.objs.size f (.ref c) cl)) _ _;have Jb:∀b o,s.heap.get? b=some o->h1.get? b=some o:=λ b o e=>DE.extBut b o (z9 (A0 e)) (i5 _ e);obtain⟨t,ht,hq⟩:=dw A outer s H f c cl vs fm Q (hr.deeper _) wX;have I:Inv (rl P w K mg base (ps++fv) L.qual L.scope f c cl A outer s H) [] ((vs++fm).map some) H {s with heap:=h1,toks:=s.toks+(ps.zip us).length}:=by
  have zw:∀b:Addr,b∉(rl P w K mg base (ps++fv) L.qual L.scope f c cl A outer s H).ex:=λ b z=>absurd (show b∈([]:List Addr)from z) (by simp);refine⟨⟨e0.mod,S.kind,rfl,rfl,A6 _,hC.inj,λ y hy=>?_,λ y d z=>(by cases z),λ _=>hr.hd,Around.frames_deeper e0.frames,.inr ⟨rfl,rfl⟩,λ b z=>absurd z (zw b),e0.bs,e0.xo,λ b _ _=>zw b,λ b z=>absurd z (zw b),e0.gR,e0.DK⟩,
   rfl,e0.bare,Un.kept Jb,⟨_,N4,λ i y v q1 q2 q3=>?_⟩,λ y d q=>?_,e0.aZ.fresh (A6 _),λ y d q=>(hC.free y d q).2,λ p hp=>absurd (show p∈([]:List (Addr×Obj))from hp) (by simp),e0.aZ.kept Jb,?_⟩
  ·have hy:L.scope.names.lookup y=some .cell\/L.scope.names.lookup y=some .free:=hy;rcases hy with hy|hy
   ·exact absurd rfl (S.zu _ (j7 hy))
   ·obtain⟨i,hi⟩:=mem_iff_getElem?.mp (S.all y hy);have lt:i < fm.length:=by rw[hC.len];exact(c6.mp hi).1
    obtain⟨d,q,_⟩:=hC.val i y _ hi (c9 lt);exact⟨d,q⟩
  ·have q2:(vs++fm)[i]?=some v:=by
    rw[m8]at q2;cases z:(vs++fm)[i]? with
    |none=>rw[z]at q2;cases q2
    |some a=>rw[z]at q2;cases q2;rfl
   have q1:(ps++fv)[i]?=some y:=q1;by_cases hi:i < ps.length
   ·rw[c4 hi]at q1;rw[c4 (by rw[hl];exact hi)]at q2;obtain⟨u,hu,rv⟩:=r.get q2;exact⟨u,rv,.inl ⟨S.par y (j4 q1),ES (nodup_append.mp S.nd).1 q1 hu⟩⟩
   ·rw[a9 (by omega)]at q1;rw[a9 (by omega),hl]at q2;obtain⟨d,q,u,rv,ic⟩:=hC.val _ y v q1 q2;exact⟨u,rv,.inr ⟨.inr (S.Ig y (j4 q1)),d,q,let⟨o,a,b⟩:=ic;⟨o,Jb _ _ a,b⟩⟩⟩
  ·obtain⟨i,hi⟩:=mem_iff_getElem?.mp (hC.free y d q).1;have lt:i < fm.length:=by rw[hC.len];exact(c6.mp hi).1
   obtain⟨d',q',u,_,ic⟩:=hC.val i y _ hi (c9 lt);have:d'=d:=u6 (q'.symm.trans q);subst this;exact⟨some u,let⟨o,a,b⟩:=ic;⟨o,Jb _ _ a,b⟩⟩
  ·show _=(ps++fv).length;rw[w6,k9,k9,hl,hC.len]
 refine PySem.W.kla_codeExpr (B4 (ht [] _ _ H Q I hq) (λ u s' hs=>?_) λ e s' hs=>False.elim hs);obtain⟨v,H',J,rv,q⟩:=hs;exact⟨v,H',J.os,J.bare,J.base,J.aZ,rv,q⟩
end L2
namespace L2
open PySem PySem.Spec PyProof.Rows
structure LJ(cells:List (Str×Addr))(cn:List (Str×Nat))(σ:St)(C:gf):Prop where
 has:∀x j,(x,j)∈cn->∃d o v,cells.lookup x=some d/\σ[j]?=some (some v)/\C d=some (o,v)
 only:∀d p,C d=some p->∃x j,(x,j)∈cn/\cells.lookup x=some d
section
variable {X:Cx}{pins:List (Addr×Obj)}{σ:St}{H:Hp}{s:Shared}
theorem Inv.Lq (I:Inv X pins σ H s):∀(cn:List (Str×Nat)),(∀x j,(x,j)∈cn->X.env.kindOf x=some .cell/\X.N[j]?=some x/\∃v,σ[j]?=some (some v))->X.N.Nodup->∃C,LJ X.env.cells cn σ C/\mm C s.heap
 |[],_,_=>⟨λ _=>none,⟨(λ _ _ h=>nomatch h),(λ _ _ h=>nomatch h)⟩,(λ _ _ h=>nomatch h)⟩
 |(x,j)::cn,h,nd=>by
  obtain⟨C,h1,h2⟩:=I.Lq cn (λ y i hy=>h y i (.tail _ hy)) nd;obtain⟨hk,hN,v,hv⟩:=h x j (.head _);obtain⟨m,hn,hl⟩:=I.loc;obtain⟨u,r,lk⟩:=hl j x v hN hv (.inr (.inl hk));rcases lk with⟨q,_⟩|⟨_,d,hd,hc⟩
  ·rw[hk]at q;cases q
  obtain⟨o,ho,hz⟩:=D1 r hc;refine⟨λ b=>if b=d then some (o,v)else C b,⟨λ y i hy=>?_,λ b p hb=>?_⟩,λ b p hb=>?_⟩
  ·rcases y8.mp hy with e|Ph
   ·cases e;exact⟨d,o,v,hd,hv,B8 rfl⟩
   ·obtain⟨d',o',v',e1,e2,e3⟩:=h1.has y i Ph;by_cases z:d'=d
    ·subst z;have Sw:y=x:=I.ok.inj _ _ _ e1 hd;subst Sw;obtain⟨_,R8,_⟩:=h y i (.tail _ Ph);have:i=j:=fQ nd R8 hN;subst this;exact⟨d',o,v,hd,hv,B8 rfl⟩
    ·exact⟨d',o',v',e1,e2,(B9 z).trans e3⟩
  ·by_cases z:b=d
   ·subst z;exact⟨x,j,.head _,hd⟩
   ·have hb:C b=some p:=(B9 z).symm.trans hb;obtain⟨y,i,m1,m2⟩:=h1.only b p hb;exact⟨y,i,.tail _ m1,m2⟩
  ·by_cases z:b=d
   ·subst z;have hb:some (o,v)=some p:=(B8 rfl).symm.trans hb;cases hb;exact⟨ho,u,r,hc⟩
   ·exact h2 b p ((B9 z).symm.trans hb)
end
section
variable {X:Cx}{k:Nat}{f:Addr}{fd:FuncData}{ps:List Str}{sp:Sp}{pU:List V}{ds:List Value}{x:Str}{p pos:Pos}{e:Expr}{es:List Expr}{t:TA}{cn:List (Str×Nat)}
def E8(sp:Sp)(pU:List V)(cells:List (Str×Addr))(cn:List (Str×Nat))(t:TA):TE:=λ σ H Q=>t σ H λ vs H1=>(∀x j,(x,j)∈cn->∃v,σ[j]?=some (some v))/\
 ∀C,LJ cells cn σ C->(∀x j y i b,(x,j)∈cn->(y,i)∈cn->cells.lookup x=some b->cells.lookup y=some b->j=i)->(∀b p,C b=some p->H1 b=none)->sp (vs++pU) (gS H1 C) (λ v H'=>Q v (fi H' C)) E0
theorem ze(F:cu X.prog X.w X.K X.mg X.base fh k f fd ps sp)(hr:cB k X.A)(hg:Gl X x)(hm:X.mg x=some (.ref f))(hk:PySem.W.keepIn X.K (.ref f)=true)(hb:Binds X.K fd ps ds)(hd:Vals pU ds) (nI:∀x j,(x,j)∈cn->X.env.kindOf x=some .cell/\X.N[j]?=some x/\X.fn x=true) (hN:X.N.Nodup) (ha:PA X (e::es) t) (hdb:(x==("__debug__":Str))=false:=by decide) (he:starEach (e::es) X.env=(false,eval e X.env)::starEach es X.env:=by rfl) (hpl:(backTo pos (starEach es X.env)).any (·.1)=false:=by rfl):PE X (.Call (.Name x p) (e::es) [] pos) (E8 sp pU X.env.cells cn t):=by
 intro pins s σ H Q I h;refine l9 (uN I hg hm ?_ hdb);refine PySem.W.callWith_K (h₀:=X.base) I.ok.mod.KA hk (cG (ha pos pins s σ H _ I h) λ us s1 ⟨vs,H1,I1,r,hv,q⟩=>⟨I1.mD,?_⟩) he hpl;obtain⟨C,hC,Qi⟩:=I1.Lq cn (λ x j hx=>⟨(nI x j hx).1,(nI x j hx).2.1,hv x j hx⟩) hN;have fr:∀b p,C b=some p->H1 b=none/\X.base.get? b=none/\b∉pT X.stack:=λ b p hb=>by
  obtain⟨y,j,m1,m2⟩:=hC.only b p hb;have ge:=I1.ok.Jj y b (nI y j m1).2.2 m2;refine⟨I1.eJ y b m2,Heap.get?_none_of_le (A2 I1.ok.xo ge),λ z=>?_⟩;rcases y8.mp (I1.ll b z)with z|z
  ·exact I1.EL y b m2 z
  ·obtain⟨_,o,ho,_⟩:=I1.ok.gR.mem z;exact absurd (A0 ho) (Nat.not_lt.mpr ge)
 have q:=q C hC (λ y j z i b m1 m2 e1 e2=>by have:=I1.ok.inj _ _ _ e1 e2;subst this;exact fQ hN (nI _ _ m1).2.1 (nI _ _ m2).2.1) λ b p hb=>(fr b p hb).1;have r2:Vals (vs++pU) (us++ds):=r.append hd;have hl:(us++ds).length=ps.length:=by rw[<- r2.length];exact F.len _ _ _ _ q
 refine wpAny_call (codeAny_mono (F.run X.A X.stack s1 (gS H1 C) ⟨us,[]⟩ (us++ds) (vs++pU) _ E0 hr (I1.Ii.cD fr Qi) (hb s1 us I1.mD hl) r2 q) λ r s' hq=>?_);cases r with
 |error e=>exact False.elim hq
 |ok fl=>
  cases fl with
  |ret u=>have hq:=CE.xM hq (λ b p hb=>⟨(fr b p hb).1,(fr b p hb).2.2⟩) Qi;obtain⟨v,H2,I2,rv,H',e,hf,q⟩:=I1.after hq;exact⟨v,H2,I2,rv,by rw[e];exact q⟩
  |next=>exact False.elim hq
  |brk=>exact False.elim hq
  |cont=>exact False.elim hq
end
section
variable {X:Cx}{k:Nat}{x:Str}{p pos:Pos}{e:Expr}{es:List Expr}{t:TA}{i:Nat}
structure LB(H:Hp)(f:Addr)(L:jG)(fv:List Str)(fm:List V)(C:gf):Prop where
 ex:∃c cl,(∃o,H f=some (.cD o (.ext (jf f L c cl))))/\(∃o,H c=some (.cD o (.ext (pj c L.qual))))/\(∀x y d,cl.lookup x=some d->cl.lookup y=some d->x=y)/\(∀x d,cl.lookup x=some d->x∈fv/\∃p,C d=some p)/\
  ∀(i:Nat) (x:Str) (v:V),fv[i]?=some x->fm[i]?=some v->∃d o,cl.lookup x=some d/\C d=some (o,v)
 len:fm.length=fv.length
 cD:∀b p,C b=some p->H b=some (eV p.1 b p.2)
def QC(P:Program)(w:World)(K:C0)(mg:Str->Option Value)(base:Heap)(k:Nat)(i:Nat)(t:TA):TE:=λ σ H Q=>∃f,σ[i]?=some (some (.ref f))/\(∃o L c cl,H f=some (.cD o (.ext (jf f L c cl))))/\t σ H λ vs H1=>∃(L:jG) (ps fv:List Str) (sp:Lw) (fm:List V) (C:gf),
 nX P w K mg base k L ps fv sp/\LB H1 f L fv fm C/\sp vs fm (fi H1 C) λ v H'=>(∀b p,C b=some p->H' b=none)->Q v (gS H' C)
theorem ED{H:Hp}{h:Heap}{P:Program}{w:World}{f c:Addr}{o:Obj}{L:jG}{cl:List (Str×Addr)}(aZ:fg P w H h)(e:H f=some (.cD o (.ext (jf f L c cl)))):jf f L c cl h:=(aZ f _ e).2.1
theorem uZ{h:Heap}{f c:Addr}{L:jG}{cl:List (Str×Addr)}(x:jf f L c cl h):PySem.W.FnAt f h:=let⟨kB,e⟩:=x;⟨_,_,_,_,e⟩
theorem zd(hr:cB k X.A)(hi:X.N[i]?=some x)(hv:EN X.env.scope x)(ha:PA X (e::es) t)(hd:(x==("__debug__":Str))=false:=by decide)(hcd:(x==("__classdict__":Str))=false:=by decide) (he:starEach (e::es) X.env=(false,eval e X.env)::starEach es X.env:=by rfl) (hpl:(backTo pos (starEach es X.env)).any (·.1)=false:=by rfl):PE X (.Call (.Name x p) (e::es) [] pos) (QC X.prog X.w X.K X.mg X.base k i t):=by
 intro pins s σ H Q I h;obtain⟨f,ef,⟨o0,L0,c0,Qj,e0⟩,h⟩:=h;refine l9 (cG (yX hi hv hd hcd pins s σ H (λ v H'=>v=.ref f/\H'=H) I ⟨.ref f,ef,rfl,rfl⟩) λ u s0 ⟨v,H0,I0,rv,ev,eH⟩=>?_);subst ev;subst eH;cases(show u=Value.ref f from rv);have RQ:=ED I0.aZ e0;refine PySem.W.callWith_F (uZ RQ) (cG (ha pos pins s0 σ H0 _ I0 h) λ us s1 ⟨vs,H1,I1,r,L,ps,fv,sp,fm,C,ok,at',q⟩=>?_) he hpl;obtain⟨c,cl,⟨o1,h1⟩,⟨o2,h2⟩,inj,Ig,val⟩:=at'.ex;have PD:=ED I1.aZ h1;have RT:pj c L.qual s1.heap:=(I1.aZ c _ h2).2.1;refine⟨uZ PD,wpAny_call (codeAny_mono (ok.run X.A X.stack s1 (fi H1 C) f c cl us vs fm _ hr (I1.Ii.xM at'.cD) PD RT ⟨at'.len,λ i x v a b=>?_,inj,λ x d z=>?_⟩ r q) λ r s' hq=>?_)⟩
 ·obtain⟨d,o,e1,e2⟩:=val i x v a b;exact⟨d,e1,(I1.aZ d _ (at'.cD d _ e2)).2.2.1⟩
 ·obtain⟨a,b,z2⟩:=Ig x d z;exact⟨a,eS z2⟩
 ·cases r with
  |error e=>exact False.elim hq
  |ok fl=>
   cases fl with
   |ret u=>exact I1.after (CE.cD hq I1.aZ at'.cD I1.oq)
   |next=>exact False.elim hq
   |brk=>exact False.elim hq
   |cont=>exact False.elim hq
end
end L2
namespace L3
open PySem PySem.Spec PyProof.Rows L2 L5
abbrev CM:=Addr->Option D
def gF(M:Mem)(C:CM):Mem:=λ b=>match C b with
 |some d=>some (.g_ (.vC d))
 |none=>M b
def f_(M:Mem)(C:CM):Mem:=λ b=>match C b with
 |some _=>none
 |none=>M b
theorem kI{M:Mem}{C:CM}{b:Addr}{d:D}(e:C b=some d):gF M C b=some (.g_ (.vC d)):=by unfold gF;rw[e]
theorem iJ{M:Mem}{C:CM}{b:Addr}(e:C b=none):gF M C b=M b:=by unfold gF;rw[e]
theorem DS{M:Mem}{C:CM}{b:Addr}{d:D}(e:C b=some d):f_ M C b=none:=by unfold f_;rw[e]
theorem kq{M:Mem}{C:CM}{b:Addr}(e:C b=none):f_ M C b=M b:=by unfold f_;rw[e]
theorem cV(C:CM)(b:Addr):C b=none\/∃d,C b=some d:=by
 cases e:C b with
 |none=>exact .inl rfl
 |some p=>exact .inr ⟨p,rfl⟩
structure Bb(K:C0)(H:Hp)(C:gf)(M:CM):Prop where
 l:∀b p,C b=some p->∃d,M b=some d/\Dat K H d p.2
 r:∀b d,M b=some d->∃p,C b=some p
theorem Bb.none {K:C0}{H:Hp}{C:gf}{M:CM}(h:Bb K H C M)(b:Addr):C b=Option.none↔M b=Option.none:=by
 constructor
 ·intro e;rcases cV M b with z|⟨d,z⟩
  ·exact z
  ·obtain⟨p,q⟩:=h.r b d z;rw[q]at e;cases e
 ·intro e;rcases aE C b with z|⟨p,z⟩
  ·exact z
  ·obtain⟨d,q,_⟩:=h.l b p z;rw[q]at e;cases e
section
variable {K:C0}{H:Hp}{C:gf}{N:CM}{M:Mem}
theorem oo(hC:∀b p,C b=some p->∃o v,H b=some (eV o b v)):xq H (fi H C):=by
 have ne:∀b u,H b=some u->(∀o v,u≠eV o b v)->C b=none:=λ b u e n=>by
  rcases aE C b with z|⟨p,z⟩
  ·exact z
  ·obtain⟨o,v,q⟩:=hC b p z;rw[q]at e;exact absurd (u6 e).symm (n o v)
 exact⟨λ b xs e=>by rw[aX (ne b _ e λ o v z=>by cases z)];exact e,λ b o xs e=>by rw[aX (ne b _ e λ o v z=>by cases z)];exact e,λ b o xs e=>by rw[aX (ne b _ e λ o v z=>by cases z)];exact e⟩
theorem ko(hC:∀b p,C b=some p->H b=none):ak H (gS H C):=by
 have ne:∀b u,H b=some u->C b=none:=λ b u e=>by
  rcases aE C b with z|⟨p,z⟩
  ·exact z
  ·rw[hC b p z]at e;cases e
 exact⟨λ b xs e=>by rw[bw (ne b _ e)];exact e,λ b o xs e=>by rw[bw (ne b _ e)];exact e⟩
theorem mP.xM {a:Addr}{o:MO}(h:mP K H a o)(hC:∀b p,C b=some p->∃o v,H b=some (eV o b v))(ha:C a=none):mP K (fi H C) a o:=by
 have ts:=oo hC;have kp:∀b u,H b=some u->(∀o v,u≠eV o b v)->fi H C b=some u:=λ b u e n=>by
  rcases aE C b with z|⟨p,z⟩
  ·rw[aX z];exact e
  ·obtain⟨o,v,q⟩:=hC b p z;rw[q]at e;exact absurd (u6 e).symm (n o v)
 have ea:fi H C a=H a:=aX ha;cases o with
 |lst ds=>obtain⟨xs,h,q⟩:=h;exact⟨xs,ea.trans h,ax.mon ts ds q⟩
 |cE b kvs=>
  cases b with
  |false=>obtain⟨xs,h,q⟩:=h;exact⟨xs,ea.trans h,Paired.qI q λ p q z=>⟨z.1,Dat.mon ts _ z.2⟩⟩
  |true=>obtain⟨xs,h,q⟩:=h;exact⟨xs,ea.trans h,Paired.qI q λ p q z=>⟨z.1,z.2.1,Dat.mon ts _ z.2.2.1,Dat.mon ts _ z.2.2.2⟩⟩
 |g_ x=>
  cases x with
  |lam L cl=>obtain⟨c,⟨o,h⟩,o',h'⟩:=h;exact⟨c,⟨o,ea.trans h⟩,o',kp _ _ h' λ o v z=>by cases z⟩
  |vC d=>obtain⟨o,v,h,q⟩:=h;exact⟨o,v,ea.trans h,Dat.mon ts d q⟩
  |j_ q=>obtain⟨cs,h1,h2⟩:=h;exact⟨cs,ea.trans h1,λ p hp=>let⟨o,z⟩:=h2 p hp;⟨o,kp _ _ z λ o v y=>by cases y⟩⟩
theorem RelM.cD (h:RelM K H M)(hC:∀b p,C b=some p->H b=none)(c:Bb K H C N):RelM K (gS H C) (gF M N):=λ a o e=>by
 have t:=ko hC;rcases cV N a with z|⟨d,z⟩
 ·rw[iJ z]at e;exact(h a o e).mono t (bw ((c.none a).mpr z))
 ·rw[kI z]at e;cases e;obtain⟨p,q⟩:=c.r a d z;obtain⟨d',q',r⟩:=c.l a p q;rw[z]at q';cases q';exact⟨_,_,gw q,Dat.mono t _ r⟩
theorem RelM.xM (h:RelM K H M)(hC:∀b p,C b=some p->∃o v,H b=some (eV o b v))(c:∀b,C b=none↔N b=none):RelM K (fi H C) (f_ M N):=λ a o e=>by
 rcases cV N a with z|⟨d,z⟩
 ·rw[kq z]at e;exact(h a o e).xM hC ((c a).mpr z)
 ·rw[DS z]at e;cases e
end
section
variable {X:Cx}{L:jG}{c P:Addr}{pos:Pos}
def Fj(P:Addr)(L:jG)(cells:List (Str×Addr)):bT:=λ _ M Q=>M P=some (.g_ (.j_ L.qual))/\∀f,M f=none->(∀x d,cells.lookup x=some d->d≠f)->Q (.ref f) (ah M f (.g_ (.lam L (bo cells L.scope.names []))))
theorem J8(nH:X.env.code=.ref c)(B:Eb X.mg X.base c P)(Ai:defaultsOf L.params X.env=([],[]))(Ab:L.pm=(X.mg "__name__").getD .none)(hq:X.env.qual++"<lambda>"=L.qual) (uV:∀n,(n,NameKind.free)∈L.scope.names->X.env.kindOf n=some .cell\/X.env.kindOf n=some .free):QE X (.Lambda L.params L.body L.scope pos) (Fj P L X.env.cells):=by
 refine bF (GL nH B Ai Ab hq uV) ?_;rintro σ H Q ⟨δ,M,Q2,hs,hm,⟨hP,q⟩,k⟩;have tb:EO H P L.qual:=hm P _ hP;obtain⟨cs,eP,Aj⟩:=id tb;refine⟨tb,λ f c H' nf hf old Qv hc hl=>?_⟩;have t:ak H H':=⟨λ b xs e=>old b _ (λ z=>by rw[z,eP]at e;cases e) e,λ b o u e=>old b _ (λ z=>by rw[z,eP]at e;cases e) e⟩;refine k _ H' _ _ (aA.mpr rfl) (λ a o e=>?_) t (q f (hm.free nf) hf);by_cases z:a=f
 ·subst z;rw[af]at e;cases e;exact⟨c,hl,hc⟩
 ·rw[av z]at e;by_cases y:a=P
  ·subst y;rw[hP]at e;cases e;exact Qv
  ·obtain⟨u,hu⟩:=(hm a o e).there;exact(hm a o e).mono t (by rw[hu];exact old a u y hu)
end
structure Ec(cells:List (Str×Addr))(cn:List (Str×Nat))(δ:cI)(C:CM):Prop where
 has:∀x j,(x,j)∈cn->∃b d,cells.lookup x=some b/\δ[j]?=some (some d)/\C b=some d
 only:∀b d,C b=some d->∃x j,(x,j)∈cn/\cells.lookup x=some b
 inj:∀x j y i b,(x,j)∈cn->(y,i)∈cn->cells.lookup x=some b->cells.lookup y=some b->x=y
section
variable {X:Cx}{x:Str}{p pos:Pos}{e:Expr}{es:List Expr}{t:dP}{k j:Nat}{ps:List Str}{sp:gK}{cn:List (Str×Nat)}
def MY(sp:gK)(cells:List (Str×Addr))(cn:List (Str×Nat))(t:dP):bT:=λ δ M Q=>t δ M λ ds M1=>(∀x j,(x,j)∈cn->∃d,δ[j]?=some (some d))/\∀C,Ec cells cn δ C->(∀b d,C b=some d->M1 b=none)->sp ds (gF M1 C) λ d M'=>Q d (f_ M' C)
set_option tactic.hygienic true in
theorem CP(d:dj X.prog X.w X.K X.mg X.base k x ps sp)(hr:cB k X.A)(hg:Gl X x)(nI:∀x j,(x,j)∈cn->X.env.kindOf x=some .cell/\X.N[j]?=some x/\X.fn x=true)(hN:X.N.Nodup)(ha:QA X (e::es) t) (hdb:(x==("__debug__":Str))=false:=by decide) (he:starEach (e::es) X.env=(false,eval e X.env)::starEach es X.env:=by rfl) (hpl:(backTo pos (starEach es X.env)).any (·.1)=false:=by rfl):QE X (.Call (.Name x p) (e::es) [] pos) (MY sp X.env.cells cn t):=by
 obtain⟨f,fd,G,hm,kp,b⟩:=d.ex;refine bF (ze (cn:=cn) G hr hg hm kp b .nil nI hN ha hdb he hpl) ?_;rintro σ H Q ⟨δ,M,Q2,hs,hm,q,k⟩;refine⟨δ,M,_,hs,hm,q,λ vs H1 ds M1 hd bP t1 ⟨hv,q1⟩=>⟨λ x j hx=>?_,λ C hC un hn=>?_⟩⟩
 ·obtain⟨d,e⟩:=hv x j hx;obtain⟨v,e',_⟩:=hs.get j d e;exact⟨v,e'⟩
 ·have ex:∀b p,C b=some p->∃d,(∃x j,(x,j)∈cn/\X.env.cells.lookup x=some b/\δ[j]?=some (some d))/\Dat X.K H1 d p.2:=λ b p hb=>by obtain⟨y,i,m1,m2⟩:=hC.only b p hb;obtain⟨b',o,v,l1,l2,l3⟩:=hC.has y i m1;rw[m2]at l1;cases l1;rw[hb]at l3;cases l3;obtain⟨d,e⟩:=hv y i m1;obtain⟨v',e',r⟩:=hs.get i d e;rw[l2]at e';cases e';exact⟨d,⟨y,i,m1,m2,e⟩,Dat.mono t1 d r⟩
  let N:CM:=λ b=>match h:C b with
   |some p=>some (ex b p h).choose
   |none=>none
  have N1:∀b p (h:C b=some p),N b=some (ex b p h).choose:=λ b p h=>by
   show(match h:C b with|some p=>some (ex b p h).choose|none=>none)=_;split
   ·rename_i p' h';have:=h.symm.trans h';cases this;rfl
   ·rename_i h';rw[h]at h';cases h'
  have N2:∀b,C b=none->N b=none:=λ b h=>by
   show(match h:C b with|some p=>some (ex b p h).choose|none=>none)=_;split
   ·rename_i p' h';rw[h]at h';cases h'
   ·rfl
  have cr:Bb X.K H1 C N:=⟨λ b p h=>⟨_,N1 b p h,(ex b p h).choose_spec.2⟩,λ b d h=>by
   rcases aE C b with z|⟨p,z⟩
   ·rw[N2 b z]at h;cases h
   ·exact⟨p,z⟩⟩
  have cm:Ec X.env.cells cn δ N:=by
   refine⟨λ y i hy=>?_,λ b d hb=>?_,λ x1 j1 y1 i1 b h1 h2 h3 h4=>by
    have e1:=(nI x1 j1 h1).2.1;rw[un x1 j1 y1 i1 b h1 h2 h3 h4,(nI y1 i1 h2).2.1]at e1;exact(u6 e1).symm⟩
   ·obtain⟨b,o,v,l1,l2,l3⟩:=hC.has y i hy;obtain⟨⟨y',i',m1,m2,m3⟩,_⟩:=(ex b (o,v) l3).choose_spec;refine⟨b,(ex b (o,v) l3).choose,l1,?_,N1 b _ l3⟩;have:i'=i:=un y' i' y i b m1 hy m2 l1;rw[<- this];exact m3
   ·obtain⟨p,z⟩:=cr.r b d hb;obtain⟨y,i,m1,m2⟩:=hC.only b p z;exact⟨y,i,m1,m2⟩
  have HN:∀b d,N b=some d->M1 b=none:=λ b d hb=>let⟨p,z⟩:=cr.r b d hb;bP.free (hn b p z)
  have cN:∀b,C b=none↔N b=none:=cr.none;refine⟨ds,gF M1 N,_,?_,bP.cD hn cr,q1 N cm HN,λ v H' d M' mw eg t' q'=>?_⟩
  ·rw[q9];exact ax.mono (ko hn) ds hd
  ·have hf:∀b p,C b=some p->∃o v,H' b=some (eV o b v):=λ b p z=>⟨_,_,t'.cD _ _ _ (gw z)⟩;have ts:=oo hf;refine k v (fi H' C) d (f_ M' N) (Dat.mon ts d mw) (eg.xM hf cN) (t1.trans ?_) q';have tt:=(ko hn).trans t';have ne:∀b u,H1 b=some u->C b=none:=λ b u e=>by
    rcases aE C b with z|⟨p,z⟩
    ·exact z
    ·rw[hn b p z]at e;cases e
   exact⟨λ b xs e=>by rw[aX (ne b _ e)];exact tt.tup b xs e,λ b o u e=>by rw[aX (ne b _ e)];exact tt.cD b o u e⟩
end
end L3
namespace L3
open PySem PySem.Spec PyProof.Rows L2 L5
abbrev rG:=List D->List D->Mem->bD->Prop
def Js(K:C0)(sp:rG):Lw:=λ vs fm H Q=>∃ds cs M Q2,ax K H ds vs/\ax K H cs fm/\RelM K H M/\sp ds cs M Q2/\gH K H Q2 Q
abbrev xw(P:Program)(w:World)(K:C0)(mg:Str->Option Value)(base:Heap)(k:Nat)(L:jG)(ps fv:List Str)(sp:rG):Prop:=nX P w K mg base k L ps fv (Js K sp)
structure xu(M:Mem)(f:Addr)(L:jG)(fv:List Str)(cs:List D)(C:CM):Prop where
 ex:∃cl,M f=some (.g_ (.lam L cl))/\(∀x y b,cl.lookup x=some b->cl.lookup y=some b->x=y)/\(∀x b,cl.lookup x=some b->x∈fv/\∃d,C b=some d)/\∀(i:Nat) (x:Str) (d:D),fv[i]?=some x->cs[i]?=some d->∃b,cl.lookup x=some b/\C b=some d
 len:cs.length=fv.length
 vC:∀b d,C b=some d->M b=some (.g_ (.vC d))
theorem vf{K:C0}{H:Hp}:∀{ds:List D} {vs:List V},ds.length=vs.length->(∀(i:Nat) (d:D) (v:V),ds[i]?=some d->vs[i]?=some v->Dat K H d v)->ax K H ds vs
 |[],[],_,_=>aj.mpr rfl
 |d::ds,v::vs,hl,h=>ag.mpr ⟨v,vs,rfl,h 0 d v rfl rfl,vf (by simpa using hl) λ i d' v' a b=>h (i+1) d' v' (by simpa using a) (by simpa using b)⟩
section
variable {X:Cx}{k:Nat}{x:Str}{p pos:Pos}{e:Expr}{es:List Expr}{t:dP}{i:Nat}
def MX(P:Program)(w:World)(K:C0)(mg:Str->Option Value)(base:Heap)(k:Nat)(i:Nat)(t:dP):bT:=λ δ M Q=>∃f,δ[i]?=some (some (.ref f))/\(∃L cl,M f=some (.g_ (.lam L cl)))/\t δ M λ ds M1=>∃(L:jG) (ps fv:List Str) (sp:rG) (cs:List D) (C:CM),
 xw P w K mg base k L ps fv sp/\xu M1 f L fv cs C/\sp ds cs (f_ M1 C) λ d M'=>Q d (gF M' C)
set_option tactic.hygienic true in
theorem CO(hr:cB k X.A)(hi:X.N[i]?=some x)(hv:EN X.env.scope x)(ha:QA X (e::es) t)(hd:(x==("__debug__":Str))=false:=by decide)(hcd:(x==("__classdict__":Str))=false:=by decide) (he:starEach (e::es) X.env=(false,eval e X.env)::starEach es X.env:=by rfl) (hpl:(backTo pos (starEach es X.env)).any (·.1)=false:=by rfl):QE X (.Call (.Name x p) (e::es) [] pos) (MX X.prog X.w X.K X.mg X.base k i t):=by
 refine bF (zd hr hi hv ha hd hcd he hpl) ?_;rintro σ H Q ⟨δ,M,Q2,hs,hm,⟨f,ef,⟨L0,Qj,el⟩,q⟩,kk⟩;obtain⟨v,ev,rv⟩:=hs.get i _ ef;cases(aA.mp rv);obtain⟨c0,⟨o0,h0⟩,_⟩:=hm f _ el;refine⟨f,ev,⟨o0,L0,c0,Qj,h0⟩,δ,M,_,hs,hm,q,λ vs H1 ds M1 hd bP t1 ⟨L,ps,fv,sp,cs,C,ok,at',q1⟩=>?_⟩;obtain⟨cl,hl,inj,Ig,val⟩:=at'.ex;obtain⟨c,hf,hc⟩:=bP f _ hl;have ex:∀b d,C b=some d->∃p:Obj×V,H1 b=some (eV p.1 b p.2)/\Dat X.K H1 d p.2:=λ b d z=>let⟨o,v,a,r⟩:=bP b _ (at'.vC b d z);⟨(o,v),a,r⟩
 let N:gf:=λ b=>match h:C b with
  |some d=>some (ex b d h).choose
  |none=>none
 have N1:∀b d (h:C b=some d),N b=some (ex b d h).choose:=λ b d h=>by
  show(match h:C b with|some d=>some (ex b d h).choose|none=>none)=_;split
  ·rename_i p' h';have:=h.symm.trans h';cases this;rfl
  ·rename_i h';rw[h]at h';cases h'
 have N2:∀b,C b=none->N b=none:=λ b h=>by
  show(match h:C b with|some d=>some (ex b d h).choose|none=>none)=_;split
  ·rename_i p' h';rw[h]at h';cases h'
  ·rfl
 have Nb:∀b p,N b=some p->∃d,C b=some d/\H1 b=some (eV p.1 b p.2)/\Dat X.K H1 d p.2:=λ b p h=>by
  rcases cV C b with z|⟨d,z⟩
  ·rw[N2 b z]at h;cases h
  ·rw[N1 b d z]at h;cases h;exact⟨d,z,(ex b d z).choose_spec⟩
 have hN:∀b,N b=none↔C b=none:=λ b=>by
  constructor
  ·intro h;rcases cV C b with z|⟨d,z⟩
   ·exact z
   ·rw[N1 b d z]at h;cases h
  ·exact N2 b
 have K5:∀b p,N b=some p->∃o v,H1 b=some (eV o b v):=λ b p h=>let⟨_,_,a,_⟩:=Nb b p h;⟨_,_,a⟩
 have ts:=oo K5;let fm:List V:=fv.map λ y=>((cl.lookup y).bind N).elim V.bf (·.2)
 have cv:∀(j:Nat) (y:Str) (d:D),fv[j]?=some y->cs[j]?=some d->∃b p,cl.lookup y=some b/\C b=some d/\N b=some p/\fm[j]?=some p.2:=λ j y d h1 h2=>by obtain⟨b,a1,a2⟩:=val j y d h1 h2;refine⟨b,_,a1,a2,N1 b d a2,?_⟩;show(fv.map _)[j]?=_;rw[m8,h1];show some (((cl.lookup y).bind N).elim V.bf (·.2))=_;rw[a1];show some ((N b).elim V.bf (·.2))=_;rw[N1 b d a2];rfl
 have lc:fm.length=fv.length:=w6 ..;refine⟨L,ps,fv,_,fm,N,ok,⟨⟨c,cl,hf,hc,inj,λ y b h=>?_,λ j y v h1 h2=>?_⟩,lc,λ b p h=>(Nb b p h).choose_spec.2.1⟩,ds,cs,f_ M1 C,_,ax.mon ts ds hd,?_,bP.xM K5 hN,q1,λ v H' d M' mw eg t' q' uV=>?_⟩
 ·obtain⟨a,d,b'⟩:=Ig y b h;exact⟨a,_,N1 b d b'⟩
 ·have lt:j < cs.length:=by rw[at'.len];exact(c6.mp h1).1
  obtain⟨b,p,a1,a2,a3,a4⟩:=cv j y _ h1 (c9 lt);rw[h2]at a4;cases a4;exact⟨b,p.1,a1,a3⟩
 ·refine vf (by rw[lc,at'.len]) λ j d v h1 h2=>?_;have lt:j < fv.length:=by rw[<- at'.len];exact(c6.mp h1).1
  obtain⟨b,p,a1,a2,a3,a4⟩:=cv j _ d (c9 lt) h1;rw[h2]at a4;cases a4;obtain⟨d',z1,_,z2⟩:=Nb b p a3;rw[a2]at z1;cases z1;exact Dat.mon ts d z2
 ·have cr:Bb X.K H' N C:=⟨λ b p h=>let⟨d,z,_,r⟩:=Nb b p h;⟨d,z,Dat.mono t' d (Dat.mon ts d r)⟩,λ b d z=>⟨_,N1 b d z⟩⟩;have t2:=ko uV;refine kk v (gS H' N) d (gF M' C) (Dat.mono t2 d mw) (eg.cD uV cr) (t1.trans ⟨λ b xs e=>?_,λ b o u e=>?_⟩) q'
  ·rcases aE N b with z|⟨p,z⟩
   ·rw[bw z];exact t'.tup b xs (by rw[aX z];exact e)
   ·obtain⟨_,_,a,_⟩:=Nb b p z;rw[a]at e;cases e
  ·rcases aE N b with z|⟨p,z⟩
   ·rw[bw z];exact t'.cD b o u (by rw[aX z];exact e)
   ·obtain⟨_,_,a,_⟩:=Nb b p z;rw[a]at e;rw[gw z];exact e
end
theorem Dw{P:Program}{w:World}{K:C0}{mg:Str->Option Value}{base:Heap}{k:Nat}{L:jG}{ps fv:List Str}{sp:rG}(S:iN ps fv L.scope)(len:∀ds cs M Q,sp ds cs M Q->ds.length=ps.length) (lR:∀(cl:List (Str×Addr)) (c:Addr) (kB:Value) (us:List Value),us.length=ps.length->bindArgs (PySem.W.kla_fn "<lambda>" L.qual L.params L.body L.scope cl L.pm (.ref c) kB) ⟨us,[]⟩=pure (ps.zip us)) (dw:∀(A:Around) (outer:List Env) (s:Shared) (H:Hp) (f c:Addr) (cl:List (Str×Addr)) (ds cs:List D) (M:Mem) (Q:bD),cB k (A.deeper (PySem.W.envX L.qual L.scope s.heap.objs.size f (.ref c) cl))->sp ds cs M Q->
   ∃t,QE (rl P w K mg base (ps++fv) L.qual L.scope f c cl A outer s H) L.body t/\t ((ds++cs).map some) M Q):xw P w K mg base (k+1) L ps fv sp:=by
 refine Hr S (λ vs fm H Q h=>?_) lR λ A outer s H f c cl vs fm Q hr h=>?_
 ·obtain⟨ds,cs,M,Q2,hd,_,_,hs,_⟩:=h;rw[hd.length];exact len ds cs M Q2 hs
 ·obtain⟨ds,cs,M,Q2,hd,hc,hm,hs,kk⟩:=h;obtain⟨t,ht,q⟩:=dw A outer s H f c cl ds cs M Q2 hr hs;refine⟨_,ht,(ds++cs).map some,M,Q2,⟨?_,λ i d e=>?_⟩,hm,q,kk⟩
  ·rw[w6,w6,(hd.append hc).length]
  ·rw[m8]at e;cases z:(ds++cs)[i]? with
   |none=>rw[z]at e;cases e
   |some d'=>rw[z]at e;cases e;obtain⟨v,a,r⟩:=(hd.append hc).get z;exact⟨v,by rw[m8,a];rfl,r⟩
end L3
namespace L2
open PySem PySem.Spec PyProof.Rows
structure jT(K:C0)(x qual:Str)(st:Stmt)(dV:Value)(c f:Addr)(fd:FuncData):Prop where
 ex:∃(oc:Value) (od:Option Addr) (kV doc pm:Value) (an:Option Addr) (ct:Value) (sG:Array (Option Value)),
  fd=PySem.W.fnOf x qual (bR st) (bx st) (aq st) dV kV doc pm an (.ref c) ct/\K.lookup f=some ⟨oc,od,.func fd,sG⟩/\PySem.W.codeIn K (.ref c) qual=true
 kp:PySem.W.keepIn K (.ref f)=true
section
variable {P:Program}{w:World}{K:C0}{mg:Str->Option Value}{base:Heap}
theorem jT.ok {x qual:Str}{st:Stmt}{dV:Value}{c f:Addr}{fd:FuncData}{N ps:List Str}{k:Nat}{sp:Sp}(F:jT K x qual st dV c f fd)(S:aR N ps (aq st))(len:∀vs H Q E,sp vs H Q E->vs.length=ps.length) (dw:∀(A:Around) (outer:List Env) (s:Shared) (H:Hp) (vs:List V) (Q:VK) (E:XK),cB k (A.deeper (envOfC qual (aq st) s.heap.objs.size f (.ref c)))->sp vs H Q E->
   ∃t,rJ (mJ fh P w K mg base N qual (aq st) f (.ref c) A outer s H E).Dq (bx st) t/\t {nx:=λ _ H'=>Q .bf H',rt:=Q} (start N vs) H):cu P w K mg base fh (k+1) f fd ps sp:=by
 obtain⟨oc,od,kV,doc,pm,an,ct,sG,rfl,lk,hcd⟩:=F.ex;refine EC lk hcd S len λ A outer s H vs Q E hr wX=>?_;obtain⟨t,h,q⟩:=dw A outer s H vs Q E hr wX;exact⟨t,h.Dq,q⟩
theorem DJ{x qual:Str}{st:Stmt}{c f:Addr}{oc:Value}{od an:Option Addr}{sG:Array (Option Value)}{dV kV doc pm ct:Value}(l:K.lookup f=some ⟨oc,od,.func (PySem.W.fnOf x qual (bR st) (bx st) (aq st) dV kV doc pm an (.ref c) ct),sG⟩) (e:PySem.W.codeIn K (.ref c) qual=true) (k:PySem.W.keepIn K (.ref f)=true):jT K x qual st dV c f (PySem.W.fnOf x qual (bR st) (bx st) (aq st) dV kV doc pm an (.ref c) ct):=⟨⟨oc,od,kV,doc,pm,an,ct,sG,rfl,l,e⟩,k⟩
theorem jT.binds {x qual:Str}{st:Stmt}{dV:Value}{c f:Addr}{fd:FuncData}{ps:List Str}{ds:List Value}(F:jT K x qual st dV c f fd) (h:∀(kV doc pm:Value) (an:Option Addr) (ct:Value) (s:Shared),K.In s.heap->∀(us:List Value),(us++ds).length=ps.length->BindsTo s (PySem.W.fnOf x qual (bR st) (bx st) (aq st) dV kV doc pm an (.ref c) ct) ⟨us,[]⟩ (ps.zip (us++ds))):Binds K fd ps ds:=by obtain⟨oc,od,kV,doc,pm,an,ct,sG,rfl,lk,hcd⟩:=F.ex;exact λ s us hk hl=>h kV doc pm an ct s hk us hl
theorem bW.O' {k:Nat}{x qual:Str}{ps:List Str}{sp:Sp}{st:Stmt}{dV:Value}{c f:Addr}{fd:FuncData}(F:jT K x qual st dV c f fd)(G:cu P w K mg base fh k f fd ps sp)(hm:mg x=some (.ref f))(b:Binds K fd ps []):bW P w K mg base k x ps sp:=⟨f,fd,G,hm,F.kp,b⟩
end
def zG(s:Stmt)(j:Nat)(q:Str)(mg:Str->Option Value):jG:=match bx s with
 |ss=>match ss.getLast? with
  |some (.Return (some (.Call _ es _ _)) _)=>match es[j]? with
   |some (.Lambda a b c _)=>⟨q,a,b,c,(mg "__name__").getD .none⟩
   |_=>⟨q,bR s,.Constant .none 0 ⟨0,0,0,0⟩,aq s,.none⟩
  |_=>⟨q,bR s,.Constant .none 0 ⟨0,0,0,0⟩,aq s,.none⟩
end L2
namespace L4
open PySem PySem.Spec L2 L3
section
variable {P:Program}{w:World}{K:C0}{mg:Str->Option Value}{base:Heap}
theorem O_{x qual:Str}{st:Stmt}{dV:Value}{c f:Addr}{fd:FuncData}{N ps:List Str}{k:Nat}{sp:gK}(F:jT K x qual st dV c f fd)(S:aR N ps (aq st))(len:∀ds M Q,sp ds M Q->ds.length=ps.length) (dw:∀(A:Around) (outer:List Env) (s:Shared) (H:Hp) (E:XK) (ds:List D) (M:Mem) (Q:bD),cB k (A.deeper (PyProof.Rows.envOfC qual (aq st) s.heap.objs.size f (.ref c)))->sp ds M Q->
   ∃t,Bk (mJ fh P w K mg base N qual (aq st) f (.ref c) A outer s H E).Dq (bx st) t/\t {nx:=λ _ M'=>fin2 Q .bf M',rt:=fin2 Q} (fF N ds) M):cu P w K mg base fh (k+1) f fd ps (cW K sp):=by
 refine F.ok S (λ vs H Q E h=>?_) (λ A outer s H vs Q E hr h=>?_)
 ·obtain⟨ds,M,Q2,hd,_,hs,_⟩:=h;rw[hd.length];exact len ds M Q2 hs
 ·obtain⟨ds,M,Q2,hd,hm,hs,kk⟩:=h;obtain⟨t,ht,q⟩:=dw A outer s H E ds M Q2 hr hs;refine⟨_,ht.h,fF N ds,M,_,ni hd,hm,q,⟨?_,?_,?_,?_⟩⟩
  ·exact λ σ' H' δ' M' _ eg t' ⟨iT,s,q⟩=>kk _ H' .bf iT (cU.mpr rfl) (eg.sub s) t' q
  ·exact λ v H' d M' mw eg t' ⟨iT,s,q⟩=>kk v H' d iT mw (eg.sub s) t' q
  ·exact λ σ' H' δ' M' _ eg t' q=>q
  ·exact λ σ' H' δ' M' _ eg t' q=>q
theorem NG{k:Nat}{L:jG}{ps fv:List Str}{sp:rG}(S:iN ps fv L.scope)(len:∀ds cs M Q,sp ds cs M Q->ds.length=ps.length) (lR:∀(cl:List (Str×Addr)) (c:Addr) (kB:Value) (us:List Value),us.length=ps.length->bindArgs (PySem.W.kla_fn "<lambda>" L.qual L.params L.body L.scope cl L.pm (.ref c) kB) ⟨us,[]⟩=pure (ps.zip us)) (dw:∀(A:Around) (outer:List Env) (s:Shared) (H:Hp) (f c:Addr) (cl:List (Str×Addr)) (ds cs:List D) (M:Mem) (Q:bD),cB k (A.deeper (PySem.W.envX L.qual L.scope s.heap.objs.size f (.ref c) cl))->sp ds cs M Q->
   ∃t,WE (rl P w K mg base (ps++fv) L.qual L.scope f c cl A outer s H) L.body t/\t ((ds++cs).map some) M Q):xw P w K mg base (k+1) L ps fv sp:=
 Dw S len lR λ A outer s H f c cl ds cs M Q hr h=>let⟨t,a,b⟩:=dw A outer s H f c cl ds cs M Q hr h;⟨t,a.h,b⟩
end
section
variable {X:Cx}{L:jG}{c P:Addr}{pos p:Pos}{x:Str}{e:Expr}{es:List Expr}{t:dP}{k i:Nat}{ps:List Str}{sp:gK}{cn:List (Str×Nat)}
theorem Jq(nH:X.env.code=.ref c)(B:Eb X.mg X.base c P)(Ai:defaultsOf L.params X.env=([],[]))(Ab:L.pm=(X.mg "__name__").getD .none)(hq:X.env.qual++"<lambda>"=L.qual) (uV:∀n,(n,NameKind.free)∈L.scope.names->X.env.kindOf n=some .cell\/X.env.kindOf n=some .free):WE X (.Lambda L.params L.body L.scope pos) (Fj P L X.env.cells):=⟨J8 nH B Ai Ab hq uV⟩
theorem Bw(d:dj X.prog X.w X.K X.mg X.base k x ps sp)(hr:cB k X.A)(hg:Gl X x)(nI:∀x j,(x,j)∈cn->X.env.kindOf x=some .cell/\X.N[j]?=some x/\X.fn x=true)(hN:X.N.Nodup)(ha:WA X (e::es) t) (hdb:(x==("__debug__":Str))=false:=by decide) (he:starEach (e::es) X.env=(false,eval e X.env)::starEach es X.env:=by rfl) (hpl:(backTo pos (starEach es X.env)).any (·.1)=false:=by rfl):WE X (.Call (.Name x p) (e::es) [] pos) (MY sp X.env.cells cn t):=⟨CP d hr hg nI hN ha.h hdb he hpl⟩
theorem Bv(hr:cB k X.A)(hi:X.N[i]?=some x)(hv:EN X.env.scope x)(ha:WA X (e::es) t)(hd:(x==("__debug__":Str))=false:=by decide)(hcd:(x==("__classdict__":Str))=false:=by decide) (he:starEach (e::es) X.env=(false,eval e X.env)::starEach es X.env:=by rfl) (hpl:(backTo pos (starEach es X.env)).any (·.1)=false:=by rfl):WE X (.Call (.Name x p) (e::es) [] pos) (MX X.prog X.w X.K X.mg X.base k i t):=⟨CO hr hi hv ha.h hd hcd he hpl⟩
end
theorem FG{P:Addr}{L:jG}{cells:List (Str×Addr)}{δ:cI}{M:Mem}{Q:bD}(h:M P=some (.g_ (.j_ L.qual)))(q:∀f,M f=none->(∀x d,cells.lookup x=some d->d≠f)->Q (.ref f) (ah M f (.g_ (.lam L (bo cells L.scope.names []))))):Fj P L cells δ M Q:=⟨h,q⟩
theorem JO{sp:gK}{cells:List (Str×Addr)}{cn:List (Str×Nat)}{t:dP}{δ:cI}{M:Mem}{Q:bD}(h:t δ M λ ds M1=>(∀x j,(x,j)∈cn->∃d,δ[j]?=some (some d))/\∀C,Ec cells cn δ C->(∀b d,C b=some d->M1 b=none)->sp ds (gF M1 C) λ d M'=>Q d (f_ M' C)):MY sp cells cn t δ M Q:=h
theorem JN{P:Program}{w:World}{K:C0}{mg:Str->Option Value}{base:Heap}{k i:Nat}{t:dP}{δ:cI}{M:Mem}{Q:bD}{f:Addr}(e:δ[i]?=some (some (.ref f)))(hl:∃L cl,M f=some (.g_ (.lam L cl))) (h:t δ M λ ds M1=>∃(L:jG) (ps fv:List Str) (sp:rG) (cs:List D) (C:CM),xw P w K mg base k L ps fv sp/\xu M1 f L fv cs C/\sp ds cs (f_ M1 C) λ d M'=>Q d (gF M' C)):MX P w K mg base k i t δ M Q:=⟨f,e,hl,h⟩
end L4
namespace L2
open PySem PySem.Spec PyProof.Rows
def vH(H:Hp)(ts:List Addr):Prop:=(∀b,H b=none\/(∃o xs,H b=some (.cD o (.lst xs)))\/H b=some (.j_ #[]))/\∀t∈ts,H t=some (.j_ #[])
theorem wM{P:Program}{w:World}{K:C0}{mg mb:Str->Option Value}{CX:Bo}{k:Nat}{fa a:Addr}{fd:FuncData}{x:Str}{sp:Sp}{s₁:Shared}{vs:List Value}{ns:List Int}{tabs:List (Addr×Addr)} (KX:K.In s₁.heap) (N4:s₁.heap.Ns mainGlobals mg) (hb:s₁.heap.Ns builtinsNs mb) (RV:∀x:Str,x≠"__name__"->mb x=bootBuiltins x) (N8:s₁.heap.NoLimit) (hg:s₁.gens=#[]) (RU:∃bm ob,mg "__builtins__"=some (.ref bm)/\bm≠builtinsNs/\s₁.heap.get? bm=some ob/\ob.cls=.type "module"/\ob.dict=some builtinsNs/\ob.data=.plain) (hT:∀q∈tabs,s₁.heap.get? q.2=some (PySem.W.tabObj #[])/\K.lookup q.2=none/\PySem.W.CodeHd s₁.heap q.1 q.2) (ha:s₁.heap.get? a=some {cls:=.type "list",data:=.seq vs.toArray}) (hi:IntsAre vs ns) (hl:ns.length<=sizeLine) (hr:cB k callerA) (F:∀base:Heap,K.In base->(∀q∈tabs,Eb mg base q.1 q.2)->cu P w K mg base CX k fa fd [x] sp) (lR:∀(s:Shared) (u:Value),BindsTo s fd ⟨[u],[]⟩ [(x,u)]) (wX:∀H:Hp,vH H (tabs.map (·.2))->eA K H a (ns.map V.int)->sp [.ref a] H (λ v _=>v=.bl true) λ _ _ _=>False) (OA:∀H e s',CX [] H s₁ (λ _ _ _=>False) e s'->False):codeAny (model P w) callerA (.call (.ref fa) ⟨[.ref a],[]⟩) (λ r s'=>r=.ok (.ret (.bool true))/\OldK s₁.heap s'.heap/\s'.os=s₁.os/\AllBare s'.gens) s₁:=by
 have rv:=mT hi;have NC:=hi.length;have tg:∀t∈tabs.map (·.2),s₁.heap.get? t=some (PySem.W.tabObj #[])/\K.lookup t=none:=λ t ht=>by obtain⟨q,hq,rfl⟩:=A1.mp ht;exact⟨(hT q hq).1,(hT q hq).2.1⟩
 have at':a∉tabs.map (·.2):=λ h=>by have:=(tg a h).1;rw[ha]at this;cases this
 have core:∀H:Hp,vH H (tabs.map (·.2))->eA K H a (ns.map V.int)->fg P w H s₁.heap->(∀b,H b≠none->b=a\/b∈tabs.map (·.2))->(H a≠none->K.lookup a=none)->
   codeAny (model P w) callerA (.call (.ref fa) ⟨[.ref a],[]⟩) (λ r s'=>r=.ok (.ret (.bool true))/\OldK s₁.heap s'.heap/\s'.os=s₁.os/\AllBare s'.gens) s₁:=by
  intro H hO hS aZ hA hK;have kG:∀{b:Addr} {o:Obj},s₁.heap.get? b=some o->H b=none->(mG s₁.heap H).get? b=some o:=λ e n=>Ae e n;have zw:∀{b:Addr} {o:Obj},s₁.heap.get? b=some o->o≠PySem.W.tabObj #[]->(∀us n,o.data≠.seq us n)->H b=none:=λ{b o} e d1 d2=>by
   cases q:H b with
   |none=>rfl
   |some u=>
    rcases hA b (by rw[q];simp)with e'|e'
    ·subst e';rw[ha]at e;cases e;exact absurd rfl (d2 _ _)
    ·rw[(tg b e').1]at e;cases e;exact absurd rfl d1
  have Q0:∀{b:Addr} {o:Obj} {es:Array DictEntry} {ep:Nat},s₁.heap.get? b=some o->o.data=.dict es ep->H b=none:=λ{b o es ep} e d=>zw e (λ z=>by rw[z]at d;cases d) λ us n z=>by rw[d]at z;cases z
  have Nx:∀{b:Addr} {m:Str->Option Value},s₁.heap.Ns b m->(mG s₁.heap H).Ns b m:=λ{b m} ⟨o,es,ep,e,d,r⟩=>⟨o,es,ep,kG e (Q0 e d),d,r⟩;have PR:K.In (mG s₁.heap H):=λ b o e=>kG (KX b o e) (by
   cases q:H b with
   |none=>rfl
   |some u=>
    rcases hA b (by rw[q];simp)with e'|e'
    ·subst e';rw[hK (by rw[q];simp)]at e;cases e
    ·rw[(tg b e').2]at e;cases e)
  have hM:Mod K mg (mG s₁.heap H):=⟨PR,Nx N4,⟨mb,Nx hb,RV⟩,let⟨mc,h1,h2⟩:=N8;⟨mc,Nx h1,h2⟩⟩;have Ot:∀q∈tabs,Eb mg (mG s₁.heap H) q.1 q.2:=λ q hq=>by
   refine⟨?_,?_⟩
   ·obtain⟨bm,ob,b1,b2,b3,b4,b5,b6⟩:=RU;exact⟨bm,ob,b1,b2,kG b3 (zw b3 (λ z=>by rw[z]at b4;cases b4) λ us n z=>by rw[b6]at z;cases z),b4,b5,b6⟩
   ·obtain⟨o,vs,file,tf,flags,tg,Ma,text,tt,e,e1,e2,r⟩:=(hT q hq).2.2;exact⟨o,vs,file,tf,flags,tg,Ma,text,tt,kG e (zw e (λ z=>by rw[z]at e1;cases e1) λ us n z=>by rw[e2]at z;cases z),e1,e2,r⟩
  have e0:mi P w K mg (mG s₁.heap H) callerA [] s₁ H:=⟨rfl,hM,λ b o e=>Dp e,A3 (wZ _ _),trivial,λ b hb=>absurd (show b∈([]:List Addr)from hb) (by simp),aZ,.of_eq hg⟩;refine codeAny_mono ((F _ PR Ot).run callerA [] s₁ H ⟨[.ref a],[]⟩ [.ref a] [.ref a] _ _ hr e0 (lR s₁ (.ref a)) (.cons rfl .nil) (wX H hO hS)) λ r s' h=>?_;cases r with
  |error e=>exact(OA H e s' h).elim
  |ok fl=>
   cases fl with
   |next=>exact False.elim h
   |brk=>exact False.elim h
   |cont=>exact False.elim h
   |ret u=>
    obtain⟨v,H',os,bare,un,KQ,r',q⟩:=h;have q':v=.bl true:=q;subst q';obtain rfl:u=Value.bool true:=r';refine⟨rfl,⟨λ b o e=>?_,λ b o e=>un.there b o e (by simp)⟩,os,bare⟩;cases q:H b with
    |none=>exact .inl (un.keep b o e q (by intro z;exact absurd (show b∈([]:List Addr)from z) (by simp)) (by simp))
    |some u=>
     rcases hO.1 b with z|⟨ob,xs,z⟩|z
     ·rw[q]at z;cases z
     ·have z2:=un.jj b ob _ z;obtain⟨e1,_⟩:=aZ b _ z;obtain⟨e2,_⟩:=KQ b _ z2;rw[e]at e1;cases e1;exact .inl e2
     ·obtain⟨more,z2⟩:=un.jM b _ z;have e1:s₁.heap.get? b=some (PySem.W.tabObj #[]):=aZ b _ z;have e2:s'.heap.get? b=some (PySem.W.tabObj (#[]++more)):=KQ b _ z2;rcases hA b (by rw[q];simp)with e'|e'
      ·subst e';rw[ha]at e1;cases e1
      ·obtain⟨t,ht,rfl⟩:=A1.mp e';rw[e]at e1;cases e1;exact .inr (.inl ⟨((hT t ht).2.2.tab (hT t ht).1).isCodeTable,rfl,#[],more,rfl,e2⟩)
 cases hk:K.lookup a with
 |some o=>
  have e:=KX a o hk;rw[ha]at e;cases e;refine core (λ b=>if b∈tabs.map (·.2)then some (.j_ #[])else none) ⟨λ b=>?_,λ t ht=>B8 ht⟩ (.inr ⟨_,vs.toArray,_,hk,rfl,rfl,rfl,by rw[o7,NC];exact hl,by simpa using rv⟩) (λ b u z=>?_) (λ b z=>?_) λ z=>absurd (B9 at') z
  ·by_cases hb:b∈tabs.map (·.2)
   ·exact .inr (.inr (B8 hb))
   ·exact .inl (B9 hb)
  ·by_cases hb:b∈tabs.map (·.2)
   ·have z':=(B8 hb).symm.trans z;cases z';exact(tg b hb).1
   ·have z':=(B9 hb).symm.trans z;cases z'
  ·by_cases hb:b∈tabs.map (·.2)
   ·exact .inr hb
   ·exact absurd (B9 hb) z
 |none=>
  refine core (λ b=>if b=a then some (.cD {cls:=.type "list",data:=.seq vs.toArray} (.lst (ns.map V.int)))else if b∈tabs.map (·.2)then some (.j_ #[])else none) ⟨λ b=>?_,λ t ht=>?_⟩ (.inl (.inr ⟨{cls:=.type "list",data:=.seq vs.toArray},B8 rfl⟩)) (λ b u z=>?_) (λ b z=>?_) λ _=>hk
  ·by_cases hb:b=a
   ·exact .inr (.inl ⟨_,_,B8 hb⟩)
   ·by_cases ht:b∈tabs.map (·.2)
    ·exact .inr (.inr ((B9 hb).trans (B8 ht)))
    ·exact .inl ((B9 hb).trans (B9 ht))
  ·exact(B9 (λ z=>at' (by rw[<- z];exact ht))).trans (B8 ht)
  ·by_cases hb:b=a
   ·have z':=(B8 hb).symm.trans z;cases z';subst hb;exact⟨ha,by rw[w6];exact hl,vs,_,rv,ha⟩
   ·have z:=(B9 hb).symm.trans z;by_cases ht:b∈tabs.map (·.2)
    ·have z':=(B8 ht).symm.trans z;cases z';exact(tg b ht).1
    ·have z':=(B9 ht).symm.trans z;cases z'
  ·by_cases hb:b=a
   ·exact .inl hb
   ·by_cases ht:b∈tabs.map (·.2)
    ·exact .inr ht
    ·exact absurd ((B9 hb).trans (B9 ht)) z
theorem xI{l:PySem.W.OpenLaw}{n k:Nat}{q:Program}{loose:List Str}{XP:(Str->Option Value)->Heap->Prop}{YP:World->Heap->Prop}{d:DefRec}{K:Params->C0}{CX:World->Bo}{sp:World->Sp}{x:Str}{tabs:List (Addr×Addr)}
  (hn:l.most=some n) (HN:n<=sizeLine) (K3:d.params.defaults=[]) (hr:cB k callerA)
  (hY:∀(w:World) (h:Heap),YP w h->(K w.params).In h/\∀q∈tabs,h.get? q.2=some (PySem.W.tabObj #[])/\(K w.params).lookup q.2=none/\PySem.W.CodeHd h q.1 q.2)
  (F:∀(w:World) (mg:Str->Option Value) (fa:Addr) (h:Heap),(K w.params).In h->h.Ns mainGlobals mg->mg d.name=some (.ref fa)->
   ∃fd:FuncData,(∀(s:Shared) (u:Value),BindsTo s fd ⟨[u],[]⟩ [(x,u)])/\
    ∀base:Heap,(K w.params).In base->(∀q∈tabs,Eb mg base q.1 q.2)->cu l.prog w (K w.params) mg base (CX w) k fa fd [x] (sp w))
  (wX:∀(w:World) (H:Hp) (a:Addr) (ns:List Int),ns.length<=n->vH H (tabs.map (·.2))->eA (K w.params) H a (ns.map V.int)->sp w [.ref a] H (λ v _=>v=.bl true) λ _ _ _=>False)
  (OA:∀(w:World) (H:Hp) (s:Shared) (e:Value) (s':Shared),CX w [] H s (λ _ _ _=>False) e s'->False):
  PySem.W.WalkO q loose XP YP l.row.toRowW d [] (λ f vs=>PySem.call f vs):=by
 refine Qp.rE hn K3 λ w s₀ s₁ mg mb fa o pm cd doc a vs ns G Y ho hd hcd KY Ac hints hlen hg=>?_;obtain⟨KX,hT⟩:=hY w _ Y;obtain⟨fd,hb,hF⟩:=F w mg fa _ KX G.T.g KY;exact wM KX G.T.g G.T.b G.T.builtins G.T.nolimit hg G.T.bmain hT Ac hints (A2 hlen HN) hr hF hb (λ H hO hS=>wX w H a ns hlen hO hS) λ H e s'=>OA w H s₁ e s'
end L2
namespace L2
open PySem PySem.Spec PyProof.Rows
section
variable {prog:Program}{w:World}{κ:Type}[DecidableEq κ]{knd:KeyKind prog w κ}{A:Around}{E:Value->Shared->Prop}{s:Shared}
theorem iX{d:Addr}{kvs:List (κ×Value)}{k:κ}{key v:Value}{Q:Value->Shared->Prop}(gC:knd.is k key=true)(hm:s.heap.DictOf knd d kvs) (h1:∀u,valueAt kvs k=some u->Q u {s with toks:=s.toks+1}) (h2:valueAt kvs k=none->∀h',h'.DictOf knd d (stored kvs k v)->Heap.SameBut d s.heap h'->Q v {s with heap:=h',toks:=s.toks+1}) (hsz:kvs.length<=sizeLine):wpAny (model prog w) A (dictSetDefault d key v) Q E s:=by
 obtain⟨o,es,ep,ho,hc,hd,hk,hp,hn⟩:=hm;have Ml:es.size<=sizeLine:=by
  have e1:=hp.length;have e2:es.toList.length=es.size:=by simp
  omega
 have hf:findBy knd.is es k=valueAt kvs k:=by rw[<- hp.find k];obtain⟨l⟩:=es;simp[findBy]
 unfold dictSetDefault
 try with_reducible refine y3 ?_
 refine B0 (knd.pyHash gC ?_);refine B0 (wpAny_dictFind_of (s:={s with toks:=s.toks+1}) gC ho hd hk ?_);have Ob:(es.findIdx? λ e=>knd.is k e.key)=kvs.findIdx? λ kv=>decide (kv.1=k):=by rw[<- hp.findIdx k];obtain⟨l⟩:=es;simp
 cases hi:es.findIdx? λ e=>knd.is k e.key with
 |some i=>
  have Mk:valueAt kvs k=(es[i]?).map (·.val):=by rw[<- hf,findBy_of_findIdx?,hi]
  refine B0 (wpAny_dictEntries (s:={s with toks:=s.toks+1}) ho hd ?_);cases he:es[i]? with
  |none=>exfalso;have eQ:i < es.size:=(Array.findIdx?_eq_some_iff_findIdx_eq.mp hi).1;rw[c5 eQ]at he;exact nomatch he
  |some e=>rw[he]at Mk;exact B0 (B2 (B1 (h1 e.val Mk)))
 |none=>
  have Mk:valueAt kvs k=none:=by rw[<- hf,findBy_of_findIdx?,hi]
  have KU:k∉kvs.map (·.1):=not_mem_of_findIdx_none (Ob▸hi);have K6:¬(kvs.any λ kv=>decide (kv.1=k))=true:=by rw[List.any_eq_true];rintro⟨kv,pS,he⟩;exact KU (A1.mpr ⟨kv,pS,of_decide_eq_true he⟩)
  refine B0 (B2 (B0 (wpAny_updateDictKeys (hz:=Ml) (s:={s with toks:=s.toks+1}) ho hd (B1 (h2 Mk _ ⟨_,_,ep+1,i8 _ ho (Obj.isFreed_of_dict (Obj.data_mapDictKeys hd _)),
   hc.mapDictKeys _,Obj.data_mapDictKeys hd _,hk.push gC _,?_,?_⟩ (j6 ..))))))
  ·rw[stored,B9 K6];have:=hp.append gC (knd.hash k) v;obtain⟨l⟩:=es;simpa using this
  ·rw[stored,B9 K6,x3,nodup_append];refine⟨hn,by simp,?_⟩;intro a ha b hb;simp only[y7,map_nil,l8]at hb;subst hb;exact λ e=>KU (e▸ha)
theorem oK(d:Addr){k:κ}{key:Value}(gC:knd.is k key=true)(hd:(d==sysModules)=false)(v:Value):
  MeetsIn prog w (Builtin.«dict.setdefault» ⟨[.ref d,key,v],[]⟩) (λ _ R s=>∃kvs,s.heap.DictOf knd d kvs/\kvs.length<=sizeLine/\
   (∀u,valueAt kvs k=some u->R (.ok (.ret u)) {s with toks:=s.toks+1})/\
   (valueAt kvs k=none->∀h',h'.DictOf knd d (stored kvs k v)->Heap.SameBut d s.heap h'->R (.ok (.ret v)) {s with heap:=h',toks:=s.toks+1})):=
 .of_wp λ A R s ⟨kvs,hm,hz,h1,h2⟩=>by unfold Builtin.«dict.setdefault»;refine B0 ?_;unfold Builtin.Dict.keyAndDefault;refine B0 (wpAny_notOrdered_dict hm.typeIs ?_);show wpAny _ _ (pure (d,key,some v)) _ _ s;refine B1 ?_;show wpAny _ _ (if(d==sysModules)=true then _ else(dictSetDefault d key v >>= _)) _ _ s;rw[B9 (by rw[hd];exact k8)];exact B0 (iX gC hm (λ u hu=>B1 ⟨u,rfl,h1 u hu⟩) (λ hn h' eg iR=>B1 ⟨v,rfl,h2 hn h' eg iR⟩) hz)
end
section
variable {X:Cx}
def Ct:V->List V->Hp->VK->Prop:=λ x vs H Q=>∃a kvs k v,x=.ref a/\vs=[kV k,v]/\H a=some (.dK kvs)/\kvs.length < sizeLine/\(∀u,eR kvs k=some u->Q u H)/\(eR kvs k=none->Q v (upd H a (.dK (putK kvs k v))))
theorem wG:Mv X "dict.setdefault" Ct:=by
 intro pins s σ H x xs v us Q I rx rs ⟨a,kvs,k,y,e1,e2,e,hz,q1,q2⟩;subst e1;subst e2;cases(show v=Value.ref a from rx);obtain⟨u,r,rfl,ru,rr⟩:=vals2 rs;obtain⟨z,hd,vs,rel,dd⟩:=va I.aZ e;have hv:=rel.val k;refine call_meetsIn PySem.F.slot_dict_setdefault dd.typeIs PySem.F.entry_dict_setdefault (PySem.F.args_dict_setdefault_3 _ _ _) (oK a (lO ru) hd r) ⟨vs,dd,by rw[<- rel.length];exact z,λ u' hu=>?_,λ hn h' ve hs=>?_⟩
 ·cases ev:eR kvs k with
  |none=>rw[ev]at hv;exact(show False from(by rw[show valueAt vs k=some u' from hu]at hv;exact hv)).elim
  |some w=>rw[ev]at hv;rw[show valueAt vs k=some u' from hu]at hv;exact⟨w,H,I.tok _,hv,q1 w ev⟩
 ·cases ev:eR kvs k with
  |some w=>rw[ev]at hv;exact(show False from(by rw[show valueAt vs k=none from hn]at hv;exact hv)).elim
  |none=>
   have hl:(putK kvs k y).length<=sizeLine:=by have:=d_ kvs k y;omega
   have he:∃q,h'.get? a=some q:=let⟨q,_,_,hq,_⟩:=ve;⟨q,hq⟩
   exact⟨y,_,gy I (by rw[e];exact True.intro) hs he (tj hl hd (rel.put k rr) ve),rr,q2 ev⟩
def DZ(X:Cx)(cn:List (Str×Nat)):Bool:=cn.all λ p=>X.env.kindOf p.1==some .cell&&X.N[p.2]?==some p.1&&X.fn p.1
theorem Lo{cn:List (Str×Nat)}(h:DZ X cn=true):∀x j,(x,j)∈cn->X.env.kindOf x=some .cell/\X.N[j]?=some x/\X.fn x=true:=λ x j hx=>by have:=List.all_eq_true.mp h _ hx;rw[p7,p7]at this;exact⟨by simpa using this.1.1,by simpa using this.1.2,this.2⟩
def DL(X:Cx)(ns:List (Str×NameKind)):Bool:=ns.all λ y=>y.2 != .free||X.env.kindOf y.1==some .cell||X.env.kindOf y.1==some .free
theorem La{ns:List (Str×NameKind)}(h:DL X ns=true):∀n,(n,NameKind.free)∈ns->X.env.kindOf n=some .cell\/X.env.kindOf n=some .free:=λ n hn=>by
 have:=List.all_eq_true.mp h _ hn;rw[Bool.or_eq_true,Bool.or_eq_true]at this;rcases this with(h|h)|h
 ·cases h
 ·exact .inl (by simpa using h)
 ·exact .inr (by simpa using h)
theorem nX.mono {P:Program}{w:World}{K:C0}{mg:Str->Option Value}{base:Heap}{j k:Nat}{L:jG}{ps fv:List Str}{sp:Lw}(h:nX P w K mg base j L ps fv sp)(hk:j<=k):nX P w K mg base k L ps fv sp:=
 ⟨h.len,λ A outer s H f c cl us vs fm Q hr=>h.run A outer s H f c cl us vs fm Q (hr.mono hk)⟩
end
end L2
namespace L3
open PySem PySem.Spec PyProof.Rows L2 L5
section
variable {X:Cx}{o e:Expr}{es:List Expr}{to:bT}{t:dP}{apos bQ:Pos}
def vg:D->List D->Mem->bD->Prop:=λ d ds M Q=>∃a kvs k v,d=.ref a/\ds=[k,v]/\M a=some (.cE false kvs)/\fe false k/\kvs.length < sizeLine/\(∀u,cO kvs k=some u->Q u M)/\(cO kvs k=none->Q v (ah M a (.cE false (putD kvs k v))))
def oy(to:bT)(t:dP):bT:=λ δ M Q=>to δ M λ d M1=>(∃a kvs,d=.ref a/\M1 a=some (.cE false kvs))/\t δ M1 λ ds M2=>vg d ds M2 Q
theorem yN(ho:QE X o to)(ha:QA X (e::es) t)(hbase:attributeBase o "setdefault" X.env (eval o X.env)=eval o X.env:=by rfl) (hfew:((backTo bQ (starEach (e::es) X.env)).all (λ x=>!x.1)&&(backToKw bQ (keywordEach [] X.env)).all (λ x=>x.1.isSome)
   &&decide ((e::es).length+([]:List Keyword).length+(if([]:List Keyword).isEmpty then 0 else 1) < 30))=true:=by rfl)
  (hline:(apos.endLine==bQ.line)=true:=by rfl) (hs:starEach (e::es) X.env=(false,eval e X.env)::starEach es X.env:=by rfl) (hplain:(backTo bQ (starEach es X.env)).any (·.1)=false:=by rfl):
  QE X (.Call (.Attribute o "setdefault" apos) (e::es) [] bQ) (oy to t):=by
 refine bF (Ep PySem.F.plainAttrs_dict PySem.F.slot_dict_setdefault PySem.F.type_dict_setdefault wG ho ha hbase hfew hline hs hplain) ?_;rintro σ H Q ⟨δ,M,Q2,hs,hm,q,k⟩;refine⟨δ,M,_,hs,hm,q,λ x H1 d M1 hd bP t1 ⟨⟨a,kvs,e,hM⟩,q1⟩=>⟨?_,δ,M1,_,hs.mono t1,bP,q1,λ xs H2 ds M2 Ag jC t2 q2=>?_⟩⟩
 ·subst e;cases(aA.mp hd);obtain⟨xs,hx,_⟩:=bP a _ hM;exact .inr (.inr (.inl ⟨rfl,.inl ⟨xs,hx⟩⟩))
 ·obtain⟨a',Hs,kk,v,e2,e3,K7,⟨ky,rfl⟩,hz,q3,q4⟩:=q2;subst e2;subst e3;cases(aA.mp hd);obtain⟨x1,r1,rfl,Jb,HI⟩:=ag.mp Ag;obtain⟨x2,r2,rfl,IV,jh⟩:=ag.mp HI;cases(aj.mp jh);rw[iI Jb];obtain⟨ys,hy,rel⟩:=jC a' _ K7;have lk:=rel.look ky;refine⟨a',ys,ky,x2,rfl,rfl,hy,by rw[<- y4 rel];exact hz,λ u hu=>?_,λ hn=>?_⟩
  ·rw[hu]at lk;cases el:cO Hs (fj ky)with
   |none=>rw[el]at lk;exact(show False from lk).elim
   |some d'=>rw[el]at lk;exact k _ H2 d' M2 lk jC (t1.trans t2) (q3 d' el)
  ·rw[hn]at lk;cases el:cO Hs (fj ky)with
   |some d'=>rw[el]at lk;exact(show False from lk).elim
   |none=>have t:=ak.mut (o:=.dK (putK ys ky x2)) hy (λ _ z=>by cases z) (λ _ _ z=>by cases z);exact k _ _ _ _ (Dat.mono t _ IV) (jC.put (u:=.cE false (putD Hs (fj ky) v)) t ⟨_,aG,(rel.put ky IV).mono t⟩) ((t1.trans t2).trans t) (q4 el)
end
end L3
namespace L4
open PySem L2 L3
theorem xJ{X:Cx}{o e:Expr}{es:List Expr}{to:bT}{t:dP}{apos bQ:Pos}(ho:WE X o to)(ha:WA X (e::es) t)(hbase:attributeBase o "setdefault" X.env (eval o X.env)=eval o X.env:=by rfl) (hfew:((backTo bQ (starEach (e::es) X.env)).all (λ x=>!x.1)&&(backToKw bQ (keywordEach [] X.env)).all (λ x=>x.1.isSome)
   &&decide ((e::es).length+([]:List Keyword).length+(if([]:List Keyword).isEmpty then 0 else 1) < 30))=true:=by rfl)
  (hline:(apos.endLine==bQ.line)=true:=by rfl) (hs:starEach (e::es) X.env=(false,eval e X.env)::starEach es X.env:=by rfl) (hplain:(backTo bQ (starEach es X.env)).any (·.1)=false:=by rfl):
  WE X (.Call (.Attribute o "setdefault" apos) (e::es) [] bQ) (oy to t):=⟨yN ho.h ha.h hbase hfew hline hs hplain⟩
theorem wg{to:bT}{t:dP}{δ:cI}{M:Mem}{Q:bD}(h:to δ M λ d M1=>(∃a kvs,d=.ref a/\M1 a=some (.cE false kvs))/\t δ M1 λ ds M2=>vg d ds M2 Q):oy to t δ M Q:=h
end L4
namespace L2
open PySem PySem.Spec PySem.W PyProof.Rows L5
section
variable {X:Cx}
theorem GR{e:Expr}{t u:TE}(h:PE X e t)(g:PE X e u):PE X e (λ σ H Q=>t σ H Q\/u σ H Q):=λ pins s σ H Q I q=>q.elim (h pins s σ H Q I) (g pins s σ H Q I)
theorem wx{k v:Expr}{tk tv:TE}{pos:Pos}(hk:PE X k tk)(hv:PE X v tv):PE X (.Dict [some k] [v] pos) (λ σ H Q=>∀p,H p=none->tk σ (upd H p (.dK [])) λ x H1=>tv σ H1 λ y H2=>∃ky,x=kV ky/\H2 p=some (.dK [])/\Q (.ref p) (upd H2 p (.dK (putK [] ky y)))):=by
 intro pins s σ H Q I h;refine wpAny_Dict_any rfl rfl (by simp) (by simp) ?_;have I0:Inv X pins σ (upd H s.heap.objs.size (.dK [])) {s with heap:=s.heap.push {cls:=.type "dict",data:=.dict #[]}}:=I.laid (a:=s.heap.objs.size) (o:=.dK []) (t':=s.toks) (λ _ _ q=>i5 _ q) (A6 _) (q_ s.heap I.big);refine pairTrees_cons_walk (cG (hk pins _ σ _ _ I0 (h _ (I.aZ.fresh (A6 _)))) λ kv s1 ⟨x,H1,I1,r1,q1⟩=>cG (hv pins s1 σ H1 _ I1 q1) λ vv s2 ⟨y,H2,I2,r2,q2⟩=>pairTrees_nil_walk ?_);obtain⟨ky,rfl,hp,q⟩:=q2;generalize s.heap.objs.size=p at*;obtain⟨z,nm,xs,rel,dd⟩:=va I2.aZ hp;cases rel;have rM:(putK [] ky y).length<=sizeLine:=by have:=d_ [] ky y;exact A2 this (by decide)
 unfold storeAll;rw[forIn_cons];refine B0 (B0 (wpAny_dictSet_pairs (hsz:=A8 _) (lO r1) dd λ h' ve hs=>B1 ?_));dsimp only;rw[forIn_nil];have he:∃q,h'.get? p=some q:=let⟨q,_,_,hq,_⟩:=ve;⟨q,hq⟩
 exact B1 ⟨.ref p,_,gy I2 (by rw[hp];exact True.intro) hs he (tj rM nm (KV.put .nil ky r2) ve),rfl,q⟩
end
end L2
namespace L3
open PySem PySem.Spec L2 L5 PyProof.Rows
section
variable {X:Cx}
def sm(tk tv:bT):bT:=λ δ M Q=>∃t:Bool,∀p,M p=none->tk δ (ah M p (.cE t [])) λ x M1=>tv δ M1 λ y M2=>M2 p=some (.cE t [])/\fe t x/\Q (.ref p) (ah M2 p (.cE t [(x,y)]))
theorem CK{k v:Expr}{tk tv:bT}{pos:Pos}(hu:X.A.units+64 < cLine)(hk:QE X k tk)(hv:QE X v tv):QE X (.Dict [some k] [v] pos) (sm tk tv):=by
 refine bF (GR (CL (pos:=pos) hu hk hv) (wx (pos:=pos) hk hv)) ?_;rintro σ H Q ⟨δ,M,Q2,hs,hm,⟨t,q⟩,k⟩;cases t with
 |true=>exact .inl ⟨δ,M,Q2,hs,hm,q,k⟩
 |false=>refine .inr λ p hp=>?_;have t0:ak H (upd H p (.dK [])):=ak.laid hp;refine⟨δ,ah M p (.cE false []),_,hs.mono t0,hm.put (u:=.cE false []) t0 ⟨[],aG,.nil⟩,q p (hm.free hp),λ x H1 d M1 hd bP t1 q1=>?_⟩;refine⟨δ,M1,_,(hs.mono t0).mono t1,bP,q1,λ y H2 e M2 he jC t2 q2=>?_⟩;obtain⟨eB,⟨ky,rfl⟩,q2⟩:=q2;obtain⟨xs,hx,rel⟩:=jC p _ eB;cases rel;have t:=ak.mut (o:=.dK (putK [] ky y)) hx (λ _ z=>by cases z) (λ _ _ z=>by cases z);exact⟨ky,iI hd,hx,k _ _ _ _ (aA.mpr rfl) (jC.put (u:=.cE false [(fj ky,e)]) t ⟨_,aG,((Ba.put (kvs:=[]) .nil ky he):Ba X.K H2 [(fj ky,e)] (putK [] ky y)).mono t⟩) ((t0.trans t1).trans (t2.trans t)) q2⟩
end
end L3
namespace L4
open PySem PySem.Spec L2 L3 L5
theorem Bu{X:Cx}{k v:Expr}{tk tv:bT}{pos:Pos}(hu:X.A.units+64 < cLine)(hk:WE X k tk)(hv:WE X v tv):WE X (.Dict [some k] [v] pos) (sm tk tv):=⟨CK hu hk.h hv.h⟩
theorem yG{tk tv:bT}{δ:cI}{M:Mem}{Q:bD}(t:Bool)(h:∀p,M p=none->tk δ (ah M p (.cE t [])) λ x M1=>tv δ M1 λ y M2=>M2 p=some (.cE t [])/\fe t x/\Q (.ref p) (ah M2 p (.cE t [(x,y)]))):sm tk tv δ M Q:=⟨t,h⟩
end L4
namespace L2
open PySem PySem.Spec PyProof.Rows
def iy(ps fv:List Str)(sc:Scope):Bool:=sc.kind==.function&&!sc.isCoroutine&&!sc.isGenerator&&(ps.all λ x=>sc.names.lookup x==some .local)&&(fv.all λ x=>sc.names.lookup x==some .free)&&sc.names.all λ y=>y.2 != .cell&&(y.2 != .free||fv.contains y.1)
theorem Ky{ps fv:List Str}{sc:Scope}(h:iy ps fv sc=true)(nd:(ps++fv).Nodup):iN ps fv sc:=by unfold iy at h;simp only[p7,List.all_eq_true]at h;obtain⟨⟨⟨⟨⟨h1,h2⟩,h3⟩,h4⟩,h5⟩,h6⟩:=h;refine⟨by simpa using h1,by simpa using h2,by simpa using h3,nd,λ x hx=>by simpa using h4 x hx,λ y hy=>by simpa using(h6 y hy).1,λ x hx=>by simpa using h5 x hx,λ x hx=>?_⟩;have:=(h6 _ (j7 hx)).2;simpa using this
theorem Iw{s:Shared}{fd:FuncData}{args:Args}{binds:List (Str×Value)}{K:C0}{T:Addr}{o:Obj}{items:Array Value}{n:Nat}{k:Option (Array Value)->Sem (List (Str×Value))}(hk:K.In s.heap)(hd:fd.defaults=.ref T)(l:K.lookup T=some o)(hs:o.data=.seq items n) (h1:bindArgs fd args=seqItems? fd.defaults >>= k) (h2:k (some items)=pure binds):BindsTo s fd args binds:=.of_defaults hd (hk _ _ l) hs h1 h2
end L2
namespace L3
open PySem L2
theorem Az{M M':Mem}{C:CM}(h:∀b o,gF M C b=some o->M' b=some o)(n:∀b d,C b=some d->M b=none):∀b o,M b=some o->f_ M' C b=some o:=λ b o e=>by
 rcases cV C b with z|⟨d,z⟩
 ·rw[kq z];exact h b o (by rw[iJ z];exact e)
 ·rw[n b d z]at e;cases e
end L3
namespace L2
open PySem
theorem jT.AS {K:C0}{x qual:Str}{st:Stmt}{dV:Value}{c f:Addr}{fd:FuncData}{ps:List Str}(F:jT K x qual st dV c f fd) (h:∀(kV doc pm:Value) (an:Option Addr) (ct:Value) (s:Shared),K.In s.heap->∀(us:List Value),us.length=ps.length->BindsTo s (PySem.W.fnOf x qual (bR st) (bx st) (aq st) dV kV doc pm an (.ref c) ct) ⟨us,[]⟩ (ps.zip us)):Binds K fd ps []:=
 F.binds λ kV doc pm an ct s hk us hl=>by rw[q9]at hl ⊢;exact h kV doc pm an ct s hk us hl
end L2
namespace KK
abbrev Cs:=List Nat
def inc:Cs->Nat->Cs
 |[],_=>[]
 |a::as,0=>(a+1)::as
 |a::as,l+1=>a::inc as l
theorem iA:∀(p:Cs) (l:Nat),(inc p l).length=p.length
 |[],_=>rfl
 |a::as,0=>rfl
 |a::as,l+1=>by show(inc as l).length+1=_;rw[iA as l];rfl
theorem dH:∀{p:Cs} {l:Nat},l < p.length->(inc p l).sum=p.sum+1
 |a::as,0,_=>by show a+1+as.sum=a+as.sum+1;omega
 |a::as,l+1,h=>by have:=dH (p:=as) (l:=l) (by simpa using h);show a+(inc as l).sum=a+as.sum+1;omega
def rL:Cs->Cs->Prop
 |a::as,b::bs=>b < a\/(a=b/\rL as bs)
 |_,_=>False
theorem gr:∀p:Cs,¬rL p p
 |[],h=>h
 |a::as,h=>h.elim (λ h=>y6 _ h) λ h=>gr as h.2
theorem je:∀{p q r:Cs},rL p q->rL q r->rL p r
 |a::as,b::bs,c::cs,h,g=>by
  rcases h with h|⟨rfl,h⟩
  ·rcases g with g|⟨rfl,g⟩
   ·exact .inl (by omega)
   ·exact .inl h
  ·rcases g with g|⟨rfl,g⟩
   ·exact .inl g
   ·exact .inr ⟨rfl,je h g⟩
 |[],_,_,h,_=>h.elim
 |_::_,[],_,h,_=>h.elim
 |_::_,_::_,[],_,g=>g.elim
theorem uK:∀{p q:Cs},p.length=q.length->p=q\/rL p q\/rL q p
 |[],[],_=>.inl rfl
 |a::as,b::bs,h=>by
  rcases Nat.lt_trichotomy a b with z|z|z
  ·exact .inr (.inr (.inl z))
  ·subst z;rcases uK (p:=as) (q:=bs) (by simpa using h)with e|e|e
   ·exact .inl (by rw[e])
   ·exact .inr (.inl (.inr ⟨rfl,e⟩))
   ·exact .inr (.inr (.inr ⟨rfl,e⟩))
  ·exact .inr (.inl (.inl z))
theorem uM:∀{p q:Cs} {l:Nat},rL p q->rL (inc p l) (inc q l)
 |a::as,b::bs,0,h=>by
  rcases h with h|⟨rfl,h⟩
  ·exact .inl (by omega)
  ·exact .inr ⟨rfl,h⟩
 |a::as,b::bs,l+1,h=>by
  rcases h with h|⟨rfl,h⟩
  ·exact .inl h
  ·exact .inr ⟨rfl,uM h⟩
 |[],_,_,h=>h.elim
 |_::_,[],_,h=>h.elim
theorem qK:∀{p:Cs} {i j:Nat},i < j->i < p.length->rL (inc p i) (inc p j)
 |a::as,0,j+1,_,_=>.inl (by omega)
 |a::as,i+1,j+1,h,g=>.inr ⟨rfl,qK (by omega) (by simpa using g)⟩
def zb(p:Cs)(l:Nat):Prop:=∀j,l < j->p.getD j 0=0
theorem Jn{a:Nat}{as:Cs}{l:Nat}(h:zb (a::as) (l+1)):zb as l:=λ j g=>by
 have:=h (j+1) (by omega)
 rwa [getD_cons_succ]at this
theorem Jo:∀{as:Cs},(∀j,as.getD j 0=0)->as.sum=0
 |[],_=>rfl
 |a::as,h=>by
  have h0:=h 0;rw[getD_cons_zero]at h0;have:=Jo (as:=as) λ j=>by have:=h (j+1);rwa [getD_cons_succ]at this
  show a+as.sum=0;omega
theorem Et:∀{p q:Cs},p.sum=0->¬rL p q
 |a::as,b::bs,h,g=>by
  have h:a+as.sum=0:=h;rcases g with g|⟨rfl,g⟩
  ·omega
  ·exact Et (by omega) g
 |[],_,_,h=>h.elim
 |_::_,[],_,h=>h.elim
theorem uL:∀{a p:Cs} {h l:Nat},rL a p->a.sum=p.sum->zb p l->rL (inc a h) (inc p l)
 |a::as,b::bs,h,0,g,e,z=>by
  have e:a+as.sum=b+bs.sum:=e;have:bs.sum=0:=Jo λ j=>by have:=z (j+1) (by omega);rwa [getD_cons_succ]at this
  rcases g with g|⟨rfl,g⟩
  ·omega
  ·exact absurd g (Et (by omega))
 |a::as,b::bs,h,l+1,g,e,z=>by
  have e:a+as.sum=b+bs.sum:=e;cases h with
  |zero=>exact .inl (by rcases g with g|g <;> omega)
  |succ h=>
   rcases g with g|⟨rfl,g⟩
   ·exact .inl g
   ·exact .inr ⟨rfl,uL g (by omega) (Jn z)⟩
 |[],_,_,_,h,_,_=>h.elim
 |_::_,[],_,_,h,_,_=>h.elim
def Ah(p q:Cs):Prop:=p.sum < q.sum\/(p.sum=q.sum/\rL p q)
theorem Ah.NL {p:Cs}(h:Ah p p):False:=h.elim (λ h=>y6 _ h) λ h=>gr _ h.2
theorem Ah.trans {p q r:Cs}(h:Ah p q)(g:Ah q r):Ah p r:=by
 rcases h with h|⟨e,h⟩
 ·rcases g with g|⟨f,g⟩
  ·exact .inl (by omega)
  ·exact .inl (by omega)
 ·rcases g with g|⟨f,g⟩
  ·exact .inl (by omega)
  ·exact .inr ⟨by omega,je h g⟩
theorem Ah.not {p q:Cs}(h:Ah p q)(g:Ah q p):False:=(h.trans g).NL
theorem Ah.O4 {p q:Cs}(h:p.length=q.length):p=q\/Ah p q\/Ah q p:=by
 rcases Nat.lt_trichotomy p.sum q.sum with z|z|z
 ·exact .inr (.inl (.inl z))
 ·rcases uK h with e|e|e
  ·exact .inl e
  ·exact .inr (.inl (.inr ⟨z,e⟩))
  ·exact .inr (.inr (.inr ⟨z.symm,e⟩))
 ·exact .inr (.inr (.inl z))
theorem Ah.inc {p q:Cs}{l:Nat}(h:Ah p q)(hp:l < p.length)(hq:l < q.length):Ah (inc p l) (inc q l):=by
 have a:=dH hp;have b:=dH hq;rcases h with h|⟨e,h⟩
 ·exact .inl (by omega)
 ·exact .inr ⟨by omega,uM h⟩
theorem Ah.par {a p:Cs}{h l:Nat}(g:Ah a p)(z:zb p l)(hh:h < a.length)(hl:l < p.length):Ah (KK.inc a h) (KK.inc p l):=by
 have x:=dH hh;have y:=dH hl;rcases g with g|⟨e,g⟩
 ·exact .inl (by omega)
 ·exact .inr ⟨by omega,uL g e z⟩
theorem Ah.NM {p:Cs}{i j:Nat}(h:i < j)(hj:j < p.length):Ah (KK.inc p i) (KK.inc p j):=
 .inr ⟨by rw[dH hj,dH (by omega)],qK h (by omega)⟩
theorem lastOf:∀{q:Cs},0 < q.sum->∃p l,l < q.length/\p.length=q.length/\q=inc p l/\zb p l
 |[],h=>absurd h (by decide)
 |c::cs,h=>by
  have h:0 < c+cs.sum:=h;by_cases z:cs.sum=0
  ·refine⟨(c - 1)::cs,0,by simp,by simp,?_,λ j hj=>?_⟩
   ·show c::cs=(c - 1+1)::cs;rw[show c - 1+1=c by omega]
   ·obtain⟨j,rfl⟩:∃k,j=k+1:=⟨j - 1,by omega⟩;rw[getD_cons_succ,c3];cases e:cs[j]? with
    |none=>rfl
    |some v=>
     have hv:=j4 e;have:∀{xs:Cs},xs.sum=0->∀v∈xs,v=0:=λ{xs}=>by
      induction xs with
      |nil=>intro _ v hv;cases hv
      |cons x xs ih=>
       intro h v hv;have h:x+xs.sum=0:=h;rcases y8.mp hv with rfl|hv
       ·omega
       ·exact ih (by omega) v hv
     exact this z v hv
  ·obtain⟨p,l,hl,hp,e,zz⟩:=lastOf (q:=cs) (by omega);refine⟨c::p,l+1,by simp;omega,by simp[hp],by rw[e];rfl,λ j hj=>?_⟩;obtain⟨j,rfl⟩:∃k,j=k+1:=⟨j - 1,by omega⟩;rw[getD_cons_succ];exact zz j (by omega)
def rO(T:Nat):List Nat:=(List.range (T+1)).map (T - ·)
def bj:Nat->Nat->List Cs
 |0,T=>if T=0 then[[]]else[]
 |k+1,T=>(rO T).flatMap λ n=>(bj k (T - n)).map (n::·)
theorem uH{T n:Nat}:n∈rO T↔n<=T:=by
 unfold rO;rw[A1];constructor
 ·rintro⟨a,_,rfl⟩;omega
 ·intro h;exact⟨T - n,mem_range.mpr (by omega),by omega⟩
set_option tactic.hygienic true in
theorem bH:∀{k T:Nat} {p:Cs},p∈bj k T↔p.length=k/\p.sum=T
 |0,T,p=>by
  unfold bj;split
  ·rename_i h;subst h;rw[l8];exact⟨λ h=>by subst h;exact⟨rfl,rfl⟩,λ h=>i4.mp h.1⟩
  ·rename_i h;refine⟨λ h=>(by cases h),λ g=>?_⟩;have:=i4.mp g.1;subst this;exact absurd g.2.symm h
 |k+1,T,p=>by
  unfold bj;rw[mem_flatMap];constructor
  ·rintro⟨n,hn,h⟩;rw[A1]at h;obtain⟨r,hr,rfl⟩:=h;rw[bH]at hr;rw[uH]at hn;refine⟨by simp[hr.1],?_⟩;show n+r.sum=T;omega
  ·rintro⟨hl,hs⟩;cases p with
   |nil=>cases hl
   |cons n r=>have hs:n+r.sum=T:=hs;refine⟨n,uH.mpr (by omega),A1.mpr ⟨r,bH.mpr ⟨by simpa using hl,by omega⟩,rfl⟩⟩
theorem Gs(T:Nat):(rO T).Pairwise (· > ·):=by unfold rO;rw[pairwise_map];have h:(List.range (T+1)).Pairwise (· < ·):=pairwise_lt_range;refine List.Pairwise.imp_of_mem (λ{a b} ha hb Mo=>?_) h;rw[mem_range]at hb;show T - b < T - a;omega
theorem ij:∀(k T:Nat),(bj k T).Pairwise rL
 |0,T=>by unfold bj;split <;> simp
 |k+1,T=>by
  unfold bj;rw[pairwise_flatMap];refine⟨λ n _=>?_,?_⟩
  ·rw[pairwise_map];exact(ij k (T - n)).imp λ h=>.inr ⟨rfl,h⟩
  ·refine(Gs T).imp λ{a b} h x hx y hy=>?_;rw[A1]at hx hy;obtain⟨r,_,rfl⟩:=hx;obtain⟨s,_,rfl⟩:=hy;exact .inl h
theorem ua(T:Nat):bj 1 T=[[T]]:=by
 have h1:∀p∈bj 1 T,p=[T]:=λ p hp=>by
  rw[bH]at hp
  match p,hp with
  |[a],hp=>rw[show a=T from by simpa using hp.2]
 have h2:[T]∈bj 1 T:=bH.mpr ⟨rfl,by simp⟩;have h3:=ij 1 T;generalize bj 1 T=l at*
 match l,h1,h2,h3 with
 |[a],h1,_,_=>rw[h1 a (by simp)]
 |a::b::c,h1,_,h3=>have ha:=h1 a (by simp);have hb:=h1 b (by simp);subst ha;subst hb;exact absurd ((pairwise_cons.mp h3).1 _ (by simp)) (gr _)
theorem fZ{α β:Type}{f:α->List β}{m:Nat}:∀{l:List α},(∀x∈l,(f x).length<=m)->(l.flatMap f).length<=l.length*m
 |[],_=>by simp
 |a::l,h=>by rw[flatMap_cons,k9,p5,Nat.succ_mul];have:=h a (by simp);have:=fZ (f:=f) (m:=m) (l:=l) λ x hx=>h x (j3 _ hx);omega
theorem ng{B:Nat}:∀{k T:Nat},T < B->(bj (k+1) T).length<=B^k
 |0,T,h=>by rw[ua];simp
 |k+1,T,h=>by
  unfold bj;have:=fZ (f:=λ n=>(bj (k+1) (T - n)).map (n::·)) (m:=B^k) (l:=rO T) λ n hn=>by rw[w6];exact ng (by omega)
  refine A2 this ?_;unfold rO;rw[w6,n9,Nat.pow_succ,Nat.mul_comm];exact Nat.mul_le_mul_left _ (by omega)
def mM(h T:Nat):List Cs:=(List.range T).flatMap (bj h)
theorem dW{h T:Nat}{p:Cs}:p∈mM h T↔p.length=h/\p.sum < T:=by
 unfold mM;rw[mem_flatMap];constructor
 ·rintro⟨n,hn,hp⟩;rw[bH]at hp;rw[mem_range]at hn;exact⟨hp.1,by omega⟩
 ·rintro⟨a,b⟩;exact⟨p.sum,mem_range.mpr b,bH.mpr ⟨a,rfl⟩⟩
theorem CT(h T:Nat):(mM h T).Pairwise Ah:=by
 unfold mM;rw[pairwise_flatMap];refine⟨λ n _=>?_,?_⟩
 ·refine List.Pairwise.imp_of_mem (λ{a b} ha hb Mo=>?_) (ij h n);rw[bH]at ha hb;exact .inr ⟨by omega,Mo⟩
 ·refine(pairwise_lt_range (n:=T)).imp λ{a b} h x hx y hy=>?_;rw[bH]at hx hy;exact .inl (by omega)
theorem xp(h T:Nat):mM h (T+1)=mM h T++bj h T:=by unfold mM;rw[range_succ,flatMap_append,flatMap_singleton]
theorem qy{α:Type}{R:α->α->Prop}{Q:α->Prop}:∀{l:List α},l.Pairwise R->(∃x∈l,Q x)->∃x∈l,Q x/\∀y∈l,Q y->y=x\/R x y
 |[],_,h=>by obtain⟨x,hx,_⟩:=h;cases hx
 |a::l,hp,h=>by
  rw[pairwise_cons]at hp;by_cases ha:Q a
  ·refine⟨a,by simp,ha,λ y hy _=>?_⟩;rcases y8.mp hy with z|z
   ·exact .inl z
   ·exact .inr (hp.1 y z)
  ·obtain⟨x,hx,hq,hm⟩:=qy hp.2 (by
    obtain⟨x,hx,hq⟩:=h;rcases y8.mp hx with rfl|z
    ·exact absurd hq ha
    ·exact⟨x,z,hq⟩)
   refine⟨x,j3 _ hx,hq,λ y hy wW=>?_⟩;rcases y8.mp hy with rfl|z
   ·exact absurd wW ha
   ·exact hm y z wW
end KK
namespace KK
def iQ{α:Type}(f:α->α):Nat->α->α
 |0,x=>x
 |n+1,x=>iQ f n (f x)
theorem lP{α:Type}(f:α->α):∀(n:Nat) (x:α),iQ f (n+1) x=f (iQ f n x)
 |0,x=>rfl
 |n+1,x=>by show iQ f (n+1) (f x)=_;rw[lP f n];rfl
def df{α:Type}(F:Nat->α->α):Nat->α->Cs->α
 |_,s,[]=>s
 |i,s,c::cs=>df F (i+1) (iQ (F i) c s) cs
structure jK{α:Type}(S:α->Prop)(h:Nat)(F:Nat->α->α):Prop where
 cl:∀s i,i < h->S s->S (F i s)
 cm:∀s i j,i < h->j < h->S s->F i (F j s)=F j (F i s)
section
variable {α:Type}{S:α->Prop}{h:Nat}{F:Nat->α->α}
theorem jK.iQ (C:jK S h F){i:Nat}(hi:i < h):∀(n:Nat) (s:α),S s->S (iQ (F i) n s)
 |0,s,hs=>hs
 |n+1,s,hs=>C.iQ hi n _ (C.cl s i hi hs)
theorem jK.Pg (C:jK S h F){i j:Nat}(hi:i < h)(hj:j < h):∀(n:Nat) (s:α),S s->KK.iQ (F i) n (F j s)=F j (KK.iQ (F i) n s)
 |0,s,hs=>rfl
 |n+1,s,hs=>by show KK.iQ (F i) n (F i (F j s))=F j (KK.iQ (F i) n (F i s));rw[C.cm s i j hi hj hs,C.Pg hi hj n _ (C.cl s i hi hs)]
theorem jK.df (C:jK S h F):∀(cs:Cs) (i:Nat) (s:α),i+cs.length<=h->S s->S (df F i s cs)
 |[],i,s,_,hs=>hs
 |c::cs,i,s,hl,hs=>by rw[p5]at hl;exact C.df cs (i+1) _ (by omega) (C.iQ (by omega) _ _ hs)
theorem jK.P_ (C:jK S h F){j:Nat}(hj:j < h):∀(cs:Cs) (i:Nat) (s:α),i+cs.length<=h->S s->KK.df F i (F j s) cs=F j (KK.df F i s cs)
 |[],i,s,_,hs=>rfl
 |c::cs,i,s,hl,hs=>by rw[p5]at hl;show KK.df F (i+1) (KK.iQ (F i) c (F j s)) cs=F j (KK.df F (i+1) (KK.iQ (F i) c s) cs);rw[C.Pg (by omega) hj c s hs,C.P_ hj cs (i+1) _ (by omega) (C.iQ (by omega) _ _ hs)]
theorem jK.inc (C:jK S h F):∀(cs:Cs) (i l:Nat) (s:α),i+cs.length<=h->l < cs.length->S s->KK.df F i s (KK.inc cs l)=F (i+l) (KK.df F i s cs)
 |c::cs,i,0,s,hl,_,hs=>by rw[p5]at hl;show KK.df F (i+1) (KK.iQ (F i) (c+1) s) cs=F i (KK.df F (i+1) (KK.iQ (F i) c s) cs);rw[lP,C.P_ (by omega) cs (i+1) _ (by omega) (C.iQ (by omega) _ _ hs)]
 |c::cs,i,l+1,s,hl,hc,hs=>by rw[p5]at hl hc;show KK.df F (i+1) (KK.iQ (F i) c s) (KK.inc cs l)=F (i+(l+1)) (KK.df F (i+1) (KK.iQ (F i) c s) cs);rw[C.inc cs (i+1) l _ (by omega) (by omega) (C.iQ (by omega) _ _ hs),show i+1+l=i+(l+1) by omega]
def hG(F:Nat->α->α)(s0:α)(h:Nat)(p:Cs):Prop:=p.length=h/\∀q:Cs,q.length=h->Ah q p->df F 0 s0 q≠df F 0 s0 p
theorem hG.uniq {s0:α}{p q:Cs}(a:hG F s0 h p)(b:hG F s0 h q)(e:df F 0 s0 p=df F 0 s0 q):p=q:=by
 rcases Ah.O4 (p:=p) (q:=q) (by rw[a.1,b.1])with z|z|z
 ·exact z
 ·exact absurd e (b.2 p a.1 z)
 ·exact absurd e.symm (a.2 q b.1 z)
theorem hG.ex (F:Nat->α->α)(s0:α)(h:Nat){p:Cs}(hp:p.length=h):∃q,hG F s0 h q/\df F 0 s0 q=df F 0 s0 p/\(p=q\/Ah q p):=by
 obtain⟨q,hq,e,hm⟩:=qy (Q:=λ q=>df F 0 s0 q=df F 0 s0 p) (CT h (p.sum+1)) ⟨p,dW.mpr ⟨hp,by omega⟩,rfl⟩;have NY:=dW.mp hq;refine⟨q,⟨NY.1,λ r hr ha er=>?_⟩,e,hm p (dW.mpr ⟨hp,by omega⟩) rfl⟩;have hs:r.sum<=q.sum:=by rcases ha with z|z <;> omega
 rcases hm r (dW.mpr ⟨hr,by omega⟩) (er.trans e)with z|z
 ·subst z;exact ha.NL
 ·exact ha.not z
theorem hG.dn (C:jK S h F){s0:α}(h0:S s0){p:Cs}{l:Nat}(hl:l < p.length)(a:hG F s0 h (KK.inc p l)):hG F s0 h p:=by
 have hp:p.length=h:=by rw[<- iA p l];exact a.1
 refine⟨hp,λ q hq ha e=>?_⟩;refine a.2 (KK.inc q l) (by rw[iA];exact hq) (ha.inc (by omega) hl) ?_;rw[C.inc q 0 l s0 (by omega) (by omega) h0,C.inc p 0 l s0 (by omega) hl h0,e]
def fA(h:Nat):Cs:=List.replicate h 0
theorem nZ:∀{p:Cs},p.sum=0->p=fA p.length
 |[],_=>rfl
 |a::as,e=>by have e:a+as.sum=0:=e;have:=nZ (p:=as) (by omega);show a::as=List.replicate (as.length+1) 0;rw[j8,show a=0 by omega];exact B6 _ this
theorem hV(h:Nat):(fA h).sum=0:=by unfold fA;simp
theorem oY(F:Nat->α->α)(s:α):∀(h i:Nat),df F i s (fA h)=s
 |0,i=>rfl
 |h+1,i=>by show df F (i+1) s (fA h)=s;exact oY F s h (i+1)
theorem hG.fA (F:Nat->α->α)(s0:α)(h:Nat):hG F s0 h (fA h):=by
 refine⟨by simp[KK.fA],λ q hq ha=>?_⟩;rcases ha with z|z
 ·rw[hV]at z;omega
 ·rw[hV]at z;have:=nZ z.1;rw[hq]at this;rw[this]at z;exact absurd z.2 (gr _)
theorem hG.par (C:jK S h F){s0:α}(h0:S s0){q:Cs}(a:hG F s0 h q)(hz:q≠KK.fA h):∃p l,l < h/\p.length=h/\q=KK.inc p l/\zb p l/\hG F s0 h p/\p.sum < q.sum:=by
 have hs:0 < q.sum:=Nat.pos_of_ne_zero λ z=>hz (by have:=nZ z;rwa [a.1]at this);obtain⟨p,l,hl,hp,e,z⟩:=lastOf hs;have rM:l < p.length:=by omega
 subst e;refine⟨p,l,by rw[<- a.1];exact hl,by rw[hp];exact a.1,rfl,z,a.dn C h0 rM,by rw[dH rM];omega⟩
structure IG(F:Nat->α->α)(s0:α)(h:Nat)(told:List (Cs×α)):Prop where
 ent:∀e∈told,hG F s0 h e.1/\df F 0 s0 e.1=e.2
 MS:(told.map (·.1)).Pairwise Ah
 low:∀q,hG F s0 h q->q∉told.map (·.1)->∀k∈told.map (·.1),Ah k q
 Bq:told[0]?=some (KK.fA h,s0)
structure pQ(F:Nat->α->α)(s0:α)(h:Nat)(told:List (Cs×α))(d i:Nat):Prop where
 iz:IG F s0 h told
 up:∀q p l,hG F s0 h q->q∉told.map (·.1)->q=KK.inc p l->p.length=h->l < h->zb p l->∀j e,told[j]?=some e->e.1=p->d < j\/(j=d/\i<=l)
theorem pQ.start (F:Nat->α->α)(s0:α)(h:Nat):pQ F s0 h [(KK.fA h,s0)] 0 0:=by
 refine⟨⟨λ e he=>?_,by simp,λ q hq hn k hk=>?_,rfl⟩,λ q p l _ _ _ _ _ _ j e hj _=>?_⟩
 ·rw[l8.mp he];exact⟨hG.fA F s0 h,oY F s0 h 0⟩
 ·rw[map_singleton,l8]at hk hn;subst hk;rcases Ah.O4 (p:=q) (q:=KK.fA h) (by rw[hq.1];simp[KK.fA])with z|z|z
  ·exact absurd z hn
  ·rcases z with z|z
   ·rw[hV]at z;omega
   ·rw[hV]at z;have:=nZ z.1;rw[hq.1]at this;exact absurd this hn
  ·exact z
 ·cases j with
  |zero=>exact .inr ⟨rfl,by omega⟩
  |succ j=>exact .inl (by omega)
theorem pQ.turn {s0:α}{told:List (Cs×α)}{d:Nat}(b:pQ F s0 h told d h):pQ F s0 h told (d+1) 0:=
 ⟨b.iz,λ q p l hq hn e hp hl hz j x hj hx=>by
  rcases b.up q p l hq hn e hp hl hz j x hj hx with z|z
  ·by_cases g:j=d+1
   ·exact .inr ⟨g,by omega⟩
   ·exact .inl (by omega)
  ·omega⟩
theorem IG.at {s0:α}{told:List (Cs×α)}(b:IG F s0 h told){i j:Nat}{x y:Cs×α}(hi:told[i]?=some x)(hj:told[j]?=some y)(l:i < j):Ah x.1 y.1:=by
 have Mi:(told.map (·.1))[i]?=some x.1:=by rw[m8,hi];rfl
 have Mh:(told.map (·.1))[j]?=some y.1:=by rw[m8,hj];rfl
 obtain⟨a,ha⟩:=c6.mp Mi;obtain⟨c,hc⟩:=c6.mp Mh;have:=pairwise_iff_getElem.mp b.MS i j a c l;rw[ha,hc]at this;exact this
theorem pQ.next (C:jK S h F){s0:α}(h0:S s0){told:List (Cs×α)}{d i:Nat}(b:pQ F s0 h told d i)(hi:i < h){a:Cs}{s:α}(hd:told[d]?=some (a,s)){q:Cs}(hq:hG F s0 h q)(hn:q∉told.map (·.1)):q=KK.inc a i\/Ah (KK.inc a i) q:=by
 have hz:q≠KK.fA h:=λ z=>hn (by
  rw[A1];exact⟨_,j4 b.iz.Bq,z.symm⟩)
 have ha:=(b.iz.ent _ (j4 hd)).1;have Mn:a.length=h:=ha.1;obtain⟨p,l,hl,hp,e,z,fp,_⟩:=hq.par C h0 hz;subst e;have key:Ah a p->Ah (KK.inc a i) (KK.inc p l):=λ g=>g.par z (by omega) (by omega);by_cases hm:p∈told.map (·.1)
 ·obtain⟨x,hx,rfl⟩:=A1.mp hm;obtain⟨j,hj⟩:=getElem?_of_mem hx;rcases b.up _ x.1 l hq hn rfl hp hl z j x hj rfl with g|⟨rfl,g⟩
  ·exact .inr (key (b.iz.at hd hj g))
  ·rw[hd]at hj;cases hj;by_cases e:i=l
   ·exact .inl (by rw[e])
   ·exact .inr (Ah.NM (by omega) (by omega))
 ·exact .inr (key (b.iz.low p fp hm a (A1.mpr ⟨_,j4 hd,rfl⟩)))
theorem pQ.old (C:jK S h F){s0:α}(h0:S s0){told:List (Cs×α)}{d i:Nat}(b:pQ F s0 h told d i)(hi:i < h){a:Cs}{s:α}(hd:told[d]?=some (a,s))(hk:F i s∈told.map (·.2)):pQ F s0 h told d (i+1):=by
 refine⟨b.iz,λ q p l hq hn e hp hl hz j x hj hx=>?_⟩;have ha:=b.iz.ent _ (j4 hd);have Mn:a.length=h:=ha.1.1;rcases b.up q p l hq hn e hp hl hz j x hj hx with z|⟨rfl,z⟩
 ·exact .inl z
 ·refine .inr ⟨rfl,?_⟩;by_cases g:i=l
  ·exfalso;subst g;rw[hd]at hj;cases hj;subst hx;obtain⟨y,hy,ey⟩:=A1.mp hk;have wW:=b.iz.ent y hy;refine hn (A1.mpr ⟨y,hy,wW.1.uniq hq ?_⟩);rw[wW.2,ey,e,C.inc a 0 i s0 (by omega) (by omega) h0,ha.2,Nat.zero_add]
  ·omega
theorem pQ.new (C:jK S h F){s0:α}(h0:S s0){told:List (Cs×α)}{d i:Nat}(b:pQ F s0 h told d i)(hi:i < h){a:Cs}{s:α}(hd:told[d]?=some (a,s))(hk:F i s∉told.map (·.2)):pQ F s0 h (told++[(KK.inc a i,F i s)]) d (i+1):=by
 have ha:=b.iz.ent _ (j4 hd);have Mn:a.length=h:=ha.1.1;have hc:df F 0 s0 (KK.inc a i)=F i s:=by rw[C.inc a 0 i s0 (by omega) (by omega) h0,ha.2,Nat.zero_add]
 have w_:(KK.inc a i).length=h:=by rw[iA];exact Mn
 have fc:hG F s0 h (KK.inc a i):=by
  obtain⟨q,fq,e,hq⟩:=hG.ex F s0 h w_;have hn:q∉told.map (·.1):=λ hm=>by obtain⟨y,hy,rfl⟩:=A1.mp hm;refine hk (A1.mpr ⟨y,hy,?_⟩);rw[<- (b.iz.ent y hy).2,e,hc]
  rcases b.next C h0 hi hd fq hn with z|z
  ·rw[<- z];exact fq
  ·rcases hq with g|g
   ·rw[g];exact fq
   ·exact(z.not g).elim
 have nI:KK.inc a i∉told.map (·.1):=λ hm=>by obtain⟨y,hy,e⟩:=A1.mp hm;exact hk (A1.mpr ⟨y,hy,by rw[<- (b.iz.ent y hy).2,e,hc]⟩)
 have Oi:d < told.length:=(c6.mp hd).1;refine⟨⟨λ e he=>?_,?_,λ q fq hn k Jc=>?_,?_⟩,λ q p l hq hn e hp hl hz j x hj hx=>?_⟩
 ·rcases w9.mp he with z|z
  ·exact b.iz.ent e z
  ·rw[l8.mp z];exact⟨fc,hc⟩
 ·rw[x3,pairwise_append];refine⟨b.iz.MS,by simp,λ x hx y hy=>?_⟩;rw[map_singleton,l8]at hy;subst hy;exact b.iz.low _ fc nI x hx
 ·rw[x3,w9]at hn Jc;rw[not_or]at hn;rcases Jc with z|z
  ·exact b.iz.low q fq hn.1 k z
  ·rw[map_singleton,l8]at z;subst z;rcases b.next C h0 hi hd fq hn.1 with g|g
   ·exact absurd (by rw[g];simp) hn.2
   ·exact g
 ·rw[c4 (by omega)];exact b.iz.Bq
 ·rw[x3,w9,not_or]at hn;by_cases g:j < told.length
  ·rw[c4 g]at hj;rcases b.up q p l hq hn.1 e hp hl hz j x hj hx with z|⟨rfl,z⟩
   ·exact .inl z
   ·refine .inr ⟨rfl,?_⟩;by_cases g:i=l
    ·exfalso;subst g;rw[hd]at hj;cases hj;subst hx;exact hn.2 (by rw[e];simp)
    ·omega
  ·exact .inl (by omega)
theorem pQ.all (C:jK S h F){s0:α}(h0:S s0){told:List (Cs×α)}{d:Nat}(b:pQ F s0 h told d 0)(hd:told.length<=d):∀(n:Nat) (q:Cs),q.sum < n->hG F s0 h q->q∈told.map (·.1)
 |0,q,hs,_=>by omega
 |n+1,q,hs,fq=>by
  refine Decidable.byContradiction λ hn=>?_;have hz:q≠KK.fA h:=λ z=>hn (by
   rw[A1];exact⟨_,j4 b.iz.Bq,z.symm⟩)
  obtain⟨p,l,hl,hp,e,z,fp,iR⟩:=fq.par C h0 hz;have:=b.all C h0 hd n p (by omega) fp;obtain⟨x,hx,ex⟩:=A1.mp this;obtain⟨j,hj⟩:=getElem?_of_mem hx;have Pz:j < told.length:=(c6.mp hj).1;rcases b.up q p l fq hn e hp hl z j x hj ex with g|g <;> omega
theorem IG.nd {s0:α}{told:List (Cs×α)}(b:IG F s0 h told):(told.map (·.2)).Nodup:=by
 have h2:(told.map (·.1)).Pairwise λ x y=>x≠y:=b.MS.imp λ a e=>by subst e;exact a.NL
 have h1:told.Pairwise λ x y=>x.1≠y.1:=pairwise_map.mp h2;unfold List.Nodup;rw[pairwise_map];refine List.Pairwise.imp_of_mem (λ{x y} hx hy NP=>?_) h1;intro e;have a:=b.ent x hx;have c:=b.ent y hy;exact NP (a.1.uniq c.1 (by rw[a.2,c.2,e]))
theorem hG.dA (C:jK S h F){s0:α}(h0:S s0){U:List α}(hU:∀s,S s->s∈U){p:Cs}(a:hG F s0 h p):p.sum < U.length:=by
 have key:∀(n:Nat) (p:Cs),p.sum=n->hG F s0 h p->∃L:List Cs,L.length=p.sum+1/\L.Nodup/\∀q∈L,hG F s0 h q/\q.sum<=p.sum:=λ n=>by
  induction n with
  |zero=>exact λ p e fp=>⟨[p],by simp[e],by simp,λ q hq=>by rw[l8.mp hq];exact⟨fp,A6 _⟩⟩
  |succ n ih=>
   intro p e fp;obtain⟨p',l,hl,hp,e',z,Sj,hs⟩:=fp.par C h0 (λ z=>by rw[z,hV]at e;omega);have es:p.sum=p'.sum+1:=by rw[e',dH (by omega)]
   obtain⟨L,hL,nd,hm⟩:=ih p' (by omega) Sj;refine⟨p::L,by rw[p5,hL];omega,nodup_cons.mpr ⟨λ hp=>?_,nd⟩,λ q hq=>?_⟩
   ·have:=(hm p hp).2;omega
   ·rcases y8.mp hq with rfl|g
    ·exact⟨fp,A6 _⟩
    ·have:=hm q g;exact⟨this.1,by omega⟩
 obtain⟨L,hL,nd,hm⟩:=key p.sum p rfl a;have Q1:(L.map (df F 0 s0)).Nodup:=by unfold List.Nodup;rw[pairwise_map];refine List.Pairwise.imp_of_mem (λ{x y} hx hy NP e=>?_) nd;exact NP ((hm x hx).1.uniq (hm y hy).1 e)
 have:=List.Nodup.length_le_of_subset Q1 (l₂:=U) λ s hs=>by obtain⟨q,hq,rfl⟩:=A1.mp hs;exact hU _ (C.df q 0 s0 (by rw[(hm q hq).1.1];omega) h0)
 rw[w6]at this;omega
end
end KK
namespace KK
open PySem L3 L4 L5
inductive AY{α:Type}(F:Nat->α->α)(h:Nat)(s0:α):α->Prop
 |zero:AY F h s0 s0
 |step {s:α} {i:Nat}:AY F h s0 s->i < h->AY F h s0 (F i s)
set_option tactic.hygienic true in
theorem AY.sum {α:Type}{S:α->Prop}{h:Nat}{F:Nat->α->α}{s0:α}(C:jK S h F)(h0:S s0){s:α}(r:AY F h s0 s):∃p:Cs,p.length=h/\df F 0 s0 p=s:=by
 induction r with
 |zero=>exact⟨fA h,by simp[fA],oY F s0 h 0⟩
 |step r hi ih=>obtain⟨p,hp,e⟩:=ih;rename_i i;exact⟨inc p i,by rw[iA];exact hp,by rw[C.inc p 0 i s0 (by omega) (by omega) h0,e,Nat.zero_add]⟩
theorem AY.ok {α:Type}{S:α->Prop}{h:Nat}{F:Nat->α->α}{s0:α}(C:jK S h F)(h0:S s0){s:α}(r:AY F h s0 s):S s:=by
 induction r with
 |zero=>exact h0
 |step r hi ih=>exact C.cl _ _ hi ih
structure iS(m h:Nat)(rows:List Row):Prop where
 tb:Tb m h rows
 vq:jK (· < m) h (dE rows)
 Cr:∀x,x < m->AY (dE rows) h 0 x
structure cp{α:Type}(F:Nat->α->α)(aK:List α)(s:α)(i:Nat)(r:Row):Prop where
 len:r.length=i
 at':∀j,j < i->∃k:Nat,r[j]?=some (k:Int)/\aK[k]?=some (F j s)
theorem cp.app {α:Type}{F:Nat->α->α}{aK ts:List α}{s:α}{i:Nat}{r:Row}(a:cp F aK s i r):cp F (aK++ts) s i r:=
 ⟨a.len,λ j hj=>by
  obtain⟨k,e,h⟩:=a.at' j hj;exact⟨k,e,by rw[c4 (c6.mp h).1];exact h⟩⟩
theorem cp.next {α:Type}{F:Nat->α->α}{aK:List α}{s:α}{i k:Nat}{r:Row}(a:cp F aK s i r)(hk:aK[k]?=some (F i s)):cp F aK s (i+1) (r++[(k:Int)]):=by
 refine⟨by simp[a.len],λ j hj=>?_⟩;by_cases g:j < i
 ·obtain⟨k,e,h⟩:=a.at' j g;exact⟨k,by rw[c4 (by rw[a.len];exact g)];exact e,h⟩
 ·have:j=i:=by omega
  subst this;refine⟨k,?_,hk⟩;rw[a9 (by rw[a.len];exact A6 _),a.len,Nat.sub_self];rfl
theorem cp.nil {α:Type}(F:Nat->α->α)(aK:List α)(s:α):cp F aK s 0 []:=⟨rfl,λ j hj=>absurd hj (by omega)⟩
structure nY{α:Type}(F:Nat->α->α)(s0:α)(h:Nat)(U aK:List α)(rows:List Row):Prop where
 nd:aK.Nodup
 Bq:aK[0]?=some s0
 Cr:∀s∈aK,AY F h s0 s
 sub:∀s∈aK,s∈U
 row:∀(d:Nat) (r:Row),rows[d]?=some r->∃s,aK[d]?=some s/\cp F aK s h r
section
variable {α:Type}{F:Nat->α->α}{s0:α}{h:Nat}{U aK:List α}{rows:List Row}
theorem nY.start (hU:s0∈U):nY F s0 h U [s0] []:=
 ⟨by simp,rfl,λ s hs=>by rw[l8.mp hs];exact .zero,λ s hs=>by rw[l8.mp hs];exact hU,λ d r e=>by cases e⟩
theorem nY.add (e:nY F s0 h U aK rows){d i:Nat}{s:α}(hd:aK[d]?=some s)(hi:i < h)(hU:F i s∈U)(hn:F i s∉aK):nY F s0 h U (aK++[F i s]) rows:=by
 refine⟨nodup_append.mpr ⟨e.nd,by simp,λ a ha b hb z=>hn (by rw[<- l8.mp hb,<- z];exact ha)⟩,?_,λ t ht=>?_,λ t ht=>?_,λ j r hj=>?_⟩
 ·rw[c4 (c6.mp e.Bq).1];exact e.Bq
 ·rcases w9.mp ht with z|z
  ·exact e.Cr t z
  ·rw[l8.mp z];exact .step (e.Cr s (j4 hd)) hi
 ·rcases w9.mp ht with z|z
  ·exact e.sub t z
  ·rw[l8.mp z];exact hU
 ·obtain⟨t,ht,hr⟩:=e.row j r hj;exact⟨t,by rw[c4 (c6.mp ht).1];exact ht,hr.app⟩
theorem nY.next (e:nY F s0 h U aK rows){s:α}{r:Row}(hd:aK[rows.length]?=some s)(hr:cp F aK s h r):nY F s0 h U aK (rows++[r]):=by
 refine⟨e.nd,e.Bq,e.Cr,e.sub,λ j q hj=>?_⟩;by_cases g:j < rows.length
 ·rw[c4 g]at hj;exact e.row j q hj
 ·have hl:=(c6.mp hj).1;rw[k9,j0]at hl;have:j=rows.length:=by omega
  subst this;rw[a9 (A6 _),Nat.sub_self]at hj;cases hj;exact⟨s,hd,hr⟩
theorem nY.dA (e:nY F s0 h U aK rows):aK.length<=U.length:=List.Nodup.length_le_of_subset e.nd e.sub
theorem zy{l:List α}(h:l.Nodup){i j:Nat}{x:α}(a:l[i]?=some x)(b:l[j]?=some x):i=j:=by obtain⟨hi,_⟩:=c6.mp a;exact(getElem?_inj hi h).mp (a.trans b.symm)
theorem nY.at (e:nY F s0 h U aK rows)(hl:rows.length=aK.length){d i:Nat}{s:α}(hd:aK[d]?=some s)(hi:i < h):aK[dE rows i d]?=some (F i s):=by have Oi:=(c6.mp hd).1;obtain⟨t,ht,hr⟩:=e.row d rows[d] (c9 (by omega));rw[hd]at ht;cases ht;obtain⟨k,e1,e2⟩:=hr.at' i hi;unfold dE;rw[c3 (l:=rows),c9 (l:=rows) (i:=d) (by omega)];show aK[((rows[d]).getD i 0).toNat]?=_;rw[c3,e1];exact e2
theorem nY.tb {S:α->Prop}(C:jK S h F)(h0:S s0)(e:nY F s0 h U aK rows)(hl:rows.length=aK.length)(hU:U.length<=300)(hh:h<=12):iS rows.length h rows:=by
 have h1:0 < aK.length:=(c6.mp e.Bq).1;have lt:∀{d i:Nat},d < rows.length->i < h->dE rows i d < rows.length:=λ{d i} hd hi=>by rw[hl];exact(c6.mp (e.at hl (c9 (show d < aK.length by omega)) hi)).1
 refine⟨⟨rfl,by omega,by have:=e.dA;omega,hh,λ r hr=>?_⟩,⟨λ x i hi hx=>lt hx hi,λ x i j hi hj hx=>?_⟩,λ x hx=>?_⟩
 ·obtain⟨d,hd⟩:=getElem?_of_mem hr;obtain⟨s,hs,z_⟩:=e.row d r hd;refine⟨z_.len,λ x hx=>?_⟩;obtain⟨j,hj⟩:=getElem?_of_mem hx;have Pz:=(c6.mp hj).1;obtain⟨k,e1,e2⟩:=z_.at' j (by rw[<- z_.len];exact Pz);rw[hj]at e1;cases e1;have:=(c6.mp e2).1;omega
 ·have hs:=c9 (show x < aK.length by omega);have ss:=(e.Cr _ (j4 hs)).ok C h0;refine zy e.nd (x:=F i (F j aK[x])) (e.at hl (e.at hl hs hj) hi) ?_;rw[C.cm _ i j hi hj ss];exact e.at hl (e.at hl hs hi) hj
 ·have hs:=c9 (show x < aK.length by omega);have key:∀s,AY F h s0 s->∃k,aK[k]?=some s/\AY (dE rows) h 0 k:=λ s r=>by
   induction r with
   |zero=>exact⟨0,e.Bq,.zero⟩
   |step r hi ih=>obtain⟨k,hk,hr⟩:=ih;exact⟨_,e.at hl hk hi,.step hr hi⟩
  obtain⟨k,hk,hr⟩:=key _ (e.Cr _ (j4 hs));rw[zy e.nd hs hk];exact hr
end
def IH(m h:Nat)(rows:List Row)(f:Nat->Cs):Prop:=∀x,x < m->hG (dE rows) 0 h (f x)/\df (dE rows) 0 0 (f x)=x
theorem iS.fst {m h:Nat}{rows:List Row}(T:iS m h rows):∃f,IH m h rows f:=by
 have:∀x:Nat,∃p:Cs,x < m->hG (dE rows) 0 h p/\df (dE rows) 0 0 p=x:=λ x=>by
  by_cases hx:x < m
  ·obtain⟨p,hp,e⟩:=(T.Cr x hx).sum T.vq T.tb.pos;obtain⟨q,fq,eq,_⟩:=hG.ex (dE rows) 0 h hp;exact⟨q,λ _=>⟨fq,by rw[eq,e]⟩⟩
  ·exact⟨[],λ g=>absurd g hx⟩
 exact⟨λ x=>Classical.choose (this x),λ x hx=>Classical.choose_spec (this x) hx⟩
theorem IH.dA {m h:Nat}{rows:List Row}{f:Nat->Cs}(T:iS m h rows)(hf:IH m h rows f){x:Nat}(hx:x < m):(f x).sum < m:=by
 have:=(hf x hx).1.dA T.vq (s0:=0) T.tb.pos (U:=List.range m) λ s hs=>mem_range.mpr hs
 rwa [n9]at this
abbrev nD(v:Nat):D:=.int (v:Int)
def dk(p:Cs):D:=.tup (p.map nD)
theorem DX(p:Cs):dk p=row (p.map λ v:Nat=>(v:Int)):=by unfold dk row;rw[List.map_map];rfl
end KK
namespace KK
open PySem L3 L4 L5
open L2 hiding aV ib
theorem jm{M M':Mem}{f c:Addr}(h:Ext M M')(F:Flow M f c):Fl f c M M':=by obtain⟨ns,p,b,sd,ct,h1,h2,h3⟩:=F;exact⟨⟨ns,p,b,sd,ct,h _ _ h1,h _ _ h2,h3⟩,λ b o _ e=>h b o e⟩
theorem Ext.rfl {M:Mem}:Ext M M:=λ _ _ e=>e
structure Enc{α:Type}(k:Nat)(enc:α->D):Prop where
 inj:∀a b,enc a=enc b->a=b
 pl:∀a,Pl k (enc a)
structure Sx{α:Type}(enc:α->D)(F:Nat->α->α)(s0:α)(h:Nat)(U:List α)(p q:Addr)(aK:List α)(rows:List Row)(M0 M:Mem):Prop where
 ext:Ext M0 M
 np:M0 p=none
 nq:M0 q=none
 pq:p≠q
 st:M p=some (.lst (aK.map enc))
 gN:M q=some (.lst (rows.map row))
 ex:nY F s0 h U aK rows
 le:rows.length<=aK.length
section
variable {α:Type}{enc:α->D}{F:Nat->α->α}{s0:α}{h:Nat}{U:List α}{p q r:Addr}{aK:List α}{rows:List Row}{M0 M:Mem}
theorem Sx.new (x:Sx enc F s0 h U p q aK rows M0 M)(hr:M r=none)(o:MO):Sx enc F s0 h U p q aK rows M0 (ah M r o):=
 ⟨x.ext.new hr o,x.np,x.nq,x.pq,by rw[av (bJ x.st hr)];exact x.st,by rw[av (bJ x.gN hr)];exact x.gN,x.ex,x.le⟩
theorem Sx.free (x:Sx enc F s0 h U p q aK rows M0 M)(hr:M r=none):M0 r=none/\p≠r/\q≠r:=⟨x.ext.free hr,bJ x.st hr,bJ x.gN hr⟩
theorem Sx.own (x:Sx enc F s0 h U p q aK rows M0 M)(hr:M0 r=none/\p≠r/\q≠r)(o:MO):Sx enc F s0 h U p q aK rows M0 (ah M r o):=
 ⟨x.ext.own hr.1,x.np,x.nq,x.pq,by rw[av hr.2.1];exact x.st,by rw[av hr.2.2];exact x.gN,x.ex,x.le⟩
theorem Sx.add (x:Sx enc F s0 h U p q aK rows M0 M){d i:Nat}{s:α}(hd:aK[d]?=some s)(hi:i < h)(hU:F i s∈U)(hn:F i s∉aK):Sx enc F s0 h U p q (aK++[F i s]) rows M0 (ah M p (.lst (aK.map enc++[enc (F i s)]))):=
 ⟨x.ext.own x.np,x.np,x.nq,x.pq,by rw[af,x3];rfl,by rw[av (B7 x.pq)];exact x.gN,x.ex.add hd hi hU hn,by rw[k9];have:=x.le;omega⟩
theorem Sx.next (x:Sx enc F s0 h U p q aK rows M0 M){s:α}{r:Row}(hd:aK[rows.length]?=some s)(hr:cp F aK s h r):Sx enc F s0 h U p q aK (rows++[r]) M0 (ah M q (.lst (rows.map row++[row r]))):=
 ⟨x.ext.own x.nq,x.np,x.nq,x.pq,by rw[av x.pq];exact x.st,by rw[af,x3];rfl,x.ex.next hd hr,by
  have:=(c6.mp hd).1;rw[k9,j0];omega⟩
theorem Sx.dA (x:Sx enc F s0 h U p q aK rows M0 M):aK.length<=U.length/\rows.length<=U.length:=by have:=x.ex.dA;have:=x.le;omega
end
theorem oV{α:Type}[DecidableEq α]{xs:List α}{a:α}(h:a∈xs):xs[xs.idxOf a]?=some a:=by rw[c9 (idxOf_lt_length_of_mem h),getElem_idxOf]
def cnt(v lo w:Nat):Nat:=if v < lo+w then v else lo+(v - lo) % w
theorem AJ{v lo w:Nat}(h:0 < w):cnt v lo w < lo+w:=by
 unfold cnt;split
 ·omega
 ·have:=Nat.mod_lt (v - lo) h;omega
theorem vy{v a lo w:Nat}(h:0 < w):cnt (cnt v lo w+a) lo w=cnt (v+a) lo w:=by
 unfold cnt;by_cases g:v < lo+w
 ·rw[B8 g]
 ·rw[B9 g];have hm:=Nat.mod_lt (v - lo) h;have e2:((v - lo) % w+a) % w=(v+a - lo) % w:=by rw[Nat.mod_add_mod];congr 1;omega
  by_cases g2:lo+(v - lo) % w+a < lo+w
  ·rw[B8 g2,B9 (by omega),<- e2,Nat.mod_eq_of_lt (show(v - lo) % w+a < w by omega)];omega
  ·rw[B9 g2,B9 (by omega),<- e2,show lo+(v - lo) % w+a - lo=(v - lo) % w+a by omega]
theorem vw{v a b lo w:Nat}(h:0 < w):cnt (cnt (v+a) lo w+b) lo w=cnt (cnt (v+b) lo w+a) lo w:=by rw[vy h,vy h,show v+a+b=v+b+a by omega]
def gG(m:Nat)(ls:Row):Prop:=ls.Pairwise (· < ·)/\∀x∈ls,0<=x/\x < (m:Int)
theorem gG.nil (m:Nat):gG m []:=⟨.nil,λ x h=>by cases h⟩
theorem gG.up {m:Nat}{ls:Row}(h:gG m ls):gG (m+1) ls:=⟨h.1,λ x hx=>by have:=h.2 x hx;omega⟩
theorem gG.add {m:Nat}{ls:Row}(h:gG m ls):gG (m+1) (ls++[(m:Int)]):=by
 refine⟨pairwise_append.mpr ⟨h.1,by simp,λ x hx y hy=>?_⟩,λ x hx=>?_⟩
 ·rw[l8.mp hy];exact(h.2 x hx).2
 ·rcases w9.mp hx with z|z
  ·have:=h.2 x z;omega
  ·rw[l8.mp z];omega
theorem gG.dA {m:Nat}:∀{ls:Row},gG m ls->ls.length<=m:=λ{ls} h=>by
 have nd:(ls.map Int.toNat).Nodup:=by unfold List.Nodup;rw[pairwise_map];refine List.Pairwise.imp_of_mem (λ{a b} ha hb Mo=>?_) h.1;have:=h.2 a ha;have:=h.2 b hb;omega
 have:=List.Nodup.length_le_of_subset nd (l₂:=List.range m) λ x hx=>by obtain⟨y,hy,rfl⟩:=A1.mp hx;have:=h.2 y hy;exact mem_range.mpr (by omega)
 rwa [w6,n9]at this
end KK
namespace KK
open PySem L3 L4 L5
open L2 hiding aV ib
theorem j'{α:Type}[DecidableEq α]{k:Nat}{enc:α->D}{F:Nat->α->α}{s0:α}{h:Nat}{U:List α}{p q pw:Addr}{aK:List α}{rows:List Row}{M0 M:Mem}{r:Row}{s:α}{i jt js jr:Nat}{δ:cI}{E:gL} (en:Enc k enc) (hk:k<=60) (X:Sx enc F s0 h U p q aK rows M0 M) (hb:U.length<=300) (hh:h<=12) (fw:M0 pw=none/\p≠pw/\q≠pw) (hw:M pw=some (.lst (r.map D.int))) (hr:cp F aK s i r) (hd:aK[rows.length]?=some s) (hi:i < h) (hU:F i s∈U) (et:δ[jt]?=some (some (enc (F i s)))) (es:δ[js]?=some (some (.ref p))) (er:δ[jr]?=some (some (.ref pw))) (kk:∀(eT:List α) (r':Row) (M':Mem),Sx enc F s0 h U p q eT rows M0 M'->M' pw=some (.lst (r'.map D.int))->cp F eT s (i+1) r'->eT[rows.length]?=some s->E.nx δ M'):yg (BN (nk (yi kr (gM jt) (gM js))) (qp (IQ "list" kx (gM js) (nu (gM jt) wc))) uo) (qp (IQ "list" kx (gM jr) (nu (IQ "list" tG (gM js) (nu (gM jt) wc)) wc))) E δ M:=by
 have vt:∀{M:Mem} {Q:bD},Q (enc (F i s)) M->gM jt δ M Q:=λ q=>lD et q;have vs:∀{M:Mem} {Q:bD},Q (.ref p) M->gM js δ M Q:=λ q=>lD es q;have vr:∀{M:Mem} {Q:bD},Q (.ref pw) M->gM jr δ M Q:=λ q=>lD er q;refine gO (λ δ' M'=>δ'=δ/\∃eT,Sx enc F s0 h U p q eT rows M0 M'/\M' pw=some (.lst (r.map D.int))/\cp F eT s i r/\eT[rows.length]?=some s/\F i s∈eT) (λ N hN=>?_) ?_
 ·refine yC (uq (El (vt (vs ?_))));refine sv (k:=k) (b:=decide (F i s∈aK)) (ds:=aK.map enc) (dq X.st) (en.pl _) (oD λ x _=>en.pl x) hk (by rw[decide_eq_true_iff];exact(uG en.inj _).symm) ?_;refine uw (λ hn=>?_) (λ hn=>?_)
  ·have hn:F i s∉aK:=by simpa using hn
   refine oC (ux (vs ⟨⟨rfl,_,X.st⟩,ke (vt (iZ ?_))⟩));refine fL X.st (by rw[w6];have:=X.dA;exact l6 (show aK.length<=300 by omega) (by decide)) ?_;exact hN _ _ ⟨rfl,aK++[F i s],X.add hd hi hU hn,by rw[av (B7 fw.2.1)];exact hw,hr.app,by rw[c4 (c6.mp hd).1];exact hd,by simp⟩
  ·have hn:F i s∈aK:=by simpa using hn
   exact hN _ _ ⟨rfl,aK,X,hw,hr,hd,hn⟩
 ·rintro δ' M' ⟨rfl,eT,X,hw,hr,hd,hm⟩;refine oC (ux (vr ⟨⟨rfl,_,hw⟩,ke (ux (vs ⟨⟨rfl,_,X.st⟩,ke (vt (iZ ?_))⟩))⟩));refine lF enc en.inj X.st hm en.pl hk ?_;refine iZ (fL hw (by rw[w6,hr.len];exact l6 (show i<=300 by omega) (by decide)) ?_);exact kk eT (r++[((eT.idxOf (F i s):Nat):Int)]) _ (X.own fw _) (by rw[af,x3];rfl) (hr.next (oV hm)) hd
end KK
namespace KK
open PySem L3 L4 L5
open L2 hiding aV ib
theorem dh:Enc 0 nD:=⟨λ a b z=>Int.ofNat.inj (D.int.inj z),λ a=>gP 0 _⟩
theorem DP:Enc 1 dk:=by refine⟨λ a b z=>?_,λ a=>yT λ e he=>by obtain⟨x,_,rfl⟩:=A1.mp he;exact gP 0 _⟩;have:=D.tup.inj z;exact List.map_inj_right (f:=nD) (λ a b z=>dh.inj a b z) |>.mp this
def pD(p:Nat×Nat):D:=.tup [.int (p.1:Int),.int (p.2:Int)]
theorem Ax:Enc 1 pD:=by
 refine⟨λ a b z=>?_,λ a=>yT λ e he=>?_⟩
 ·have:=D.tup.inj z;injection this with h1 h2
  injection h2 with h2 _
  exact Prod.ext (dh.inj _ _ h1) (dh.inj _ _ h2)
 ·rcases y8.mp he with rfl|he
  ·exact gP 0 _
  ·rw[l8.mp he];exact gP 0 _
def stC:List (Nat×Nat)->Cs->Cs->Cs
 |(lo,w)::cs,a::ws,v::s=>cnt (v+a) lo w::stC cs ws s
 |_,_,_=>[]
def pG:List (Nat×Nat)->List Cs
 |[]=>[[]]
 |(lo,w)::cs=>(List.range (lo+w)).flatMap λ x=>(pG cs).map (x::·)
theorem ub:∀{cs:List (Nat×Nat)} {ws s:Cs},ws.length=cs.length->s.length=cs.length->(stC cs ws s).length=cs.length
 |[],[],[],_,_=>rfl
 |(lo,w)::cs,a::ws,v::s,h,g=>by show(stC cs ws s).length+1=_;rw[ub (cs:=cs) (by simpa using h) (by simpa using g)];rfl
theorem uc:∀{cs:List (Nat×Nat)} {ws us s:Cs},(∀c∈cs,0 < c.2)->ws.length=cs.length->us.length=cs.length->s.length=cs.length->stC cs ws (stC cs us s)=stC cs us (stC cs ws s)
 |[],_,_,_,_,_,_,_=>rfl
 |(lo,w)::cs,a::ws,b::us,v::s,hc,h1,h2,h3=>by show cnt (cnt (v+b) lo w+a) lo w::stC cs ws (stC cs us s)=cnt (cnt (v+a) lo w+b) lo w::stC cs us (stC cs ws s);rw[vw (hc (lo,w) (by simp)),uc (λ c hh=>hc c (by simp[hh])) (by simpa using h1) (by simpa using h2) (by simpa using h3)]
theorem ud:∀{cs:List (Nat×Nat)} {ws s:Cs},(∀c∈cs,0 < c.2)->ws.length=cs.length->s.length=cs.length->stC cs ws s∈pG cs
 |[],[],[],_,_,_=>by simp[stC,pG]
 |(lo,w)::cs,a::ws,v::s,hc,h1,h2=>by show cnt (v+a) lo w::stC cs ws s∈(List.range (lo+w)).flatMap λ x=>(pG cs).map (x::·);rw[mem_flatMap];exact⟨_,mem_range.mpr (AJ (hc (lo,w) (by simp))),A1.mpr ⟨_,ud (λ c hh=>hc c (by simp[hh])) (by simpa using h1) (by simpa using h2),rfl⟩⟩
theorem tT:∀{cs:List (Nat×Nat)},(∀c∈cs,0 < c.2)->fA cs.length∈pG cs
 |[],_=>by simp[fA,pG]
 |(lo,w)::cs,hc=>by show 0::fA cs.length∈(List.range (lo+w)).flatMap λ x=>(pG cs).map (x::·);rw[mem_flatMap];have:=hc (lo,w) (by simp);exact⟨0,mem_range.mpr (by show 0 < lo+w;have:0 < w:=this;omega),A1.mpr ⟨_,tT λ c hh=>hc c (by simp[hh]),rfl⟩⟩
theorem pF(cs:List (Nat×Nat))(lo w:Nat):(pG ((lo,w)::cs)).length=(lo+w)*(pG cs).length:=by show((List.range (lo+w)).flatMap λ x=>(pG cs).map (x::·)).length=_;rw[length_flatMap];simp only[w6];rw[map_const',n9,sum_replicate_nat]
abbrev OS:=Nat×Nat×Nat×Nat
def rZ:List (Nat×Nat)->Cs->Cs->List OS
 |c::cs,a::ws,v::s=>(v,a,c)::rZ cs ws s
 |_,_,_=>[]
def xP(t:OS):D:=.tup [.int (t.1:Int),.int (t.2.1:Int),pD t.2.2]
theorem tY:∀{cs:List (Nat×Nat)} {ws s:Cs},ws.length=cs.length->s.length=cs.length->pX (s.map nD) (ws.map nD) (cs.map pD)=(rZ cs ws s).map xP/\stC cs ws s=(rZ cs ws s).map λ t=>cnt (t.1+t.2.1) t.2.2.1 t.2.2.2
 |[],[],[],_,_=>⟨rfl,rfl⟩
 |c::cs,a::ws,v::s,h,g=>by
  have ih:=tY (cs:=cs) (ws:=ws) (s:=s) (by simpa using h) (by simpa using g);refine⟨?_,?_⟩
  ·show xP (v,a,c)::pX (s.map nD) (ws.map nD) (cs.map pD)=xP (v,a,c)::(rZ cs ws s).map xP;rw[ih.1]
  ·show cnt (v+a) c.1 c.2::stC cs ws s=cnt (v+a) c.1 c.2::(rZ cs ws s).map _;rw[ih.2]
theorem tZ:∀{cs:List (Nat×Nat)} {ws s:Cs} {t:OS},t∈rZ cs ws s->t.2.2∈cs
 |c::cs,a::ws,v::s,t,h=>by
  rcases y8.mp (show t∈(v,a,c)::rZ cs ws s from h)with e|e
  ·rw[e];simp
  ·exact j3 _ (tZ e)
 |[],_,_,_,h=>by cases h
 |_::_,[],_,_,h=>by cases h
 |_::_,_::_,[],_,h=>by cases h
theorem t_:∀{cs:List (Nat×Nat)} {ws s:Cs},(rZ cs ws s).length<=cs.length
 |c::cs,a::ws,v::s=>by show(rZ cs ws s).length+1<=cs.length+1;exact Nat.succ_le_succ t_
 |[],_,_=>A6 _
 |_::_,[],_=>A8 _
 |_::_,_::_,[]=>A8 _
def jI(cs:List (Nat×Nat)):Prop:=(∃lo w,cs=[(lo,w)]/\lo<=3/\1<=w/\w<=4)\/∃lo w IT w',cs=[(lo,w),(IT,w')]/\lo<=2/\1<=w/\w<=2/\IT<=2/\1<=w'/\w'<=2
theorem jI.pos {cs:List (Nat×Nat)}(h:jI cs):∀c∈cs,0 < c.2:=by
 rcases h with⟨lo,w,rfl,_,h,_⟩|⟨lo,w,IT,w',rfl,_,h,_,_,h',_⟩
 ·intro c hc;rw[l8.mp hc];exact h
 ·intro c hc;rcases y8.mp hc with rfl|hc
  ·exact h
  ·rw[l8.mp hc];exact h'
theorem jI.box {cs:List (Nat×Nat)}(h:jI cs):(pG cs).length<=16/\1<=cs.length/\cs.length<=2:=by
 rcases h with⟨lo,w,rfl,h1,h2,h3⟩|⟨lo,w,IT,w',rfl,h1,h2,h3,h4,h5,h6⟩
 ·rw[pF];show(lo+w)*1<=16/\1<=1/\1<=2;omega
 ·rw[pF,pF];show(lo+w)*((IT+w')*1)<=16/\1<=2/\2<=2;refine⟨A2 (Nat.mul_le_mul (show lo+w<=4 by omega) (show(IT+w')*1<=4 by omega)) (by decide),by omega,by omega⟩
theorem jI.vq {cs:List (Nat×Nat)}(h:jI cs){ws:List Cs}(hw:∀w∈ws,w.length=cs.length):jK (λ s:Cs=>s.length=cs.length) ws.length (λ i s=>stC cs (ws.getD i []) s):=by
 have hl:∀{i},i < ws.length->(ws.getD i []).length=cs.length:=λ{i} hi=>by rw[c3,c9 hi];exact hw _ (p8 hi)
 exact⟨λ s i hi hs=>ub (hl hi) hs,λ s i j hi hj hs=>uc h.pos (hl hi) (hl hj) hs⟩
def stN(L:Nat)(sz:Cs)(i:Nat)(s:Nat×Nat):Nat×Nat:=(s.1^^^sz.getD i 0,max s.2 (if 1 < sz.getD i 0 then 1 else 0)*L)
def AR:List (Nat×Nat):=(List.range 8).flatMap λ a=>(List.range 2).map λ b=>(a,b)
theorem uI{s:Nat×Nat}:s∈AR↔s.1 < 8/\s.2 < 2:=by
 unfold AR;rw[mem_flatMap];constructor
 ·rintro⟨a,ha,h⟩;obtain⟨b,hb,rfl⟩:=A1.mp h;exact⟨mem_range.mp ha,mem_range.mp hb⟩
 ·rintro⟨h1,h2⟩;exact⟨s.1,mem_range.mpr h1,A1.mpr ⟨s.2,mem_range.mpr h2,rfl⟩⟩
theorem BG{L h:Nat}{sz:Cs}(hL:L<=1)(hs:∀x∈sz,x < 5):jK (λ s=>s∈AR) h (stN L sz):=by
 have hz:∀i,sz.getD i 0 < 5:=λ i=>by
  rw[c3];cases e:sz[i]? with
  |none=>decide
  |some v=>exact hs v (j4 e)
 refine⟨λ s i _ hs=>?_,λ s i j _ _ _=>?_⟩
 ·rw[uI]at hs ⊢;refine⟨Nat.xor_lt_two_pow (n:=3) hs.1 (by have:=hz i;show sz.getD i 0 < 8;omega),?_⟩;show max s.2 (if 1 < sz.getD i 0 then 1 else 0)*L < 2;have:max s.2 (if 1 < sz.getD i 0 then 1 else 0)<=1:=by refine Nat.max_le.mpr ⟨by omega,?_⟩;split <;> omega
  exact l6 (Nat.mul_le_mul this hL) (by decide)
 ·unfold stN;dsimp only;refine Prod.ext ?_ ?_
  ·show s.1^^^_^^^_=s.1^^^_^^^_;rw[Nat.xor_assoc,Nat.xor_assoc,Nat.xor_comm (sz.getD j 0)]
  ·show max (max s.2 _*L) _*L=max (max s.2 _*L) _*L;rcases Nat.le_one_iff_eq_zero_or_eq_one.mp hL with e|e
   ·subst e;simp
   ·subst e;simp only[Nat.mul_one];rw[Nat.max_assoc,Nat.max_assoc,Nat.max_comm (if 1 < sz.getD j 0 then 1 else 0)]
def IM(rows:List Row)(w:Nat)(ws:Cs)(i:Nat)(s:Nat×Nat):Nat×Nat:=(dE rows i s.1,(s.2+ws.getD i 0) % w)
def xm(m w:Nat):List (Nat×Nat):=(List.range m).flatMap λ a=>(List.range w).map λ b=>(a,b)
theorem kj{m w:Nat}{s:Nat×Nat}:s∈xm m w↔s.1 < m/\s.2 < w:=by
 unfold xm;rw[mem_flatMap];constructor
 ·rintro⟨a,ha,h⟩;obtain⟨b,hb,rfl⟩:=A1.mp h;exact⟨mem_range.mp ha,mem_range.mp hb⟩
 ·rintro⟨h1,h2⟩;exact⟨s.1,mem_range.mpr h1,A1.mpr ⟨s.2,mem_range.mpr h2,rfl⟩⟩
theorem D5(m w:Nat):(xm m w).length=m*w:=by unfold xm;rw[length_flatMap];simp only[w6,n9];rw[map_const',n9,sum_replicate_nat]
theorem BH{m h w:Nat}{rows:List Row}{ws:Cs}(T:iS m h rows)(hw:0 < w):jK (λ s=>s∈xm m w) h (IM rows w ws):=by
 refine⟨λ s i hi hs=>?_,λ s i j hi hj hs=>?_⟩
 ·rw[kj]at hs ⊢;exact⟨T.vq.cl _ _ hi hs.1,Nat.mod_lt _ hw⟩
 ·rw[kj]at hs;refine Prod.ext (T.vq.cm _ _ _ hi hj hs.1) ?_;show((s.2+ws.getD j 0) % w+ws.getD i 0) % w=((s.2+ws.getD i 0) % w+ws.getD j 0) % w;rw[Nat.mod_add_mod,Nat.mod_add_mod,Nat.add_right_comm]
theorem r_{m h:Nat}{rows:List Row}(T:Tb m h rows){x i:Nat}(hx:x < m)(hi:i < h):gE (rows.map row) (x:Int)=some (row (rows.getD x []))/\gE ((rows.getD x []).map D.int) (i:Int)=some (.int (dE rows i x)):=by
 have sT:x < rows.length:=by rw[T.len];exact hx
 have a:=T.at hx hi;refine⟨bY (by rw[m8,c9 sT,c3,c9 sT];rfl),?_⟩;rw[AU (by rw[a.1];exact hi),a.2.1]
theorem JH{m h:Nat}{rows nv:List Row}{ord:List Nat}(T:iS m h rows)(hp:ord.Perm (List.range m))(h0:ord[0]?=some 0)(hl:nv.length=m)(hr:∀(d:Nat) (r:Row),nv[d]?=some r->∃x,ord[d]?=some x/\cp (dE rows) ord x h r):iS m h nv:=by
 have e:nY (dE rows) 0 h (List.range m) ord nv:=⟨hp.nodup_iff.mpr nodup_range,h0,λ s hs=>T.Cr s (mem_range.mp (hp.mem_iff.mp hs)),λ s hs=>hp.mem_iff.mp hs,hr⟩;have ol:ord.length=m:=by rw[hp.length_eq,n9]
 have:=e.tb T.vq T.tb.pos (by rw[hl,ol]) (by rw[n9];exact T.tb.dA) T.tb.DM
 rwa [hl]at this
theorem yy{p:Addr}{ds:List D}{M:Mem}{Q:bD}(h:M p=some (.lst ds))(q:∀p,M p=none->Q (.ref p) (ah M p (.lst ds))):dList [.ref p] M Q:=by show(match cq M (.ref p)with|some ds=>∀p,M p=none->Q (.ref p) (ah M p (.lst ds))|none=>False);rw[dq h];exact q
theorem Hl{m:Nat}{xs:Row}(h:xs.Pairwise (·<=·))(nd:xs.Nodup)(hb:∀x∈xs,0<=x/\x < (m:Int)):gG m xs:=by refine⟨?_,hb⟩;have:=List.Pairwise.and h nd;exact this.imp λ{a b} z=>by have:=z.1;have:=z.2;omega
theorem zg{m:Nat}(hm:0 < m){ns:List Nat}(h:ns.Perm ((List.range (m - 1)).map (·+1))):(0::ns).Perm (List.range m):=by obtain⟨k,rfl⟩:∃k,m=k+1:=⟨m - 1,by omega⟩;rw[range_succ_eq_map];exact h.cons 0
def dC(ord:List Nat)(r:Row):Row:=r.map λ y=>(ord.idxOf y.toNat:Int)
theorem BO{m h:Nat}{rows:List Row}{ord:List Nat}(G:iS m h rows)(hp:ord.Perm (List.range m)){x:Nat}(hx:x < m):cp (dE rows) ord x h (dC ord (rows.getD x [])):=by
 have sT:x < rows.length:=by rw[G.tb.len];exact hx
 have e:(rows.getD x []).length=h:=by rw[c3,c9 sT];exact(G.tb.row _ (p8 sT)).1
 refine⟨by unfold dC;rw[w6];exact e,λ j hj=>⟨ord.idxOf (dE rows j x),?_,oV (hp.mem_iff.mpr (mem_range.mpr (G.vq.cl _ _ hj hx)))⟩⟩;unfold dC dE;rw[m8,c9 (by omega),c3 (l:=rows.getD x []),c9 (by omega)];rfl
theorem yp{m:Nat}{ls xs:Row}{ord:List Nat}(hp:ord.Perm (List.range m))(L:gG m ls)(h:xs.Perm (dC ord ls))(hs:xs.Pairwise (·<=·)):gG m xs:=by
 have NZ:ord.length=m:=by rw[hp.length_eq,n9]
 have rN:∀y∈ls,y.toNat∈ord:=λ y hy=>hp.mem_iff.mpr (mem_range.mpr (by have:=L.2 y hy;omega));refine Hl hs (h.nodup_iff.mpr ?_) λ x hx=>?_
 ·unfold dC List.Nodup;rw[pairwise_map];refine List.Pairwise.imp_of_mem (λ{a b} ha hb Mo=>?_) L.1;intro e;have e:ord.idxOf a.toNat=ord.idxOf b.toNat:=by omega
  have h1:=oV (rN a ha);rw[e,oV (rN b hb)]at h1;have:=u6 h1;have:=L.2 a ha;have:=L.2 b hb;omega
 ·obtain⟨y,hy,rfl⟩:=A1.mp (h.mem_iff.mp hx);have:=idxOf_lt_length_of_mem (rN y hy);omega
theorem Hi{ns:List Nat}{b:Bool}(h:b=true↔ns=[]):b=true↔ns.map nD=[]:=by rw[h,map_eq_nil_iff]
theorem uJ{α β:Type}(f:α->β):∀(l:List α) (j:Nat),(l.map f).eraseIdx j=(l.eraseIdx j).map f
 |[],_=>rfl
 |a::l,0=>rfl
 |a::l,j+1=>by show f a::(l.map f).eraseIdx j=f a::(l.eraseIdx j).map f;rw[uJ f l j]
theorem qC{α:Type}:∀{l:List α} {j:Nat} (h:j < l.length),([l[j]]++l.eraseIdx j).Perm l
 |a::l,0,_=>.refl _
 |a::l,j+1,h=>by have:=qC (l:=l) (j:=j) (by simpa using h);show(l[j]'(by simpa using h)::a::l.eraseIdx j).Perm (a::l);exact(List.Perm.swap _ _ _).trans (this.cons a)
theorem tJ{α:Type}{g:gB}{te:bT}{δc:cI}{M1:Mem}{Qe:List D->Mem->Prop}{a:Addr}{xs:List α}(enc out:α->D)(hn:xs.length<=sizeLine)(hl:M1 a=some (.lst (xs.map enc))) (hs:∀(i:Nat) (x:α) (N:D->Mem->Prop),xs[i]?=some x->N (out x) M1->g (enc x) δc M1 λ δ2 M2=>te δ2 M2 N) (hd:Qe (xs.map out) M1):∃(B:Nat) (W:Nat->List D->Mem->Prop),W 0 [] M1/\∀i acc M,W i acc M->i<=B/\acc.length<=sizeLine/\match items (.at a) M with
   |none=>False
   |some ds=>match ds[i]? with
    |none=>i=ds.length/\Qe acc M
    |some d=>g d δc M λ δ2 M2=>qo δ2 M2 λ b M3=>if b=true then te δ2 M3 λ y M4=>W (i+1) (acc++[y]) M4 else W (i+1) acc M3:=by
 refine EM (ds:=xs.map enc) (λ i acc M=>M=M1/\acc=(xs.take i).map out) ⟨rfl,rfl⟩ (λ i acc M _ h=>by rw[h.1];exact hl) (λ i acc M _ h=>?_) (λ i d acc M hd2 h=>?_) (λ acc M h=>?_)
 ·rw[h.2,w6,length_take];exact A2 (Nat.min_le_right _ _) hn
 ·obtain⟨rfl,rfl⟩:=h;rw[m8]at hd2;obtain⟨x,hx,rfl⟩:=Option.map_eq_some_iff.mp hd2;exact hs i x (λ y M4=>M4=M/\_) hx ⟨rfl,by rw[take_one hx,x3];rfl⟩
 ·obtain⟨rfl,rfl⟩:=h;rw[w6,take_length];exact hd
theorem Ij{t i:Nat}(h:i < t+1):(rO t)[i]?=some (t - i):=by unfold rO;rw[m8,getElem?_range h];rfl
theorem DQ(t:Nat):(rO t).length=t+1:=by simp[rO]
def eX(q t i:Nat):List Cs:=((rO t).take i).flatMap λ n=>(bj q (t - n)).map (n::·)
theorem gh(q t:Nat):eX q t (t+1)=bj (q+1) t:=by unfold eX;rw[take_of_length_le (by rw[DQ];exact A6 _)];rfl
theorem lg{q t i:Nat}(h:i < t+1):eX q t (i+1)=eX q t i++(bj q (t - (t - i))).map ((t - i)::·):=by unfold eX;rw[take_one (Ij h),flatMap_append,flatMap_singleton]
theorem m_{q t i:Nat}(hq:q<=5)(ht:t<=19)(h:i<=t+1):(eX q t i).length<=sizeLine:=by
 have h1:(eX q t i).length<=(eX q t (t+1)).length:=by
  rw[gh];unfold eX;show _<=((rO t).flatMap λ n=>(bj q (t - n)).map (n::·)).length;generalize(λ n=>(bj q (t - n)).map (n::·))=f;have e:(rO t).flatMap f=((rO t).take i).flatMap f++((rO t).drop i).flatMap f:=by rw[<- flatMap_append,take_append_drop]
  rw[e,k9];omega
 rw[gh]at h1;have:=ng (B:=20) (k:=q) (T:=t) (by omega);have h3:20^q<=20^5:=Nat.pow_le_pow_right (by decide) hq;exact A2 h1 (A2 this (A2 h3 (by decide)))
theorem sf{q t:Nat}(hq:q<=6)(ht:t<=19):(bj q t).length<=sizeLine:=by
 cases q with
 |zero=>unfold bj;split <;> decide
 |succ q=>rw[<- gh];exact m_ (by omega) ht (A6 _)
end KK
namespace KK
open PySem L3 L4 L5
open L2 hiding aV ib
def jE{α:Type}(enc:α->D)(kvs:List (α×D)):List (D×D):=kvs.map λ p=>(enc p.1,p.2)
section
variable {α:Type}[DecidableEq α]{enc:α->D}
theorem lK(inj:∀a b,enc a=enc b->a=b)(x:α):∀kvs:List (α×D),cO (jE enc kvs) (enc x)=(kvs.find? λ p=>decide (p.1=x)).map (·.2)
 |[]=>rfl
 |p::kvs=>by
  have ih:=lK inj x kvs;unfold cO jE at ih ⊢;rw[y7,r6,r6];by_cases z:p.1=x
  ·rw[x8 z,x8 (by rw[z])];rfl
  ·rw[r9 z,r9 (λ h=>z (inj _ _ h))];exact ih
theorem jc(inj:∀a b,enc a=enc b->a=b){kvs:List (α×D)}{x:α}(h:x∉kvs.map (·.1)):cO (jE enc kvs) (enc x)=none:=by
 rw[lK inj,find?_eq_none.mpr]
 ·rfl
 ·intro p hp;rw[decide_eq_true_iff];exact λ e=>h (A1.mpr ⟨p,hp,e⟩)
theorem jb(inj:∀a b,enc a=enc b->a=b){kvs:List (α×D)}{x:α}{d:D}(nd:(kvs.map (·.1)).Nodup)(h:(x,d)∈kvs):cO (jE enc kvs) (enc x)=some d:=by
 rw[lK inj];cases e:kvs.find? λ p=>decide (p.1=x)with
 |none=>have:=find?_eq_none.mp e _ h;simp at this
 |some q=>
  have h1:=find?_some e;have h2:=mem_of_find?_eq_some e;rw[decide_eq_true_iff]at h1;obtain⟨i,hi⟩:=getElem?_of_mem h;obtain⟨j,hj⟩:=getElem?_of_mem h2;have e1:(kvs.map (·.1))[i]?=some x:=by rw[m8,hi];rfl
  have e2:(kvs.map (·.1))[j]?=some x:=by rw[m8,hj,<- h1];rfl
  have:=zy nd e1 e2;subst this;rw[hi]at hj;cases hj;rfl
theorem uD(inj:∀a b,enc a=enc b->a=b){kvs:List (α×D)}{x:α}(v:D)(h:x∉kvs.map (·.1)):putD (jE enc kvs) (enc x) v=jE enc (kvs++[(x,v)]):=by unfold putD;rw[jc inj h,B9 (by simp)];unfold jE;rw[x3];rfl
end
theorem sP(x:Nat):fe false (nD x):=⟨.inl x,rfl⟩
theorem zF:∀{p:Cs} {c:Nat},c∈p->c<=p.sum
 |a::p,c,h=>by
  show c<=a+p.sum;rcases y8.mp h with rfl|h
  ·omega
  ·have:=zF h;omega
theorem qU{α:Type}(F:Nat->α->α):∀(cs:Cs) (i:Nat) (s:α) (c:Nat),df F i s (cs++[c])=iQ (F (i+cs.length)) c (df F i s cs)
 |[],i,s,c=>rfl
 |d::cs,i,s,c=>by show df F (i+1) _ (cs++[c])=_;rw[qU F cs (i+1),p5,show i+1+cs.length=i+(cs.length+1) by omega];rfl
structure pO(rows:List Row)(m h:Nat)(L:List Cs)(es:List (Nat×Cs)):Prop where
 ent:∀e∈es,hG (dE rows) 0 h e.2/\df (dE rows) 0 0 e.2=e.1/\e.1 < m
 nd:(es.map (·.1)).Nodup
 all:∀p∈L,df (dE rows) 0 0 p∈es.map (·.1)
theorem pO.nil (rows:List Row)(m h:Nat):pO rows m h (mM h 0) []:=⟨λ e h=>(by cases h),.nil,λ p hp=>(by have:=(dW.mp hp).2;omega)⟩
theorem pO.dA {rows:List Row}{m h:Nat}{L:List Cs}{es:List (Nat×Cs)}(f:pO rows m h L es):es.length<=m:=by
 have:=List.Nodup.length_le_of_subset f.nd (l₂:=List.range m) λ x hx=>by obtain⟨e,he,rfl⟩:=A1.mp hx;exact mem_range.mpr (f.ent e he).2.2
 rwa [w6,n9]at this
def fX(h T i:Nat):List Cs:=mM h T++(bj h T).take i
theorem nJ{h T i:Nat}{p:Cs}(hp:(bj h T)[i]?=some p):fX h T (i+1)=fX h T i++[p]:=by unfold fX;rw[take_one hp,append_assoc]
theorem Am(h T:Nat):fX h T (bj h T).length=fX h (T+1) 0:=by unfold fX;rw[take_length,take_zero,q9,xp]
theorem Al{h T i:Nat}{p q:Cs}(hp:(bj h T)[i]?=some p)(hq:q.length=h)(ha:Ah q p):q∈fX h T i:=by
 have Ab:=bH.mp (j4 hp);unfold fX;rw[w9];by_cases hs:q.sum < T
 ·exact .inl (dW.mpr ⟨hq,hs⟩)
 ·have Ru:q.sum=T:=by rcases ha with z|z <;> omega
  obtain⟨j,hj⟩:=getElem?_of_mem (bH.mpr ⟨hq,Ru⟩:q∈bj h T);have hl:rL q p:=by
   rcases ha with z|z
   ·omega
   ·exact z.2
  refine .inr ?_;by_cases RK:j < i
  ·exact j4 (i:=j) (by rw[getElem?_take_of_lt RK];exact hj)
  ·exfalso;obtain⟨h1,e1⟩:=c6.mp hp;obtain⟨h2,e2⟩:=c6.mp hj;by_cases he:j=i
   ·subst he;rw[hp]at hj;cases hj;exact gr _ hl
   ·have:=pairwise_iff_getElem.mp (ij h T) i j h1 h2 (by omega);rw[e1,e2]at this;exact gr _ (je this hl)
theorem pO.old {rows:List Row}{m h T i:Nat}{es:List (Nat×Cs)}(f:pO rows m h (fX h T i) es){p:Cs}(hp:(bj h T)[i]?=some p)(hk:df (dE rows) 0 0 p∈es.map (·.1)):pO rows m h (fX h T (i+1)) es:=
 ⟨f.ent,f.nd,λ q hq=>by
  rw[nJ hp]at hq;rcases w9.mp hq with z|z
  ·exact f.all q z
  ·rw[l8.mp z];exact hk⟩
theorem pO.new {rows:List Row}{m h T i:Nat}{es:List (Nat×Cs)}(G:iS m h rows)(f:pO rows m h (fX h T i) es){p:Cs}(hp:(bj h T)[i]?=some p)(hk:df (dE rows) 0 0 p∉es.map (·.1)):pO rows m h (fX h T (i+1)) (es++[(df (dE rows) 0 0 p,p)]):=by
 have Ab:=bH.mp (j4 hp);refine⟨λ e he=>?_,?_,λ q hq=>?_⟩
 ·rcases w9.mp he with z|z
  ·exact f.ent e z
  ·rw[l8.mp z];refine⟨⟨Ab.1,λ q hq ha e=>hk ?_⟩,rfl,G.vq.df p 0 0 (by omega) G.tb.pos⟩;rw[<- e];exact f.all q (Al hp hq ha)
 ·rw[x3];exact nodup_append.mpr ⟨f.nd,by simp,λ a ha b hb z=>hk (by rw[map_singleton,l8]at hb;have hb:b=df (dE rows) 0 0 p:=hb;rw[<- hb,<- z];exact ha)⟩
 ·rw[nJ hp]at hq;rw[x3,w9];rcases w9.mp hq with z|z
  ·exact .inl (f.all q z)
  ·rw[l8.mp z];exact .inr (by simp)
theorem pO.full {rows:List Row}{m h T:Nat}{es:List (Nat×Cs)}(G:iS m h rows)(f:pO rows m h (fX h T 0) es)(hT:m<=T):m<=es.length:=by
 obtain⟨g,hg⟩:=G.fst;have:=List.Nodup.length_le_of_subset (nodup_range (n:=m)) (l₂:=es.map (·.1)) λ x hx=>by
  have hx:=mem_range.mp hx;have h1:=hg.dA G hx;have:=f.all (g x) (by unfold fX;rw[w9];exact .inl (dW.mpr ⟨(hg x hx).1.1,by omega⟩))
  rwa [(hg x hx).2]at this
 rwa [w6,n9]at this
theorem pO.get {rows:List Row}{m h:Nat}{L:List Cs}{es:List (Nat×Cs)}{g:Nat->Cs}(f:pO rows m h L es)(hm:m<=es.length)(hg:IH m h rows g){x:Nat}(hx:x < m):(x,g x)∈es:=by
 have DD:∀y∈es.map (·.1),y∈List.range m:=λ y hy=>by obtain⟨e,he,rfl⟩:=A1.mp hy;exact mem_range.mpr (f.ent e he).2.2
 have rN:x∈es.map (·.1):=by
  refine Decidable.byContradiction λ hn=>?_;have:=List.Nodup.length_le_of_subset (nodup_cons.mpr ⟨hn,f.nd⟩) (l₂:=List.range m) λ y hy=>by
   rcases y8.mp hy with rfl|z
   ·exact mem_range.mpr hx
   ·exact DD y z
  rw[p5,w6,n9]at this;omega
 obtain⟨e,he,ex⟩:=A1.mp rN;have h1:=f.ent e he;have:e.2=g x:=h1.1.uniq (hg x hx).1 (by rw[h1.2.1,(hg x hx).2,ex]);rw[<- this,<- ex];exact he
theorem zQ:∀{p:Cs} {i c:Nat},p[i]?=some c->p.take i++[c+1]++p.drop (i+1)=inc p i
 |a::p,0,c,h=>by cases h;rfl
 |a::p,i+1,c,h=>by have:=zQ (p:=p) (i:=i) (c:=c) (by simpa using h);show a::(p.take i++[c+1]++p.drop (i+1))=a::inc p i;rw[this]
def iG{α:Type}(enc:α->D)(e:Cs×α):D:=.tup [dk e.1,enc e.2]
theorem Ext.vC {M1 M':Mem}{C:CM}(h:∀b d,C b=some d->M1 b=some (.g_ (.vC d)))(e:Ext (f_ M1 C) M'):Ext M1 (gF M' C):=λ b o eo=>by
 rcases cV C b with z|⟨d,z⟩
 ·rw[iJ z];exact e b o (by rw[kq z];exact eo)
 ·rw[kI z,<- h b d z];exact eo
theorem zH{M M1:Mem}{f:Addr}{L:jG}{fv:List Str}{cs:List D}{C:CM}(h:xu M f L fv cs C)(e:Ext M M1):xu M1 f L fv cs C:=by obtain⟨cl,h1,h2⟩:=h.ex;exact⟨⟨cl,e _ _ h1,h2⟩,h.len,λ b d z=>e _ _ (h.vC b d z)⟩
structure tS{α:Type}(F:Nat->α->α)(s0:α)(h:Nat)(most:Nat)(told:List (Cs×α)):Prop where
 iz:IG F s0 h told
 OI:most<=told.length\/∀q,hG F s0 h q->q∈told.map (·.1)
end KK
namespace L2
open PySem PySem.Spec PyProof.Rows
theorem gV{cells:List (Str×Addr)}:∀(names:List (Str×NameKind)) (acc:List (Str×Addr)) (x:Str) (c:Addr),(bo cells names acc).lookup x=some c->(x,NameKind.free)∈names\/acc.lookup x=some c
 |[],acc,x,c,e=>.inr e
 |(n,k)::r,acc,x,c,e=>by
  unfold bo at e;by_cases z:(k==NameKind.free)=true
  ·rw[B8 z]at e;have z:k=.free:=by simpa using z
   subst z;rcases gV r _ x c e with h|h
   ·exact .inl (j3 _ h)
   ·by_cases y:x=n
    ·subst y;exact .inl (k7 ..)
    ·rw[p4]at h;have:(x==n)=false:=by simpa using y
     rw[this]at h;exact .inr h
  ·rw[B9 z]at e;rcases gV r _ x c e with h|h
   ·exact .inl (j3 _ h)
   ·exact .inr h
end L2
namespace L3
open PySem L2
theorem Dv{M:Mem}{lf:Addr}{L:jG}{ps fv:List Str}{cs:List D}{cells:List (Str×Addr)}{cn:List (Str×Nat)}{δ:cI}{C:CM} (h:iy ps fv L.scope=true) (nI:fv=cn.map (·.1)) (hl:cs.length=cn.length) (Aj:∀(i:Nat) (x:Str) (j:Nat) (d:D),cn[i]?=some (x,j)->cs[i]?=some d->δ[j]?=some (some d)) (hC:Ec cells cn δ C) (hM:M lf=some (.g_ (.lam L (bo cells L.scope.names [])))) (hn:∀b d,C b=some d->M b=none):xu (gF M C) lf L fv cs C:=by
 unfold iy at h;simp only[p7,List.all_eq_true]at h;obtain⟨⟨_,h5⟩,h6⟩:=h;have fr:∀x,(x,NameKind.free)∈L.scope.names->x∈fv:=λ x hx=>by simpa using(h6 _ hx).2
 have L':∀x∈fv,∃j,(x,j)∈cn:=λ x hx=>by rw[nI]at hx;obtain⟨p,hp,rfl⟩:=A1.mp hx;exact⟨p.2,hp⟩
 have hc:∀n,(n,NameKind.free)∈L.scope.names->∃c,cells.lookup n=some c:=λ n hx=>by obtain⟨j,hj⟩:=L' n (fr n hx);obtain⟨b,_,e,_⟩:=hC.has n j hj;exact⟨b,e⟩
 have look:=eU (cells:=cells) L.scope.names [] hc λ x c e=>by simp at e
 have free:=λ x c e=>(gV (cells:=cells) L.scope.names [] x c e).elim (fr x) λ z=>by simp at z
 have Mg:C lf=none:=by
  rcases cV C lf with z|⟨d,z⟩
  ·exact z
  ·rw[hn lf d z]at hM;cases hM
 refine⟨⟨bo cells L.scope.names [],by rw[iJ Mg];exact hM,λ x y b e1 e2=>?_,λ x b e=>⟨free x b e,?_⟩,λ i x d ex ed=>?_⟩,by rw[hl,nI,w6],λ b d e=>kI e⟩
 ·obtain⟨j,hj⟩:=L' x (free x b e1);obtain⟨i,hi⟩:=L' y (free y b e2);exact hC.inj x j y i b hj hi (look x b e1) (look y b e2)
 ·obtain⟨j,hj⟩:=L' x (free x b e);obtain⟨b',d,e1,_,e3⟩:=hC.has x j hj;rw[look x b e]at e1;cases e1;exact⟨d,e3⟩
 ·rw[nI,m8]at ex;obtain⟨p,hp,rfl⟩:=Option.map_eq_some_iff.mp ex;have hx:p.1∈fv:=by rw[nI];exact A1.mpr ⟨p,j4 hp,rfl⟩
  have hm:(p.1,NameKind.free)∈L.scope.names:=by have:=h5 _ hx;exact j7 (by simpa using this)
  obtain⟨b,hb⟩:=Option.isSome_iff_exists.mp (gz (cells:=cells) L.scope.names [] hm);obtain⟨b',d',e1,e2,e3⟩:=hC.has p.1 p.2 (j4 hp);rw[look _ b hb]at e1;cases e1;rw[Aj i p.1 p.2 d hp ed]at e2;cases e2;exact⟨b,hb,e3⟩
theorem Ext.Jt {M M':Mem}{C:CM}(e:∀b o,gF M C b=some o->M' b=some o)(n:∀b d,C b=some d->M b=none):∀b o,M b=some o->f_ M' C b=some o:=Az e n
theorem Ik{M':Mem}{C:CM}{b:Addr}{o:MO}(h:M' b=some o)(n:C b=none):f_ M' C b=some o:=by rw[kq n];exact h
end L3
namespace KK
open PySem L3 L4 L5
theorem tS.len {m h:Nat}{rows:List Row}{told:List (Cs×Nat)}(G:iS m h rows)(f:tS (dE rows) 0 h m told):told.length=m:=by
 have eQ:∀e∈told,e.2 < m:=λ e he=>by have:=f.iz.ent e he;rw[<- this.2];exact G.vq.df e.1 0 0 (by rw[this.1.1];omega) G.tb.pos
 have h1:=List.Nodup.length_le_of_subset f.iz.nd (l₂:=List.range m) λ x hx=>by obtain⟨e,he,rfl⟩:=A1.mp hx;exact mem_range.mpr (eQ e he)
 rw[w6,n9]at h1;rcases f.OI with h2|h2
 ·omega
 ·obtain⟨g,hg⟩:=G.fst;have h3:=List.Nodup.length_le_of_subset (nodup_range (n:=m)) (l₂:=told.map (·.2)) λ x hx=>by have hx:=mem_range.mp hx;obtain⟨e,he,ee⟩:=A1.mp (h2 _ (hg x hx).1);have:=(f.iz.ent e he).2;rw[ee,(hg x hx).2]at this;exact A1.mpr ⟨e,he,this.symm⟩
  rw[w6,n9]at h3;omega
theorem tS.ent {m h:Nat}{rows:List Row}{told:List (Cs×Nat)}{g:Nat->Cs}(G:iS m h rows)(f:tS (dE rows) 0 h m told)(hg:IH m h rows g){e:Cs×Nat}(he:e∈told):e.2 < m/\e.1=g e.2:=by
 have:=f.iz.ent e he;have eQ:e.2 < m:=by rw[<- this.2];exact G.vq.df e.1 0 0 (by rw[this.1.1];omega) G.tb.pos
 exact⟨eQ,this.1.uniq (hg _ eQ).1 (by rw[this.2,(hg _ eQ).2])⟩
def ui:gK:=λ ds M Q=>∃ns:List Int,ds=[.fl (ns.map D.int)]/\∀f c M',Flow M' f c->Ext M M'->Q (.ref f) M'
theorem GS{M M':Mem}{f c b:Addr}{x:XM}(F:Fl f c M M')(h:M b=some (.g_ x))(hf:Flow M f c):M' b=some (.g_ x):=by refine F.mv b _ (λ z=>?_) h;subst z;obtain⟨ns,p,bb,sd,ct,h1,_⟩:=hf;rw[h]at h1;cases h1
def oj(m:Nat)(g:Nat->Cs)(done:List Nat):List D:=(List.range m).map λ x=>if x∈done then dk (g x)else .bf
theorem xR{m:Nat}{g:Nat->Cs}{done:List Nat}{x:Nat}(hx:x < m):(oj m g done).set x (dk (g x))=oj m g (done++[x]):=by
 refine ext_getElem? λ i=>?_;unfold oj;rw[getElem?_set,m8,m8,w6,n9];by_cases e:x=i
 ·subst e;rw[B8 rfl,B8 hx,getElem?_range hx];simp
 ·rw[B9 e];by_cases hi:i < m
  ·rw[getElem?_range hi];simp[B7 e]
  ·rw[getElem?_eq_none (by rw[n9];omega)];rfl
theorem xS{m:Nat}{g:Nat->Cs}{done:List Nat}(h:∀x,x < m->x∈done):oj m g done=(List.range m).map λ x=>dk (g x):=by unfold oj;refine map_congr_left λ x hx=>?_;rw[B8 (h x (mem_range.mp hx))]
theorem Hh{l:List Nat}{m:Nat}(nd:l.Nodup)(eQ:∀x∈l,x < m)(hl:m<=l.length):∀x,x < m->x∈l:=λ x hx=>by
 refine Decidable.byContradiction λ hn=>?_;have:=List.Nodup.length_le_of_subset (nodup_cons.mpr ⟨hn,nd⟩) (l₂:=List.range m) λ y hy=>by
  rcases y8.mp hy with rfl|z
  ·exact mem_range.mpr hx
  ·exact mem_range.mpr (eQ y z)
 rw[p5,n9]at this;omega
end KK
namespace KK
open PySem L3 L4 L5
open L2 hiding aV ib
local macro_rules|`(tactic|walk_at "mem")=>`(tactic|first|assumption|exact af|(rw[av (by assumption)];assumption)|(rw[av (by assumption),av (by assumption)];assumption)|(rw[av (by assumption)];exact af))
local macro_rules|`(tactic|walk_at "rd1")=>`(tactic|first|(with_reducible first|refine Fz ?_|refine yC ?_|refine BW ?_|refine FA ?_|refine FQ ?_|refine oC ?_|refine dF ?_|refine Fy ?_|refine uq ?_|refine El ?_|refine JI ?_)|((with_reducible refine' lD ?k1 ?_);(case k1=>rfl))|(with_reducible first|refine Nc ?_|refine FR ?_|refine JL ?_|refine FC ?_|refine Cp ?_|refine iZ ?_|refine ke ?_|refine Fw ?_|refine FF ?_|refine Fx ?_|refine Ck ?_|refine yH ?_|refine FI ?_|refine BU ?_|refine Cn ?_|refine Co ?_)|((with_reducible refine' ig ?k1 ?_);(case k1=>walk_at "mem"))|(with_reducible first|refine Fv ?_|refine JP ?_|refine Na ?_|refine JK ?_|refine wm ?_|refine BV ?_|refine ux ?_|refine FP ?_)|((with_reducible refine yx ?k1 ?_);(case k1=>first|assumption|decide))|((with_reducible refine FO ?k1 ?k2 ?_);(case k1=>first|assumption|decide);(case k2=>first|assumption|decide|omega))|((with_reducible refine lE ?k1 ?_);(case k1=>exact AK (by decide) (by decide)))|(with_reducible first|refine BP ?_|refine B_ ?_|refine yB ?_)|((with_reducible refine' Cm ?k1 ?_);(case k1=>rfl))|(with_reducible first|refine JM ?_|refine qx ?_|refine yD ?_|refine yE ?_)|((with_reducible refine' yF ?k1 ?_);(case k1=>walk_at "mem"))|(with_reducible first|refine Cg ?_|refine Ci ?_|refine Cf ?_|refine BX ?_|refine BQ ?_|refine FD ?_|refine ka ?_)|((with_reducible refine' cZ ?k1 ?k2 ?_);(case k1=>walk_at "mem");(case k2=>rfl))|((with_reducible refine' bX ?k2 ?_);(case k2=>rfl))|((with_reducible refine' oB ?k1 ?_);(case k1=>walk_at "mem"))|((with_reducible refine' yr ?k1 ?k2 ?_);(case k1=>walk_at "mem");(case k2=>rfl))|(with_reducible first|refine B' ?_|refine Ca ?_|refine wg ?_|refine JO ?_|refine yA ?_|refine Cc ?_|refine Cd ?_))
local macro_rules|`(tactic|walk_at "rd")=>`(tactic|repeat(walk_at "rd1"))
local macro_rules|`(tactic|walk_at "rx")=>`(tactic|repeat(first|walk_at "rd1"|((with_reducible refine' JJ ?k1 ?_);(case k1=>exact Nat.le_of_ble_eq_true rfl))))
def top(i:Nat):Stmt:=PySem.Challenge.pw_lastloser_k29_first_sums.main.body.getD i (.Pass ⟨0,0,0,0⟩)
structure mR(K:C0)(mg:Str->Option Value):Prop where
 all:mg "all"=none
 bool:mg "bool"=none
 enumerate:mg "enumerate"=none
 int:mg "int"=none
 isinstance:mg "isinstance"=none
 len:mg "len"=none
 list:mg "list"=none
 max:mg "max"=none
 range:mg "range"=none
 sorted:mg "sorted"=none
 str:mg "str"=none
 tuple:mg "tuple"=none
 zip:mg "zip"=none
 oW:ff K "bool"
 Ew:ff K "int"
 zZ:ff K "list"
 Eu:ff K "str"
 uT:ff K "tuple"
def qj:gK:=λ ds M Q=>∃ns:List Int,ds=[.fl (ns.map D.int)]/\M 31=some (.g_ (.j_ "first_things.<locals>.<lambda>"))/\∀M',Q (.bl true) M'
section
variable {P:Program}{w:World}{K:C0}{mg:Str->Option Value}{base:Heap}
theorem fI:aR ["_law_flow_here","_law_many","_law_cell","_law_digit"] ["_law_flow_here","_law_many"] (aq (top 8)):=⟨rfl,rfl,rfl,by decide+kernel,rfl,by decide+kernel,by decide+kernel⟩
theorem Dh{f:Addr}{fd:FuncData}(F:jH K "_law_pick" "_law_pick" (top 8) f fd)(T:mR K mg):cu P w K mg base fh 1 f fd ["_law_flow_here","_law_many"] (cW K iV):=by
 refine qE F fI (λ ds M Q h=>?_) (λ dD A outer s H E ds M Q hr h=>?_)
 ·obtain⟨a,c,n,rfl,_⟩:=h;rfl
 ·obtain⟨a,c,n,rfl,⟨ns,p,b,sd,ct,hf,hc,fk,hp,hb,Bf,HH⟩,Ja,S',k⟩:=h;refine⟨_,(ae (cw (og (aM (cM hr.units) (a_ aV (au 0) ai (λ _ _=>rfl)) ai (aH _)) (n_ (aM lI (a_ aV (au 0) ai (λ _ _=>rfl)) (ay bV (by rfl) T.len (by decide+kernel) (aa (a_ aV (au 0) ai (λ _ _=>rfl)) ab)) (aH _)))).pt
 (ae (aD (i:=2) fI.nd rfl (Or.inl rfl) (a_ aV (a_ aV (au 0) ai (λ _ _=>rfl)) (a_ aV (au 0) ai (λ _ _=>rfl)) (λ _ _=>rfl)))
 (ae (ek (bz br (a_ aV (au 0) ai (λ _ _=>rfl)) ai) (fB (au 0) ai jA))
 (ao (cw (aM Nu (au 2) (bz Kp ai ai) (aH _))
 (ao (ek (au 2) (fB (au 0) ai jA)))
 (ao (ek (bz iu (bz br (bz br (bz fO (a_ aV (au 0) ai (λ _ _=>rfl)) ai) (bz iu (au 2) ai)) ai) ai) (fB (au 0) ai jA)))))))
 bh)
 (ae (cw (aM Ks (a_ aV (au 0) ai (λ _ _=>rfl)) ai (aH _))
 (ae (aD (i:=3) fI.nd rfl (Or.inl rfl) (bz iu (a_ aV (au 0) ai (λ _ _=>rfl)) (au 1)))
 (ae (ek (bz sJ (a_ aV (au 0) ai (λ _ _=>rfl)) (au 1)) (fB (au 0) ai jA))
 (ao (aY (au 3)))))
 bh)
 (ae (ek (bz br (a_ aV (au 0) ai (λ _ _=>rfl)) ai) (fB (au 0) ai jA))
 (ae (ek (bz iu (bz br (bz br (bz fO (a_ aV (au 0) ai (λ _ _=>rfl)) ai) ai) (a_ aV (au 0) ai (λ _ _=>rfl))) ai) (fB (au 0) ai jA))
 (ao (aY (bz iu (bz sJ (bz iu (bz fO (bz br (bz iu (a_ aV (au 0) ai (λ _ _=>rfl)) ai) ai) (bz br (bz sJ (a_ aV (au 0) ai (λ _ _=>rfl)) ai) ai)) ai) ai) (au 1)))))))),?_⟩
  refine gO (λ δ' M'=>∃(p b sd ct:Int) (v:Option D),δ'=[some (.ref a),some (.int n),v,none]/\M'=ah M a (.lst (EE c p b sd ct))/\0<=p/\0<=b/\0<=sd/\sd < 2147483647) (λ N hN=>?_) ?_
  ·walk_at "rd";refine aI (λ HX=>?_) (λ HX=>?_)
   ·walk_at "rd";refine aI (λ hpl=>?_) (λ hpl=>?_)
    ·obtain⟨x,hx⟩:∃x:Int,gE (ns.map D.int) p=some (.int x):=by
      have hl:p.toNat < ns.length:=by rw[w6]at hpl;omega
      refine⟨ns[p.toNat],?_⟩;have e:((p.toNat:Nat):Int)=p:=by omega
      have q:gE (ns.map D.int) ((p.toNat:Nat):Int)=some (.int ns[p.toNat]):=bY (by simp[hl]);rw[e]at q;exact q
     walk_at "rd";refine cZ hc hx ?_;walk_at "rd";refine M_ ⟨by decide,by decide,by decide⟩ ?_;walk_at "rd";refine aI (λ HV=>?_) (λ HV=>?_)
     ·walk_at "rd";rw[dM];refine hN _ _ ⟨p+1,x,sd,ct,_,rfl,rfl,by omega,?_,Bf,HH⟩;have HV:(10:Int)^(18:Int).toNat<=x:=HV;have e:(10:Int)^(18:Int).toNat=1000000000000000000:=by decide
      omega
     ·walk_at "rd";rw[dM];refine hN _ _ ⟨p+1,b,_,ct,_,rfl,rfl,by omega,hb,s9 _ (by decide),l4 _ (by decide)⟩
    ·walk_at "rd";exact hN _ _ ⟨p,b,sd,ct,none,rfl,(mU hf).symm,hp,hb,Bf,HH⟩
   ·walk_at "rd";exact hN _ _ ⟨p,b,sd,ct,none,rfl,(mU hf).symm,hp,hb,Bf,HH⟩
  ·rintro δ' M' ⟨p,b,sd,ct,v,rfl,rfl,hp,hb,Bf,HH⟩;walk_at "rd";refine aI (λ HX=>?_) (λ HX=>?_)
   ·walk_at "rd";rw[dM];refine aB (k _ _ (s9 _ (by omega)) (l4 _ Ja) ⟨ns,p,_,sd,ct,af,by rw[av fk];exact hc,fk,hp,Int.ediv_nonneg hb (by omega),Bf,HH⟩)
   ·walk_at "rd";refine lE (Ir ?_ ?_) ?_
    ·have:=s9 ((sd*48271+12820163+(ct+1)) % 2147483647) (show(65521:Int)≠0 by decide);omega
    ·have:=l4 ((sd*48271+12820163+(ct+1)) % 2147483647) (show(0:Int) < 65521 by decide);omega
    walk_at "rd";rw[dM,dM];exact aB (k _ _ (s9 _ (by omega)) (l4 _ Ja) ⟨ns,p,b,_,_,af,by rw[av fk];exact hc,fk,hp,hb,s9 _ (by decide),l4 _ (by decide)⟩)
theorem qm:aR ["_law_script"] ["_law_script"] (aq (top 7)):=⟨rfl,rfl,rfl,by decide+kernel,rfl,by decide+kernel,by decide+kernel⟩
theorem Dm{f:Addr}{fd:FuncData}(F:jH K "_law_flow" "_law_flow" (top 7) f fd)(T:mR K mg):cu P w K mg base fh 1 f fd ["_law_script"] (cW K ui):=by
 refine qE F qm (λ ds M Q h=>?_) (λ dD A outer s H E ds M Q hr h=>?_)
 ·obtain⟨a,rfl,_⟩:=h;rfl
 ·obtain⟨ns,rfl,k⟩:=h;refine⟨_,(ao (aY (cx (aa (bM AO (by rfl) T.list (by decide+kernel) (aa (au 0) ab)) (aa ai (aa ai (aa ai (aa ai ab)))))))),?_⟩;walk_at "rd";refine yz λ c nI=>?_;walk_at "rd";refine⟨small (by show 5<=10000;decide),λ fl Mj=>?_⟩;have fk:c≠fl:=λ z=>by subst z;rw[af]at Mj;cases Mj
  exact aB (k fl c _ ⟨ns,0,0,1,0,af,by rw[av fk];exact af,fk,by decide,by decide,by decide,by decide⟩ (Ext.new (Ext.new Ext.rfl nI _) Mj _))
end
section
variable {P:Program}{w:World}{K:C0}{mg:Str->Option Value}{base:Heap}
theorem ox:aR ["_law_found","_law_due"] ["_law_found","_law_due"] (aq (top 10)):=⟨rfl,rfl,rfl,by decide+kernel,rfl,by decide+kernel,by decide+kernel⟩
theorem G'{f:Addr}{fd:FuncData}(F:jH K "_law_alike" "_law_alike" (top 10) f fd)(T:mR K mg)(N6:mg "_law_alike"=some (.ref f))(HX:Binds K fd ["_law_found","_law_due"] []):∀k,cu P w K mg base fh (k+1) f fd ["_law_found","_law_due"] (cW K (yd k)):=by
 intro k
 induction k with
 |zero=>exact uY BJ
 |succ k ih=>
 have f':=bW.of F ih N6 HX;rw[show k+1+1=k+1+1 by omega];clear ih;refine qE F ox (λ ds M Q h=>?_) (λ dD A outer s H E ds M Q hr h=>?_)
 ·obtain⟨x,y,rfl,_⟩:=h;rfl
 ·obtain⟨x,y,rfl,hs,k⟩:=h;refine⟨_,(ae (cw (aM zt (au 1) tX (aH _))
 (ao (aY (gI zt (au 0) tX (aH _))))
 bh)
 (ae (cw (xG (kM (ay (e_ T.oW) (by rfl) T.isinstance (by decide+kernel) (aa (au 1) (aa (jL (n:="bool") (by rfl) T.bool (by decide+kernel)) ab)))) (rW (kM (ay (e_ T.oW) (by rfl) T.isinstance (by decide+kernel) (aa (au 0) (aa (jL (n:="bool") (by rfl) T.bool (by decide+kernel)) ab)))))).pt
 (ao (aY (w_and (ay (e_ T.oW) (by rfl) T.isinstance (by decide+kernel) (aa (au 1) (aa (jL (n:="bool") (by rfl) T.bool (by decide+kernel)) ab))) (w_and (ay (e_ T.oW) (by rfl) T.isinstance (by decide+kernel) (aa (au 0) (aa (jL (n:="bool") (by rfl) T.bool (by decide+kernel)) ab))) (qb (gI (cM hr.units) (au 0) (au 1) (aH _)))))))
 bh)
 (ae (cw (kM (ay (e_ T.Ew) (by rfl) T.isinstance (by decide+kernel) (aa (au 1) (aa (jL (n:="int") (by rfl) T.int (by decide+kernel)) ab))))
 (ao (aY (w_and (ay (e_ T.Ew) (by rfl) T.isinstance (by decide+kernel) (aa (au 0) (aa (jL (n:="int") (by rfl) T.int (by decide+kernel)) ab))) (qb (gI (cM hr.units) (au 0) (au 1) (aH _))))))
 bh)
 (ae (cw (kM (ay (e_ T.Eu) (by rfl) T.isinstance (by decide+kernel) (aa (au 1) (aa (jL (n:="str") (by rfl) T.str (by decide+kernel)) ab))))
 (ao (aY (w_and (ay (e_ T.Eu) (by rfl) T.isinstance (by decide+kernel) (aa (au 0) (aa (jL (n:="str") (by rfl) T.str (by decide+kernel)) ab))) (qb (gI (cM hr.units) (au 0) (au 1) (aH _))))))
 bh)
 (ae (cw (xG (aM (zr hr.units) (ay (e_ T.uT) (by rfl) T.isinstance (by decide+kernel) (aa (au 1) (aa (jL (n:="tuple") (by rfl) T.tuple (by decide+kernel)) ab))) (ay (e_ T.uT) (by rfl) T.isinstance (by decide+kernel) (aa (au 0) (aa (jL (n:="tuple") (by rfl) T.tuple (by decide+kernel)) ab))) (aH _)) (rW (aM (zr hr.units) (ay (e_ T.zZ) (by rfl) T.isinstance (by decide+kernel) (aa (au 1) (aa (jL (n:="list") (by rfl) T.list (by decide+kernel)) ab))) (ay (e_ T.zZ) (by rfl) T.isinstance (by decide+kernel) (aa (au 0) (aa (jL (n:="list") (by rfl) T.list (by decide+kernel)) ab))) (aH _)))).pt
 (ao (aY xK))
 bh)
 (ao (aY (w_and (gI (cM hr.units) (ay bV (by rfl) T.len (by decide+kernel) (aa (au 0) ab)) (ay bV (by rfl) T.len (by decide+kernel) (aa (au 1) ab)) (aH _)) (qb (EU (Lu rfl) Bx (by rfl) T.all (by decide+kernel) (tgs:=["_law_k"]) (fr:=[0,1]) ⟨cb (by kernel_rfl),rfl,(λ _ _ h=>h),(bt rfl T.range (aa (ay bV (by rfl) T.len (by decide+kernel) (aa (au 1) ab)) ab)),(bI (λ _ _ _ _ _=>(bc (i:=0) (show(["_law_k","_law_found","_law_due"]:List Str).Nodup by decide+kernel) rfl (Or.inl rfl))) (by decide)),(λ _ _ _ _ _=>cg),(λ _ _ _ _ _=>(aS f' (hr.mono (by omega)) (by rfl) (aa (a_ aV (au 1) (au 0) (λ _ _=>rfl)) (aa (a_ aV (au 2) (au 0) (λ _ _=>rfl)) ab))))⟩)))))))))),?_⟩
  rcases hs with⟨rfl,hx⟩|⟨ds,es,rfl,rfl,hl,hz,hs⟩|⟨p,q,ds,es,rfl,rfl,hp,hq,hl,hz,hs⟩
  ·cases x with
   |bf=>walk_at "rx";refine qv ?_;walk_at "rx";refine qv ?_;walk_at "rx";exact aB k
   |bl b=>walk_at "rx";refine gj (by simp[kY]) ?_;walk_at "rx";refine bg (n:="bool") rfl (b:=true) (by decide) ?_;walk_at "rx";refine bg (n:="bool") rfl (b:=true) (by decide) ?_;walk_at "rx";refine bg (n:="bool") rfl (b:=true) (by decide) ?_;walk_at "rx";rw[x8 (rfl:b=b)];exact aB k
   |int i=>walk_at "rx";refine gj (by simp[kY]) ?_;walk_at "rx";refine bg (n:="int") rfl (b:=false) (by decide) ?_;walk_at "rx";refine bg (n:="int") rfl (b:=false) (by decide) ?_;walk_at "rx";refine bg (n:="int") rfl (b:=true) (by decide) ?_;walk_at "rx";refine bg (n:="int") rfl (b:=true) (by decide) ?_;walk_at "rx";rw[x8 (rfl:i=i)];exact aB k
   |str z=>walk_at "rx";refine gj (by simp[kY]) ?_;walk_at "rx";refine bg (n:="str") rfl (b:=false) (by decide) ?_;walk_at "rx";refine bg (n:="str") rfl (b:=false) (by decide) ?_;walk_at "rx";refine bg (n:="str") rfl (b:=false) (by decide) ?_;walk_at "rx";refine bg (n:="str") rfl (b:=true) (by decide) ?_;walk_at "rx";refine bg (n:="str") rfl (b:=true) (by decide) ?_;walk_at "rx";rw[x8 (rfl:z=z)];exact aB k
   |_=>cases hx
  ·walk_at "rx";refine gj (by simp[kY]) ?_;walk_at "rx";refine bg (n:="tuple") rfl (b:=false) (by decide) ?_;walk_at "rx";refine bg (n:="tuple") rfl (b:=false) (by decide) ?_;walk_at "rx";refine bg (n:="tuple") rfl (b:=false) (by decide) ?_;walk_at "rx";refine bg (n:="tuple") rfl (b:=false) (by decide) ?_;walk_at "rx";refine bg (n:="tuple") rfl (b:=true) (by decide) ?_;walk_at "rx";refine bg (n:="tuple") rfl (b:=true) (by decide) ?_;walk_at "rx";refine kb (λ h=>absurd rfl h) (λ _=>?_);walk_at "rx";refine bg (n:="tuple") rfl (b:=false) (by decide) ?_;walk_at "rx";refine bg (n:="tuple") rfl (b:=false) (by decide) ?_;walk_at "rx";refine kb (λ h=>absurd rfl h) (λ _=>?_);walk_at "rx";rw[hl];refine aI (λ _=>?_) (λ hl=>absurd rfl hl);walk_at "rx";refine⟨cK (by omega) (by omega),?_⟩;rw[m9];refine md (λ i acc M'=>M'=M/\acc=(List.replicate i true).map D.bl) ⟨rfl,rfl⟩ (λ i acc M' hi h=>?_) (λ i d acc M' hd h=>?_) (λ acc M' h=>?_)
   ·obtain⟨_,rfl⟩:=h;rw[bA]at hi;simp only[w6,j2];exact small (by omega)
   ·obtain⟨rfl,rfl⟩:=h;obtain⟨hi,rfl⟩:=cL hd;walk_at "rx";refine bX (kH (by omega)) ?_;walk_at "rx";refine bX (kH hi) ?_;refine⟨_,_,rfl,hs i _ _ (c9 (by omega)) (c9 hi),rfl,?_⟩;rw[replicate_succ',x3];rfl
   ·obtain⟨rfl,rfl⟩:=h;unfold vn;rw[me];show fin2 Q (.bl ((List.replicate _ true).all id)) _;rw[pJ];exact aB k
  ·have tp:kY M (.ref p)=some "list":=by show(aW M p).map (λ _=>"list")=_;unfold aW;rw[hp];rfl
   have tq:kY M (.ref q)=some "list":=by show(aW M q).map (λ _=>"list")=_;unfold aW;rw[hq];rfl
   walk_at "rx";refine gj (by rw[tq];simp) ?_;walk_at "rx";refine bg tq (b:=false) (by decide) ?_;walk_at "rx";refine bg tp (b:=false) (by decide) ?_;walk_at "rx";refine bg tq (b:=false) (by decide) ?_;walk_at "rx";refine bg tq (b:=false) (by decide) ?_;walk_at "rx";refine bg tq (b:=false) (by decide) ?_;walk_at "rx";refine bg tp (b:=false) (by decide) ?_;walk_at "rx";refine kb (λ h=>absurd rfl h) (λ _=>?_);walk_at "rx";refine bg tq (b:=true) (by decide) ?_;walk_at "rx";refine bg tp (b:=true) (by decide) ?_;walk_at "rx";refine kb (λ h=>absurd rfl h) (λ _=>?_);walk_at "rx";rw[hl];refine aI (λ _=>?_) (λ hl=>absurd rfl hl);walk_at "rx";refine⟨cK (by omega) (by omega),?_⟩;rw[m9];refine md (λ i acc M'=>M'=M/\acc=(List.replicate i true).map D.bl) ⟨rfl,rfl⟩ (λ i acc M' hi h=>?_) (λ i d acc M' hd h=>?_) (λ acc M' h=>?_)
   ·obtain⟨_,rfl⟩:=h;rw[bA]at hi;simp only[w6,j2];exact small (by omega)
   ·obtain⟨rfl,rfl⟩:=h;obtain⟨hi,rfl⟩:=cL hd;walk_at "rx";refine cZ hp (kH (by omega)) ?_;walk_at "rx";refine cZ hq (kH hi) ?_;refine⟨_,_,rfl,hs i _ _ (c9 (by omega)) (c9 hi),rfl,?_⟩;rw[replicate_succ',x3];rfl
   ·obtain⟨rfl,rfl⟩:=h;unfold vn;rw[me];show fin2 Q (.bl ((List.replicate _ true).all id)) _;rw[pJ];exact aB k
end
def yb:gK:=λ ds M Q=>∃(v lo w:Nat),ds=[.int v,.int lo,.int w]/\0 < w/\Q (.int (cnt v lo w)) M
def ug(B H:Nat):gK:=λ ds M Q=>∃(f c:Addr),ds=[.ref f]/\Flow M f c/\∀(m h:Nat) (rows:List Row) (ls:Row) (M':Mem),iS m h rows->m<=B->h<=H->gG m ls->Fl f c M M'->Q (cz rows ls) M'
section
variable {P:Program}{w:World}{K:C0}{mg:Str->Option Value}{base:Heap}
theorem lr:aR ["_law_value","_law_low","_law_wide"] ["_law_value","_law_low","_law_wide"] (aq (top 14)):=⟨rfl,rfl,rfl,by decide+kernel,rfl,by decide+kernel,by decide+kernel⟩
theorem G_{f:Addr}{fd:FuncData}(F:jH K "_law_counted" "_law_counted" (top 14) f fd)(T:mR K mg):cu P w K mg base fh 1 f fd ["_law_value","_law_low","_law_wide"] (cW K yb):=by
 refine qE F lr (λ ds M Q h=>?_) (λ dD A outer s H E ds M Q hr h=>?_)
 ·obtain⟨v,lo,w,rfl,_⟩:=h;rfl
 ·obtain⟨v,lo,w,rfl,hw,k⟩:=h;refine⟨_,(ae (cw (aM lI (au 0) (bz br (au 1) (au 2)) (aH _))
 (ao (aY (au 0)))
 bh)
 (ao (aY (bz br (au 1) (bz iu (bz zo (au 0) (au 1)) (au 2)))))),?_⟩
  walk_at "rx";refine aI (λ hl=>?_) (λ hl=>?_)
  ·walk_at "rx";unfold cnt at k;rw[B8 (by omega)]at k;exact aB k
  ·have Ey:(0:Int) < w:=by omega
   walk_at "rx";unfold cnt at k;rw[B9 (by omega)]at k;rw[show(lo:Int)+((v:Int) - (lo:Int)) % (w:Int)=((lo+(v - lo) % w:Nat):Int) by
    rw[Int.natCast_add,Int.natCast_emod,Int.natCast_sub (by omega)]]
   exact aB k
theorem aL:aR ["_law_flow_here","_law_low","_law_wide","_law_weights","_law_states","_law_rows","_law_row","_law_weight","_law_then"] ["_law_flow_here"] (aq (top 16)):=⟨rfl,rfl,rfl,by decide+kernel,rfl,by decide+kernel,by decide+kernel⟩
theorem Dk{f:Addr}{fd:FuncData}(F:jH K "_law_long_table" "_law_long_table" (top 16) f fd)(T:mR K mg)(az:dj P w K mg base 1 "_law_pick" ["_law_flow_here","_law_many"] iV)(eu:dj P w K mg base 1 "_law_counted" ["_law_value","_law_low","_law_wide"] yb):cu P w K mg base fh 2 f fd ["_law_flow_here"] (cW K (ug 19 2)):=by
 refine qE F aL (λ ds M Q h=>?_) (λ dD A outer s H E ds M Q hr h=>?_)
 ·obtain⟨f,c,rfl,_⟩:=h;rfl
 ·obtain⟨f,cc,rfl,hF,k⟩:=h;refine⟨_,(ae (aD (i:=1) aL.nd rfl (Or.inl rfl) (aS az (hr.mono (by decide)) (by rfl) (aa (au 0) (aa ai ab))))
 (ae (aD (i:=2) aL.nd rfl (Or.inl rfl) (bz br ai (aS az (hr.mono (by decide)) (by rfl) (aa (au 0) (aa ai ab)))))
 (ae (cJ (i:=3) aL.nd rfl (Or.inl rfl) (tgs:=["_law_h"]) (fr:=[0]) ⟨cb (by kernel_rfl),rfl,(λ _ _ h=>h),(bt rfl T.range (aa (bz br ai (aS az (hr.mono (by decide)) (by rfl) (aa (au 0) (aa ai ab)))) ab)),(bI (λ _ _ _ _ _=>(bc (i:=0) (show(["_law_h","_law_flow_here"]:List Str).Nodup by decide+kernel) rfl (Or.inl rfl))) (by decide)),(λ _ _ _ _ _=>cg),(λ _ _ _ _ _=>(aS az (hr.mono (by decide)) (by rfl) (aa (au 1) (aa ai ab))))⟩)
 (ae (aD (i:=4) aL.nd rfl (Or.inl rfl) (cx (aa ai ab)))
 (ae (aD (i:=5) aL.nd rfl (Or.inl rfl) (cx ab))
 (ae (dQ u7 (aM lI (ay bV (by rfl) T.len (by decide+kernel) (aa (au 5) ab)) (ay bV (by rfl) T.len (by decide+kernel) (aa (au 4) ab)) (aH _))
 (ae (aD (i:=6) aL.nd rfl (Or.inl rfl) (cx ab))
 (ae (dR u7 rfl (dS (au 3)) (bL (i:=7) aL.nd rfl (Or.inl rfl))
 (ae (aD (i:=8) aL.nd rfl (Or.inl rfl) (aS eu (hr.mono (by decide)) (by rfl) (aa (bz br (a_ aV (au 4) (ay bV (by rfl) T.len (by decide+kernel) (aa (au 5) ab)) (λ _ _=>rfl)) (au 7)) (aa (au 1) (aa (au 2) ab)))))
 (ae (cw (aM (fN hr.units) (au 8) (au 4) rfl)
 (ao (bK (dX g9 c8 g0 bO (au 4) (aa (au 8) ab))))
 bh)
 (ao (bK (dX g9 c8 g0 bO (au 6) (aa (dX g9 PySem.F.slot_list_index PySem.F.type_list_index (gp hr.units) (au 4) (aa (au 8) ab)) ab)))))))
 (ao (bK (dX g9 c8 g0 bO (au 5) (aa (bM bS (by rfl) T.tuple (by decide+kernel) (aa (au 6) ab)) ab)))))))
 (ao (aY (cR (aa (bM bS (by rfl) T.tuple (by decide+kernel) (aa (au 5) ab)) (aa (kN bS eG (by rfl) T.tuple (by decide+kernel) (tgs:=["_law_k"]) (fr:=[0]) ⟨cb (by kernel_rfl),rfl,(λ _ _ h=>h),(bt rfl T.range (aa (ay bV (by rfl) T.len (by decide+kernel) (aa (au 5) ab)) ab)),(bI (λ _ _ _ _ _=>(bc (i:=0) (show(["_law_k","_law_flow_here"]:List Str).Nodup by decide+kernel) rfl (Or.inl rfl))) (by decide)),(λ _ _ _ _ _=>(jW (aM (cM hr.units) (aS az (hr.mono (by decide)) (by rfl) (aa (au 1) (aa ai ab))) ai (aH _)))),(λ _ _ _ _ _=>(au 0))⟩) ab))))))))))),?_⟩
  walk_at "rx";refine⟨f,cc,10,rfl,hF,by decide,by decide,λ d1 o1 Jg K' Ak=>?_⟩;have F1:Fl f cc M _:=Fl.pick Ak;generalize ah M f o1=M1 at*;obtain⟨lo,rfl⟩:∃n:Nat,d1=(n:Int):=⟨d1.toNat,by omega⟩;walk_at "rx";refine⟨f,cc,10,rfl,F1.bC,by decide,by decide,λ d2 o2 OC OB H9=>?_⟩;have F2:=F1.trans (Fl.pick H9);generalize ah M1 f o2=M2 at*;obtain⟨w,ew⟩:∃n:Nat,1+d2=(n:Int):=⟨(1+d2).toNat,by omega⟩;walk_at "rx";rw[ew];refine⟨f,cc,2,rfl,F2.bC,by decide,by decide,λ d3 o3 Sf Se Ox=>?_⟩;have F3:=F2.trans (Fl.pick Ox);generalize ah M2 f o3=M3 at*;walk_at "rx";refine⟨cK (by omega) (by omega),?_⟩;rw[c_];refine gW nD (λ ys M'=>Fl f cc M M'/\∀y∈ys,y < 3) (by rw[n9];omega) ⟨F3,λ y h=>by cases h⟩ (λ i x ys M' N hx hl hI hN=>?_) (λ ws M4 hl hI=>?_)
  ·walk_at "rx";refine⟨f,cc,3,rfl,hI.1.bC,by decide,by decide,λ d o h0 h1 xa=>?_⟩;obtain⟨y,rfl⟩:∃n:Nat,d=(n:Int):=⟨d.toNat,by omega⟩;refine hN y _ ⟨hI.1.trans (Fl.pick xa),λ z hz=>?_⟩;rcases w9.mp hz with e|e
   ·exact hI.2 z e
   ·rw[l8.mp e];omega
  ·obtain⟨F4,S4⟩:=hI;rw[n9]at hl;intro mn sV;have F5:=F4.trans (Fl.put (o:=.lst (ws.map nD)) F4.bC sV);have Ex:ah M4 mn (.lst (ws.map nD)) mn=some (.lst (ws.map nD)):=af;generalize ah M4 mn (.lst (ws.map nD))=M5 at*;walk_at "rx";intro p hp;walk_at "rx";intro q hq;have C:jK (λ _=>True) ws.length (λ i s=>cnt (s+ws.getD i 0) lo w):=⟨λ _ _ _ _=>True.intro,λ s i j _ _ _=>vw (by omega)⟩;have hU:∀i s,cnt (s+ws.getD i 0) lo w∈List.range (lo+w):=λ i s=>mem_range.mpr (AJ (by omega));have X0:Sx nD (λ i s=>cnt (s+ws.getD i 0) lo w) 0 ws.length (List.range (lo+w)) p q [0] [] M5 (ah (ah M5 p (.lst [.int 0])) q (.lst [])):=by have iB:p≠q:=bJ (show ah M5 p (.lst [.int 0]) p=some _ from af) hq;refine⟨Ext.new (Ext.new Ext.rfl hp _) hq _,hp,Ext.free (Ext.new Ext.rfl hp _) hq,iB,?_,af,nY.start (mem_range.mpr (by omega)),by simp⟩;rw[av iB,af];rfl
   generalize ah (ah M5 p (.lst [.int 0])) q (.lst [])=M6 at*;have RZ:(List.range (lo+w)).length<=19:=by rw[n9];omega
   generalize List.range (lo+w)=U at*;walk_at "rx";refine dU ⟨λ m δ M'=>∃(v6 v7 v8:Option D) (aK:List Nat) (rows:List Row),δ=[some (.ref f),some (.int lo),some (.int w),some (.ref mn),some (.ref p),some (.ref q),v6,v7,v8]/\Sx nD (λ i s=>cnt (s+ws.getD i 0) lo w) 0 ws.length U p q aK rows M5 M'/\m=20 - rows.length,⟨_,none,none,none,[0],[],rfl,X0,rfl⟩,?_⟩;rintro m δ M' ⟨v6,v7,v8,aK,rows,rfl,X,rfl⟩;have hfew:=X.dA;have hst:=X.st;have mr:=X.gN;walk_at "rx";rw[w6,w6];refine aI (λ eQ=>?_) (λ DH=>?_)
   ·obtain⟨s,hs⟩:∃s,aK[rows.length]?=some s:=⟨_,c9 (by omega)⟩;refine⟨λ δ' iT=>∃(v6 v7 v8:Option D) (aK:List Nat) (r:Row),δ'=[some (.ref f),some (.int lo),some (.int w),some (.ref mn),some (.ref p),some (.ref q),v6,v7,v8]/\Sx nD (λ i s=>cnt (s+ws.getD i 0) lo w) 0 ws.length U p q aK (rows++[r]) M5 iT,?_,?_⟩
    ·rintro δ' iT ⟨v6,v7,v8,aK,r,rfl,X⟩;exact⟨_,by rw[k9,j0];omega,v6,v7,v8,aK,_,rfl,X,rfl⟩
    ·walk_at "rx";intro pw Aa;have fw:=X.free Aa;have X1:=X.new Aa (.lst []);have HF:ah M' pw (.lst []) pw=some (.lst (([]:Row).map D.int)):=af;generalize ah M' pw (.lst [])=M7 at*;have Rk:=X1.ext _ _ Ex;walk_at "rx";refine qX (ds:=ws.map nD) (λ i δ M8=>∃(v7 v8:Option D) (aK:List Nat) (r:Row),δ=[some (.ref f),some (.int lo),some (.int w),some (.ref mn),some (.ref p),some (.ref q),some (.ref pw),v7,v8]/\Sx nD (λ i s=>cnt (s+ws.getD i 0) lo w) 0 ws.length U p q aK rows M5 M8/\M8 pw=some (.lst (r.map D.int))/\cp (λ i s=>cnt (s+ws.getD i 0) lo w) aK s i r/\aK[rows.length]?=some s) ⟨v7,v8,aK,[],rfl,X1,HF,cp.nil _ _ _,hs⟩ (λ i δ M8 _ h=>?_) (λ i d δ M8 hd h=>?_) (λ δ M8 h=>?_)
     ·obtain⟨_,_,_,_,_,X,_⟩:=h;exact X.ext _ _ Ex
     ·obtain⟨v7,v8,aK,r,rfl,X,hw,hr,hs⟩:=h;rw[m8]at hd;obtain⟨y,hy,rfl⟩:=Option.map_eq_some_iff.mp hd;have Bh:i < ws.length:=(c6.mp hy).1;have ey:ws.getD i 0=y:=by rw[c3,hy];rfl
      have hst:=X.st;have mr:=X.gN;walk_at "rx";rw[w6];refine cZ X.st (d:=.int s) (bY (by rw[m8,hs];rfl)) ?_;walk_at "rx";refine⟨s+y,lo,w,rfl,by omega,dF ?_⟩;have Ic:(0:Nat)<=60:=by decide
      have HG:U.length<=300:=by omega
      have sX:ws.length<=12:=by omega
      with_reducible refine j' dh Ic X HG sX fw hw hr hs Bh (hU i s) ?_ ?_ ?_ (λ eT r' M' X' Ey z_ iR=>?_)
      ·show some (some (D.int (cnt (s+y) lo w:Nat)))=some (some (nD (cnt (s+ws.getD i 0) lo w)));rw[ey]
      ·rfl
      ·rfl
      ·exact⟨_,_,eT,r',rfl,X',Ey,z_,iR⟩
     ·obtain⟨v7,v8,aK,r,rfl,X,hw,hr,hs⟩:=h;rw[w6]at hr;have hfew:=X.dA;have mr:=X.gN;walk_at "rx";refine⟨⟨rfl,_,mr⟩,?_⟩;walk_at "rx";refine bU hw ?_;walk_at "rx";refine fL mr (by rw[w6];exact l6 (show rows.length<=300 by omega) (by decide)) ?_;exact⟨_,_,_,aK,r,rfl,X.next hs hr⟩
   ·have el:rows.length=aK.length:=by have:=X.le;omega
    have TG:=X.ex.tb C True.intro el (by omega) (by omega);have F6:=F5.trans (jm X.ext F5.bC);have Sg:rows.length<=19:=by omega
    walk_at "rx";refine bU mr ?_;walk_at "rx";rw[w6];refine⟨cK (by omega) (by omega),?_⟩;rw[m9];refine md (λ i acc M7=>∃ls:Row,acc=ls.map D.int/\gG i ls/\Fl f cc M M7) ⟨[],rfl,gG.nil 0,F6⟩ (λ i acc M7 hi h=>?_) (λ i d acc M7 hd h=>?_) (λ acc M7 h=>?_)
    ·obtain⟨ls,rfl,L,_⟩:=h;rw[bA]at hi;have:=L.dA;rw[w6];exact small (by omega)
    ·obtain⟨ls,rfl,L,F7⟩:=h;obtain⟨hi,rfl⟩:=cL hd;walk_at "rx";refine⟨f,cc,4,rfl,F7.bC,by decide,by decide,λ d o _ _ xa=>?_⟩;have F8:=F7.trans (Fl.pick xa);generalize ah M7 f o=M8 at*;walk_at "rx";refine aI (λ _=>?_) (λ _=>?_)
     ·walk_at "rx";exact⟨ls++[(i:Int)],by rw[x3,y9];rfl,L.add,F8⟩
     ·exact⟨ls,rfl,L.up,F8⟩
    ·obtain⟨ls,rfl,L,F7⟩:=h;rw[bA]at L;walk_at "rx";exact aB (k _ _ rows ls _ TG Sg (by omega) L F7)
end
def yc:gK:=λ ds M Q=>∃(f c:Addr) (n:Nat),ds=[.ref f,.int n]/\Flow M f c/\n<=6/\∀(m:Nat) (rows:List Row) (ls:Row) (M':Mem),iS m n rows->m<=16->gG m ls->Fl f c M M'->Q (cz rows ls) M'
section
variable {P:Program}{w:World}{K:C0}{mg:Str->Option Value}{base:Heap}
theorem aJ:aR ["_law_flow_here","_law_many","_law_counters","_law_weights","_law_states","_law_rows","_law_row","_law_h","_law_trios","_law_then"] ["_law_flow_here","_law_many"] (aq (top 15)):=⟨rfl,rfl,rfl,by decide+kernel,rfl,by decide+kernel,by decide+kernel⟩
theorem Dn{f:Addr}{fd:FuncData}(F:jH K "_law_any_table" "_law_any_table" (top 15) f fd)(T:mR K mg)(az:dj P w K mg base 1 "_law_pick" ["_law_flow_here","_law_many"] iV)(eu:dj P w K mg base 1 "_law_counted" ["_law_value","_law_low","_law_wide"] yb):cu P w K mg base fh 2 f fd ["_law_flow_here","_law_many"] (cW K yc):=by
 refine qE F aJ (λ ds M Q h=>?_) (λ dD A outer s H E ds M Q hr h=>?_)
 ·obtain⟨f,c,n,rfl,_⟩:=h;rfl
 ·obtain⟨f,cc,n,rfl,hF,hn,k⟩:=h;refine⟨_,(ae (aD (i:=2) aJ.nd rfl (Or.inr rfl) (cx (aa (cR (aa (aS az (hr.mono (by decide)) (by rfl) (aa (au 0) (aa ai ab))) (aa (bz br ai (aS az (hr.mono (by decide)) (by rfl) (aa (au 0) (aa ai ab)))) ab))) ab)))
 (ae (cw (aM (cM hr.units) (aS az (hr.mono (by decide)) (by rfl) (aa (au 0) (aa ai ab))) ai (aH _))
 (ao (aD (i:=2) aJ.nd rfl (Or.inr rfl) (kQ (tgs:=["_law_k"]) (fr:=[0]) ⟨cb (by kernel_rfl),rfl,(λ _ _ h=>h),(bt rfl T.range (aa ai ab)),(bI (λ _ _ _ _ _=>(bc (i:=0) (show(["_law_k","_law_flow_here"]:List Str).Nodup by decide+kernel) rfl (Or.inl rfl))) (by decide)),(λ _ _ _ _ _=>cg),(λ _ _ _ _ _=>(cR (aa (aS az (hr.mono (by decide)) (by rfl) (aa (au 1) (aa ai ab))) (aa (bz br ai (aS az (hr.mono (by decide)) (by rfl) (aa (au 1) (aa ai ab)))) ab))))⟩)))
 bh)
 (ae (cJ (i:=3) aJ.nd rfl (Or.inl rfl) (tgs:=["_law_h"]) (fr:=[0,2]) ⟨cb (by kernel_rfl),rfl,(λ _ _ h=>h),(bt rfl T.range (aa (au 1) ab)),(bI (λ _ _ _ _ _=>(bc (i:=0) (show(["_law_h","_law_flow_here","_law_counters"]:List Str).Nodup by decide+kernel) rfl (Or.inl rfl))) (by decide)),(λ _ _ _ _ _=>cg),(λ _ _ _ _ _=>(kQ (tgs:=["_law_counter"]) (fr:=[1]) ⟨cb (by kernel_rfl),rfl,(λ _ _ h=>h),(dS (au 2)),(bI (λ _ _ _ _ _=>(bc (i:=0) (show(["_law_counter","_law_flow_here"]:List Str).Nodup by decide+kernel) rfl (Or.inl rfl))) (by decide)),(λ _ _ _ _ _=>cg),(λ _ _ _ _ _=>(aS az (hr.mono (by decide)) (by rfl) (aa (au 1) (aa ai ab))))⟩))⟩)
 (ae (aD (i:=4) aJ.nd rfl (Or.inl rfl) (cx (aa (bz fO (cR (aa ai ab)) (ay bV (by rfl) T.len (by decide+kernel) (aa (au 2) ab))) ab)))
 (ae (aD (i:=5) aJ.nd rfl (Or.inl rfl) (cx ab))
 (ae (dQ u7 (aM lI (ay bV (by rfl) T.len (by decide+kernel) (aa (au 5) ab)) (ay bV (by rfl) T.len (by decide+kernel) (aa (au 4) ab)) (aH _))
 (ae (aD (i:=6) aJ.nd rfl (Or.inl rfl) (cx ab))
 (ae (dR u7 rfl (bt rfl T.range (aa (au 1) ab)) (bL (i:=7) aJ.nd rfl (Or.inl rfl))
 (ae (aD (i:=8) aJ.nd rfl (Or.inl rfl) (EV rfl (by rfl) T.list (by rfl) T.zip (aa (a_ aV (au 4) (ay bV (by rfl) T.len (by decide+kernel) (aa (au 5) ab)) (λ _ _=>rfl)) (aa (a_ aV (au 3) (au 7) (λ _ _=>rfl)) (aa (au 2) ab)))))
 (ae (aD (i:=9) aJ.nd rfl (Or.inl rfl) (kN bS eG (by rfl) T.tuple (by decide+kernel) (tgs:=["_law_value","_law_weight","_law_pair"]) (fr:=[]) ⟨cb (by kernel_rfl),rfl,(λ _ _ h=>h),(dS (au 8)),(xH (λ _ _ _ _ _=>(oF rfl (dv (bc (i:=0) (show(["_law_value","_law_weight","_law_pair"]:List Str).Nodup by decide+kernel) rfl (Or.inl rfl)) (dv (bc (i:=1) (show(["_law_value","_law_weight","_law_pair"]:List Str).Nodup by decide+kernel) rfl (Or.inl rfl)) (dv (bc (i:=2) (show(["_law_value","_law_weight","_law_pair"]:List Str).Nodup by decide+kernel) rfl (Or.inl rfl)) kg))))) (by decide) (by decide) (by decide)),(λ _ _ _ _ _=>cg),(λ _ _ _ _ _=>(aS eu (hr.mono (by decide)) (by rfl) (aa (bz br (au 0) (au 1)) (aa (a_ aV (au 2) ai (λ _ _=>rfl)) (aa (a_ aV (au 2) ai (λ _ _=>rfl)) ab)))))⟩))
 (ae (cw (aM (fN hr.units) (au 9) (au 4) rfl)
 (ao (bK (dX g9 c8 g0 bO (au 4) (aa (au 9) ab))))
 bh)
 (ao (bK (dX g9 c8 g0 bO (au 6) (aa (dX g9 PySem.F.slot_list_index PySem.F.type_list_index (gp hr.units) (au 4) (aa (au 9) ab)) ab))))))))
 (ao (bK (dX g9 c8 g0 bO (au 5) (aa (bM bS (by rfl) T.tuple (by decide+kernel) (aa (au 6) ab)) ab)))))))
 (ao (aY (cR (aa (bM bS (by rfl) T.tuple (by decide+kernel) (aa (au 5) ab)) (aa (kN bS eG (by rfl) T.tuple (by decide+kernel) (tgs:=["_law_k"]) (fr:=[0]) ⟨cb (by kernel_rfl),rfl,(λ _ _ h=>h),(bt rfl T.range (aa (ay bV (by rfl) T.len (by decide+kernel) (aa (au 5) ab)) ab)),(bI (λ _ _ _ _ _=>(bc (i:=0) (show(["_law_k","_law_flow_here"]:List Str).Nodup by decide+kernel) rfl (Or.inl rfl))) (by decide)),(λ _ _ _ _ _=>(jW (aM (cM hr.units) (aS az (hr.mono (by decide)) (by rfl) (aa (au 1) (aa ai ab))) ai (aH _)))),(λ _ _ _ _ _=>(au 0))⟩) ab))))))))))),?_⟩
  refine gO (λ δ' M'=>∃(pc:Addr) (cs:List (Nat×Nat)),δ'=[some (.ref f),some (.int n),some (.ref pc),none,none,none,none,none,none,none]/\jI cs/\M' pc=some (.lst (cs.map pD))/\pc≠f/\Fl f cc M M') (λ N hN=>?_) ?_
  ·walk_at "rx";refine⟨f,cc,4,rfl,hF,by decide,by decide,λ d1 o1 Jg K' Ak=>?_⟩;have F1:Fl f cc M _:=Fl.pick Ak;generalize ah M f o1=M1 at*;walk_at "rx";refine⟨f,cc,4,rfl,F1.bC,by decide,by decide,λ d2 o2 OC OB H9=>?_⟩;have F2:=F1.trans (Fl.pick H9);generalize ah M1 f o2=M2 at*;walk_at "rx";intro p hp;refine hN _ _ ⟨p,[(d1.toNat,(1+d2).toNat)],rfl,.inl ⟨_,_,rfl,by omega,by omega,by omega⟩,?_,(F2.bC.ne hp).1,F2.trans (Fl.put F2.bC hp)⟩;rw[af];show _=some (MO.lst [.tup [.int (d1.toNat:Int),.int ((1+d2).toNat:Int)]]);rw[show((d1.toNat:Nat):Int)=d1 by omega,show(((1+d2).toNat:Nat):Int)=1+d2 by omega]
  rintro δ' M' ⟨pc,cs,rfl,hc,pR,fk,F2⟩;refine gO (λ δ' M'=>∃(pc:Addr) (cs:List (Nat×Nat)),δ'=[some (.ref f),some (.int n),some (.ref pc),none,none,none,none,none,none,none]/\jI cs/\M' pc=some (.lst (cs.map pD))/\pc≠f/\Fl f cc M M') (λ N hN=>?_) ?_
  ·walk_at "rx";refine⟨f,cc,2,rfl,F2.bC,by decide,by decide,λ d1 o1 Jg K' Ak=>?_⟩;have P1:=Fl.pick Ak;have F3:=F2.trans P1;have pR:=P1.mv _ _ fk pR;generalize ah M' f o1=M3 at*;walk_at "rx";refine aI (λ _=>?_) (λ _=>?_)
   ·walk_at "rx";refine⟨cK (by omega) (by omega),?_⟩;rw[c_];refine gW pD (λ ys M'=>Fl f cc M M'/\∀y∈ys,y.1<=2/\1<=y.2/\y.2<=2) (by decide) ⟨F3,λ y h=>by cases h⟩ (λ i x ys M' N hx hl hI hN=>?_) (λ cs M4 hl hI=>?_)
    ·walk_at "rx";refine⟨f,cc,3,rfl,hI.1.bC,by decide,by decide,λ d1 o1 Jg K' Ak=>?_⟩;have F4:=hI.1.trans (Fl.pick Ak);generalize ah M' f o1=M5 at*;walk_at "rx";refine⟨f,cc,2,rfl,F4.bC,by decide,by decide,λ d2 o2 OC OB H9=>?_⟩;have F5:=F4.trans (Fl.pick H9);generalize ah M5 f o2=M6 at*;walk_at "rx";have:=hN (d1.toNat,(1+d2).toNat) M6 ⟨F5,λ y hy=>?_⟩
     ·unfold pD at this;dsimp only at this;rw[show((d1.toNat:Nat):Int)=d1 by omega,show(((1+d2).toNat:Nat):Int)=1+d2 by omega]at this;exact this
     ·rcases w9.mp hy with e|e
      ·exact hI.2 y e
      ·rw[l8.mp e];dsimp only;omega
    ·obtain⟨F4,h4⟩:=hI;intro p hp;walk_at "rx";have hl:cs.length=2:=hl;obtain⟨a,b,rfl⟩:∃a b,cs=[a,b]:=by
      match cs,hl with
      |[a,b],_=>exact⟨a,b,rfl⟩
     have ha:=h4 a (by simp);have hb:=h4 b (by simp);exact hN _ _ ⟨p,[a,b],rfl,.inr ⟨_,_,_,_,rfl,ha.1,ha.2.1,ha.2.2,hb.1,hb.2.1,hb.2.2⟩,af,(F4.bC.ne hp).1,F4.trans (Fl.put F4.bC hp)⟩
   ·walk_at "rx";exact hN _ _ ⟨pc,cs,rfl,hc,pR,fk,F3⟩
  clear pR fk F2 hc M' pc cs;rintro δ' M1 ⟨pc,cs,rfl,hc,pR,fk,F1⟩;have Tg:=hc.box;walk_at "rx";refine⟨cK (by omega) (by omega),?_⟩;rw[m9,c_];refine gW (β:=Addr×Cs) (λ y=>.ref y.1) (λ ys M'=>Fl f cc M M'/\M' pc=some (.lst (cs.map pD))/\∀y∈ys,y.1≠f/\M' y.1=some (.lst (y.2.map nD))/\y.2.length=cs.length) (by rw[n9];omega) ⟨F1,pR,λ y h=>by cases h⟩ (λ i x ys M' N hx hl hI hN=>?_) (λ ys M4 hl hI=>?_)
  ·obtain⟨F2,pR,oX⟩:=hI;walk_at "rx";refine rp pD nD (λ zs M'=>Fl f cc M M'/\M' pc=some (.lst (cs.map pD))/\∀y∈ys,y.1≠f/\M' y.1=some (.lst (y.2.map nD))/\y.2.length=cs.length) (by omega) ⟨F2,pR,oX⟩ (λ _ _ h=>h.2.1) (λ i x zs M' N hx hl hI hN=>?_) (λ zs M4 hl hI=>?_)
   ·obtain⟨F3,pR,oX⟩:=hI;walk_at "rx";refine⟨f,cc,3,rfl,F3.bC,by decide,by decide,λ d o h0 h1 xa=>?_⟩;have P:=Fl.pick xa;have:=hN d.toNat _ ⟨F3.trans P,P.mv _ _ fk pR,λ y hy=>⟨(oX y hy).1,P.mv _ _ (oX y hy).1 (oX y hy).2.1,(oX y hy).2.2⟩⟩;unfold nD at this;rw[show((d.toNat:Nat):Int)=d by omega]at this;exact this
   ·obtain⟨F3,pR,oX⟩:=hI;intro p hp;refine hN (p,zs) _ ⟨F3.trans (Fl.put F3.bC hp),by rw[av (bJ pR hp)];exact pR,λ y hy=>?_⟩;rcases w9.mp hy with e|e
    ·have:=oX y e;exact⟨this.1,by rw[av (bJ this.2.1 hp)];exact this.2.1,this.2.2⟩
    ·rw[l8.mp e];exact⟨(F3.bC.ne hp).1,af,hl⟩
  ·obtain⟨F4,pR,oX⟩:=hI;rw[n9]at hl;intro mn sV;have F5:=F4.trans (Fl.put (o:=.lst (ys.map λ y=>.ref y.1)) F4.bC sV);have pR:ah M4 mn (.lst (ys.map λ y=>.ref y.1)) pc=some (.lst (cs.map pD)):=by rw[av (bJ pR sV)];exact pR
   have oX:∀y∈ys,ah M4 mn (.lst (ys.map λ y=>.ref y.1)) y.1=some (.lst (y.2.map nD))/\y.2.length=cs.length:=λ y hy=>⟨by rw[av (bJ (oX y hy).2.1 sV)];exact(oX y hy).2.1,(oX y hy).2.2⟩;have Ex:ah M4 mn (.lst (ys.map λ y=>.ref y.1)) mn=some (.lst (ys.map λ y=>.ref y.1)):=af;generalize ah M4 mn (.lst (ys.map λ y=>.ref y.1))=M5 at*;have el:(ys.map (·.2)).length=n:=by rw[w6];exact hl
   have C:=hc.vq (ws:=ys.map (·.2)) λ w hw=>by obtain⟨y,hy,rfl⟩:=A1.mp hw;exact(oX y hy).2
   rw[el]at C;have hz:fA cs.length∈pG cs:=tT hc.pos;have hU:∀i s,i < n->s.length=cs.length->stC cs ((ys.map (·.2)).getD i []) s∈pG cs:=λ i s hi hs=>ud hc.pos (by rw[c3,m8,c9 (by omega)];exact(oX _ (p8 _)).2) hs;generalize PU:(λ i s=>stC cs ((ys.map (·.2)).getD i []) s)=F at C;walk_at "rx";rw[w6];refine qt (by omega) (by omega) ?_;rw[m9];walk_at "rx";intro p hp;walk_at "rx";intro q hq;have X0:Sx dk F (fA cs.length) n (pG cs) p q [fA cs.length] [] M5 (ah (ah M5 p (.lst [.tup (List.replicate cs.length (.int 0))])) q (.lst [])):=by have iB:p≠q:=bJ (show ah M5 p (.lst [.tup (List.replicate cs.length (.int 0))]) p=some _ from af) hq;refine⟨Ext.new (Ext.new Ext.rfl hp _) hq _,hp,Ext.free (Ext.new Ext.rfl hp _) hq,iB,?_,af,nY.start hz,by simp⟩;rw[av iB,af];show _=some (MO.lst [dk (fA cs.length)]);unfold dk fA;rw[map_replicate];rfl
   generalize ah (ah M5 p (.lst [.tup (List.replicate cs.length (.int 0))])) q (.lst [])=M6 at*;walk_at "rx";refine dU ⟨λ m δ M'=>∃(v6 v7 v8 v9:Option D) (aK:List Cs) (rows:List Row),δ=[some (.ref f),some (.int n),some (.ref pc),some (.ref mn),some (.ref p),some (.ref q),v6,v7,v8,v9]/\Sx dk F (fA cs.length) n (pG cs) p q aK rows M5 M'/\m=20 - rows.length,⟨_,none,none,none,none,_,[],rfl,X0,rfl⟩,?_⟩;rintro m δ M' ⟨v6,v7,v8,v9,aK,rows,rfl,X,rfl⟩;have hfew:=X.dA;have hst:=X.st;have mr:=X.gN;walk_at "rx";rw[w6,w6];refine aI (λ eQ=>?_) (λ DH=>?_)
   ·obtain⟨s,hs⟩:∃s,aK[rows.length]?=some s:=⟨_,c9 (by omega)⟩;have IW:s.length=cs.length:=(X.ex.Cr s (j4 hs)).ok C (by simp[fA]);refine⟨λ δ' iT=>∃(v6 v7 v8 v9:Option D) (aK:List Cs) (r:Row),δ'=[some (.ref f),some (.int n),some (.ref pc),some (.ref mn),some (.ref p),some (.ref q),v6,v7,v8,v9]/\Sx dk F (fA cs.length) n (pG cs) p q aK (rows++[r]) M5 iT,?_,?_⟩
    ·rintro δ' iT ⟨v6,v7,v8,v9,aK,r,rfl,X⟩;exact⟨_,by rw[k9,j0];omega,v6,v7,v8,v9,aK,_,rfl,X,rfl⟩
    ·walk_at "rx";intro pw Aa;have fw:=X.free Aa;have X1:=X.new Aa (.lst []);have HF:ah M' pw (.lst []) pw=some (.lst (([]:Row).map D.int)):=af;generalize ah M' pw (.lst [])=M7 at*;walk_at "rx";refine⟨cK (by omega) (by omega),?_⟩;rw[m9];refine jl (λ i δ M8=>∃(v7 v8 v9:Option D) (aK:List Cs) (r:Row),δ=[some (.ref f),some (.int n),some (.ref pc),some (.ref mn),some (.ref p),some (.ref q),some (.ref pw),v7,v8,v9]/\Sx dk F (fA cs.length) n (pG cs) p q aK rows M5 M8/\M8 pw=some (.lst (r.map D.int))/\cp F aK s i r/\aK[rows.length]?=some s) ⟨v7,v8,v9,aK,[],rfl,X1,HF,cp.nil _ _ _,hs⟩ (λ i d δ M8 hd h=>?_) (λ δ M8 h=>?_)
     ·obtain⟨v7,v8,v9,aK,r,rfl,X,hw,hr,hs⟩:=h;obtain⟨hi,rfl⟩:=cL hd;obtain⟨y,hy⟩:∃y,ys[i]?=some y:=⟨_,c9 (by omega)⟩;have wW:=oX y (j4 hy);have eF:F i s=stC cs y.2 s:=by rw[<- PU];show stC cs ((ys.map (·.2)).getD i []) s=_;rw[c3,m8,hy];rfl
      have K8:F i s∈pG cs:=by rw[<- PU];exact hU i s hi IW
      have tz:=tY (ws:=y.2) (s:=s) wW.2 IW;have hst:=X.st;have mr:=X.gN;walk_at "rx";rw[w6];refine cZ X.st (d:=dk s) (bY (by rw[m8,hs];rfl)) ?_;walk_at "rx";refine cZ (X.ext _ _ Ex) (d:=.ref y.1) (by rw[y9];exact bY (by rw[m8,hy];rfl)) ?_;walk_at "rx";refine⟨dk s,.ref y.1,.ref pc,s.map nD,y.2.map nD,cs.map pD,cs.length,rfl,rfl,dq (X.ext _ _ wW.1),dq (X.ext _ _ pR),by rw[w6];exact IW,by rw[w6];exact wW.2,by rw[w6],by omega,by omega,λ pt Pp=>?_⟩;rw[tz.1];have hw:ah M8 pt (.lst ((rZ cs y.2 s).map xP)) pw=some (.lst (r.map D.int)):=by rw[av (bJ hw Pp)];exact hw
      have X:=X.new Pp (.lst ((rZ cs y.2 s).map xP));have ht:ah M8 pt (.lst ((rZ cs y.2 s).map xP)) pt=some (.lst ((rZ cs y.2 s).map xP)):=af;generalize ah M8 pt (.lst ((rZ cs y.2 s).map xP))=M9 at*;walk_at "rx";have S7:=t_ (cs:=cs) (ws:=y.2) (s:=s);refine nQ xP (λ t=>nD (cnt (t.1+t.2.1) t.2.2.1 t.2.2.2)) (by omega) ht (λ j t N hj hN=>?_) ?_
      ·obtain⟨a,b,lo,w⟩:=t;have hm:=hc.pos _ (tZ (j4 hj));unfold xP pD;walk_at "rx";exact⟨a+b,lo,w,rfl,hm,hN⟩
      ·have e9:(rZ cs y.2 s).map (λ t=>nD (cnt (t.1+t.2.1) t.2.2.1 t.2.2.2))=(F i s).map nD:=by rw[eF,tz.2,List.map_map];rfl
       rw[e9];refine dF ?_;have Ic:(1:Nat)<=60:=by decide
       have HG:(pG cs).length<=300:=by omega
       have sX:n<=12:=by omega
       with_reducible refine j' DP Ic X HG sX fw hw hr hs hi K8 ?_ ?_ ?_ (λ eT r' M' X' Ey z_ iR=>?_)
       ·rfl
       ·rfl
       ·rfl
       ·exact⟨_,_,_,eT,r',rfl,X',Ey,z_,iR⟩
     ·obtain⟨v7,v8,v9,aK,r,rfl,X,hw,hr,hs⟩:=h;rw[bA]at hr;have hfew:=X.dA;have mr:=X.gN;walk_at "rx";refine⟨⟨rfl,_,mr⟩,?_⟩;walk_at "rx";refine bU hw ?_;walk_at "rx";refine fL mr (by rw[w6];exact l6 (show rows.length<=300 by omega) (by decide)) ?_;exact⟨_,_,_,_,aK,r,rfl,X.next hs hr⟩
   ·have el:rows.length=aK.length:=by have:=X.le;omega
    have TG:=X.ex.tb C (by simp[fA]) el (by omega) (by omega);have F6:=F5.trans (jm X.ext F5.bC);have Sh:rows.length<=16:=by omega
    walk_at "rx";refine bU mr ?_;walk_at "rx";rw[w6];refine⟨cK (by omega) (by omega),?_⟩;rw[m9];refine md (λ i acc M7=>∃ls:Row,acc=ls.map D.int/\gG i ls/\Fl f cc M M7) ⟨[],rfl,gG.nil 0,F6⟩ (λ i acc M7 hi h=>?_) (λ i d acc M7 hd h=>?_) (λ acc M7 h=>?_)
    ·obtain⟨ls,rfl,L,_⟩:=h;rw[bA]at hi;have:=L.dA;rw[w6];exact small (by omega)
    ·obtain⟨ls,rfl,L,F7⟩:=h;obtain⟨hi,rfl⟩:=cL hd;walk_at "rx";refine⟨f,cc,2,rfl,F7.bC,by decide,by decide,λ d o _ _ xa=>?_⟩;have F8:=F7.trans (Fl.pick xa);generalize ah M7 f o=M8 at*;walk_at "rx";refine aI (λ _=>?_) (λ _=>?_)
     ·walk_at "rx";exact⟨ls++[(i:Int)],by rw[x3,y9];rfl,L.add,F8⟩
     ·exact⟨ls,rfl,L.up,F8⟩
    ·obtain⟨ls,rfl,L,F7⟩:=h;rw[bA]at L;walk_at "rx";exact aB (k _ rows ls _ TG Sh L F7)
end
def xZ:gK:=λ ds M Q=>∃(a:Addr) (sz:Cs) (l:Str),ds=[.ref a,.str l]/\M a=some (.lst (sz.map nD))/\(∀x∈sz,x < 5)/\sz.length<=6/\∀(m:Nat) (rows:List Row) (ls:Row) (M':Mem),iS m sz.length rows->m<=16->gG m ls->Ext M M'->Q (cz rows ls) M'
section
variable {P:Program}{w:World}{K:C0}{mg:Str->Option Value}{base:Heap}
theorem aN:aR ["_law_sizes","_law_last","_law_states","_law_rows","_law_losing","_law_row","_law_size","_law_number","_law_great","_law_then"] ["_law_sizes","_law_last"] (aq (top 11)):=⟨rfl,rfl,rfl,by decide+kernel,rfl,by decide+kernel,by decide+kernel⟩
theorem Di{f:Addr}{fd:FuncData}(F:jH K "_law_nim_table" "_law_nim_table" (top 11) f fd)(T:mR K mg):cu P w K mg base fh 1 f fd ["_law_sizes","_law_last"] (cW K xZ):=by
 refine qE F aN (λ ds M Q h=>?_) (λ dD A outer s H E ds M Q hr h=>?_)
 ·obtain⟨a,sz,l,rfl,_⟩:=h;rfl
 ·obtain⟨a,sz,l,rfl,ha,h5,h6,k⟩:=h;obtain⟨L,eL,hL⟩:∃L:Nat,(if decide (l=Str.ofString "loses")=true then(1:Int)else 0)=(L:Int)/\L<=1:=by
   by_cases z:l=Str.ofString "loses"
   ·exact⟨1,by simp[z],by omega⟩
   ·exact⟨0,by simp[z],by omega⟩
  have C:=BG (h:=sz.length) hL h5;have hz:((0,0):Nat×Nat)∈AR:=uI.mpr ⟨by decide,by decide⟩;have Mm:AR.length=16:=by decide
  refine⟨_,(ae (aD (i:=2) aN.nd rfl (Or.inl rfl) (cx (aa (cR (aa ai (aa ai ab))) ab)))
 (ae (aD (i:=3) aN.nd rfl (Or.inl rfl) (cx ab))
 (ae (dQ u7 (aM lI (ay bV (by rfl) T.len (by decide+kernel) (aa (au 3) ab)) (ay bV (by rfl) T.len (by decide+kernel) (aa (au 2) ab)) (aH _))
 (ae (ek (a_ aV (au 2) (ay bV (by rfl) T.len (by decide+kernel) (aa (au 3) ab)) (λ _ _=>rfl)) (oi (n:=2) rfl (dm (bL (i:=7) aN.nd rfl (Or.inl rfl)) (dm (bL (i:=8) aN.nd rfl (Or.inl rfl)) jX))))
 (ae (aD (i:=5) aN.nd rfl (Or.inl rfl) (cx ab))
 (ae (dR u7 rfl (dS (au 0)) (bL (i:=6) aN.nd rfl (Or.inl rfl))
 (ae (aD (i:=9) aN.nd rfl (Or.inl rfl) (cR (aa (bz Ko (au 7) (au 6)) (aa (bz fO (ay (Ls rfl) (by rfl) T.max (by decide+kernel) (aa (au 8) (aa (bM pE (by rfl) T.int (by decide+kernel) (aa (gI Ks (au 6) ai (aH _)) ab)) ab))) (bM pE (by rfl) T.int (by decide+kernel) (aa (gI (cM hr.units) (au 1) tW (aH _)) ab))) ab))))
 (ae (cw (aM (fN hr.units) (au 9) (au 2) rfl)
 (ao (bK (dX g9 c8 g0 bO (au 2) (aa (au 9) ab))))
 bh)
 (ao (bK (dX g9 c8 g0 bO (au 5) (aa (dX g9 PySem.F.slot_list_index PySem.F.type_list_index (gp hr.units) (au 2) (aa (au 9) ab)) ab)))))))
 (ao (bK (dX g9 c8 g0 bO (au 3) (aa (bM bS (by rfl) T.tuple (by decide+kernel) (aa (au 5) ab)) ab))))))))
 (ae (cJ (i:=4) aN.nd rfl (Or.inl rfl) (tgs:=["_law_k","_law_state"]) (fr:=[1]) ⟨cb (by kernel_rfl),rfl,(λ _ _ h=>h),(oh rfl T.enumerate (aa (au 2) ab)),(qa (λ _ _ _ _ _=>(oF rfl (dv (bc (i:=0) (show(["_law_k","_law_state","_law_last"]:List Str).Nodup by decide+kernel) rfl (Or.inl rfl)) (dv (bc (i:=1) (show(["_law_k","_law_state","_law_last"]:List Str).Nodup by decide+kernel) rfl (Or.inl rfl)) kg)))) (by decide) (by decide)),(λ _ _ _ _ _=>(jW (aM (cM hr.units) (a_ aV (au 1) ai (λ _ _=>rfl)) (bM pE (by rfl) T.int (by decide+kernel) (aa (w_and (gI (cM hr.units) (au 2) tW (aH _)) (qb (gI (cM hr.units) (a_ aV (au 1) ai (λ _ _=>rfl)) ai (aH _)))) ab)) (aH _)))),(λ _ _ _ _ _=>(au 0))⟩)
 (ao (aY (cR (aa (bM bS (by rfl) T.tuple (by decide+kernel) (aa (au 3) ab)) (aa (bM bS (by rfl) T.tuple (by decide+kernel) (aa (au 4) ab)) ab))))))))),?_⟩
  walk_at "rx";intro p hp;walk_at "rx";intro q hq;have X0:Sx pD (stN L sz) (0,0) sz.length AR p q [(0,0)] [] M (ah (ah M p (.lst [.tup [.int 0,.int 0]])) q (.lst [])):=by have iB:p≠q:=bJ (show ah M p (.lst [.tup [.int 0,.int 0]]) p=some _ from af) hq;refine⟨Ext.new (Ext.new Ext.rfl hp _) hq _,hp,Ext.free (Ext.new Ext.rfl hp _) hq,iB,?_,af,nY.start hz,by simp⟩;rw[av iB,af];rfl
  generalize ah (ah M p (.lst [.tup [.int 0,.int 0]])) q (.lst [])=M6 at*;walk_at "rx";refine dU ⟨λ m δ M'=>∃(v5 v6 v7 v8 v9:Option D) (aK:List (Nat×Nat)) (rows:List Row),δ=[some (.ref a),some (.str l),some (.ref p),some (.ref q),none,v5,v6,v7,v8,v9]/\Sx pD (stN L sz) (0,0) sz.length AR p q aK rows M M'/\m=20 - rows.length,⟨_,none,none,none,none,none,_,[],rfl,X0,rfl⟩,?_⟩;rintro m δ M' ⟨v5,v6,v7,v8,v9,aK,rows,rfl,X,rfl⟩;have hfew:=X.dA;rw[Mm]at hfew;have hst:=X.st;have mr:=X.gN;walk_at "rx";rw[w6,w6];refine aI (λ eQ=>?_) (λ DH=>?_)
  ·obtain⟨s,hs⟩:∃s,aK[rows.length]?=some s:=⟨_,c9 (by omega)⟩;have DE:s∈AR:=X.ex.sub s (j4 hs);refine⟨λ δ' iT=>∃(v5 v6 v7 v8 v9:Option D) (aK:List (Nat×Nat)) (r:Row),δ'=[some (.ref a),some (.str l),some (.ref p),some (.ref q),none,v5,v6,v7,v8,v9]/\Sx pD (stN L sz) (0,0) sz.length AR p q aK (rows++[r]) M iT,?_,?_⟩
   ·rintro δ' iT ⟨v5,v6,v7,v8,v9,aK,r,rfl,X⟩;exact⟨_,by rw[k9,j0];omega,v5,v6,v7,v8,v9,aK,_,rfl,X,rfl⟩
   ·walk_at "rx";rw[w6];refine cZ X.st (d:=.tup [.int (s.1:Int),.int (s.2:Int)]) (bY (by rw[m8,hs];rfl)) ?_;walk_at "rx";intro pw Aa;have fw:=X.free Aa;have X1:=X.new Aa (.lst []);have HF:ah M' pw (.lst []) pw=some (.lst (([]:Row).map D.int)):=af;generalize ah M' pw (.lst [])=M7 at*;have Mp:=X1.ext _ _ ha;walk_at "rx";refine qX (ds:=sz.map nD) (λ i δ M8=>∃(v6 v9:Option D) (aK:List (Nat×Nat)) (r:Row),δ=[some (.ref a),some (.str l),some (.ref p),some (.ref q),none,some (.ref pw),v6,some (.int (s.1:Int)),some (.int (s.2:Int)),v9]/\Sx pD (stN L sz) (0,0) sz.length AR p q aK rows M M8/\M8 pw=some (.lst (r.map D.int))/\cp (stN L sz) aK s i r/\aK[rows.length]?=some s) ⟨v6,v9,aK,[],rfl,X1,HF,cp.nil _ _ _,hs⟩ (λ i δ M8 _ h=>?_) (λ i d δ M8 hd h=>?_) (λ δ M8 h=>?_)
    ·obtain⟨_,_,_,_,_,X,_⟩:=h;exact X.ext _ _ ha
    ·obtain⟨v6,v9,aK,r,rfl,X,hw,hr,hs⟩:=h;rw[m8]at hd;obtain⟨y,hy,rfl⟩:=Option.map_eq_some_iff.mp hd;have Bh:i < sz.length:=(c6.mp hy).1;have ey:sz.getD i 0=y:=by rw[c3,hy];rfl
     have e1:max (s.2:Int) (if decide (1 < (y:Int))=true then 1 else 0)=((max s.2 (if 1 < y then 1 else 0):Nat):Int):=by
      by_cases z:1 < y
      ·rw[B8 z,B8 (by rw[decide_eq_true_iff];omega)];omega
      ·rw[B9 z,B9 (by rw[decide_eq_true_iff];omega)];omega
     walk_at "rx";rw[e1];rw[show(if decide (l="loses")=true then(1:Int)else 0)=(L:Int)from eL];have h0:((max s.2 (if 1 < y then 1 else 0):Nat):Int)*(L:Int)=((max s.2 (if 1 < y then 1 else 0)*L:Nat):Int):=by rw[Int.natCast_mul]
     refine lE (AK (by omega) (by omega)) ?_;rw[h0,tP];refine iZ ⟨by show 2<=sizeLine;decide,dF ?_⟩;have Ic:(1:Nat)<=60:=by decide
     have HG:AR.length<=300:=by rw[Mm];decide
     have sX:sz.length<=12:=by omega
     have K8:=C.cl s i Bh DE
     with_reducible refine j' Ax Ic X HG sX fw hw hr hs Bh K8 ?_ ?_ ?_ (λ eT r' M' X' Ey z_ iR=>?_)
     ·show some (some (pD (s.1^^^y,max s.2 (if 1 < y then 1 else 0)*L)))=some (some (pD (stN L sz i s)));unfold stN;rw[ey]
     ·rfl
     ·rfl
     ·exact⟨_,_,eT,r',rfl,X',Ey,z_,iR⟩
    ·obtain⟨v6,v9,aK,r,rfl,X,hw,hr,hs⟩:=h;rw[w6]at hr;have hfew:=X.dA;rw[Mm]at hfew;have mr:=X.gN;walk_at "rx";refine⟨⟨rfl,_,mr⟩,?_⟩;walk_at "rx";refine bU hw ?_;walk_at "rx";refine fL mr (by rw[w6];exact l6 (show rows.length<=300 by omega) (by decide)) ?_;exact⟨_,_,_,_,_,aK,r,rfl,X.next hs hr⟩
  ·have el:rows.length=aK.length:=by have:=X.le;omega
   have TG:=X.ex.tb C hz el (by omega) (by omega);walk_at "rx";refine AL (ds:=eK (aK.map pD)) (λ i acc M7=>M7=M'/\∃ls:Row,acc=ls.map D.int/\gG i ls) ⟨rfl,[],rfl,gG.nil 0⟩ (λ i acc M7 _ h=>?_) (λ i acc M7 hi h=>?_) (λ i d acc M7 hd h=>?_) (λ acc M7 h=>?_)
   ·obtain⟨rfl,_⟩:=h;show gJ (.ref p) M7=_;unfold gJ;rw[dq hst];rfl
   ·obtain⟨rfl,ls,rfl,L⟩:=h;rw[dg,w6]at hi;have:=L.dA;rw[w6];exact small (by omega)
   ·obtain⟨rfl,ls,rfl,L⟩:=h;obtain⟨hi,rfl⟩:=o_ hd;rw[w6]at hi;obtain⟨x,hx⟩:∃x,aK[i]?=some x:=⟨_,c9 hi⟩;rw[show(aK.map pD).getD i .bf=.tup [.int (x.1:Int),.int (x.2:Int)] by rw[c3,m8,hx];rfl];have y1:∃zE:Row,ls.map D.int++[.int (i:Int)]=zE.map D.int/\gG (i+1) zE:=⟨ls++[(i:Int)],by rw[x3];rfl,L.add⟩;have y2:∃zE:Row,ls.map D.int=zE.map D.int/\gG (i+1) zE:=⟨ls,rfl,L.up⟩;walk_at "rx";refine aI (λ _=>?_) (λ _=>?_)
    ·walk_at "rx";refine aI (λ _=>?_) (λ _=>?_)
     ·walk_at "rx";exact⟨rfl,y1⟩
     ·exact⟨rfl,y2⟩
    ·walk_at "rx";refine aI (λ _=>?_) (λ _=>?_)
     ·walk_at "rx";exact⟨rfl,y1⟩
     ·exact⟨rfl,y2⟩
   ·obtain⟨rfl,ls,rfl,L⟩:=h;rw[dg,w6]at L;intro pl hpl;walk_at "rx";refine bU (by rw[av (bJ mr hpl)];exact mr) ?_;walk_at "rx";refine bU af ?_;walk_at "rx";exact aB (k _ rows ls _ TG (by omega) (by rw[el];exact L) (X.ext.new hpl _))
end
def uk:gK:=λ ds M Q=>∃(f c:Addr) (m h:Nat) (rows:List Row) (ls:Row),ds=[.ref f,cz rows ls]/\Flow M f c/\iS m h rows/\m<=6/\h<=3/\(∀(m:Nat) (rows:List Row) (ls:Row) (M':Mem),iS m h rows->m<=18->gG m ls->Fl f c M M'->Q (cz rows ls) M')
theorem Fs{m h:Nat}{rows:List Row}(G:Tb m h rows):gE (rows.map row) 0=some (.tup ((rows.getD 0 []).map D.int))/\(rows.getD 0 []).length=h:=by
 have h0:0 < rows.length:=by rw[G.len];exact G.pos
 rw[c3,c9 h0];exact⟨bY (j:=0) (by rw[m8,c9 h0];rfl),(G.row _ (p8 h0)).1⟩
section
variable {P:Program}{w:World}{K:C0}{mg:Str->Option Value}{base:Heap}
theorem ba:aR ["_law_flow_here","_law_table_here","_law_many","_law_wide","_law_weights","_law_states","_law_rows","_law_row","_law_h","_law_thing","_law_count","_law_then"] ["_law_flow_here","_law_table_here"] (aq (top 12)):=⟨rfl,rfl,rfl,by decide+kernel,rfl,by decide+kernel,by decide+kernel⟩
theorem zm{f:Addr}{fd:FuncData}(F:jH K "_law_blown" "_law_blown" (top 12) f fd)(T:mR K mg)(az:dj P w K mg base 1 "_law_pick" ["_law_flow_here","_law_many"] iV):cu P w K mg base fh 2 f fd ["_law_flow_here","_law_table_here"] (cW K uk):=by
 refine qE F ba (λ ds M Q h=>?_) (λ dD A outer s H E ds M Q hr h=>?_)
 ·obtain⟨f,c,m,h,rows,ls,rfl,_⟩:=h;rfl
 ·obtain⟨f,cc,m,h,eE,E3,rfl,hF,G,hm,hh,k⟩:=h;have Ez:=Fs G.tb;have Af:cz eE E3=.tup [.tup (eE.map row),row E3]:=rfl;rw[Af];refine⟨_,(ae (aD (i:=2) ba.nd rfl (Or.inl rfl) (ay bV (by rfl) T.len (by decide+kernel) (aa (a_ aV (a_ aV (au 1) ai (λ _ _=>rfl)) ai (λ _ _=>rfl)) ab)))
 (ae (aD (i:=3) ba.nd rfl (Or.inr rfl) (bz br ai (aS az (hr.mono (by decide)) (by rfl) (aa (au 0) (aa ai ab)))))
 (ae (cJ (i:=4) ba.nd rfl (Or.inl rfl) (tgs:=["_law_h"]) (fr:=[0,3]) ⟨cb (by kernel_rfl),rfl,(λ _ _ h=>h),(bt rfl T.range (aa (au 2) ab)),(bI (λ _ _ _ _ _=>(bc (i:=0) (show(["_law_h","_law_flow_here","_law_wide"]:List Str).Nodup by decide+kernel) rfl (Or.inl rfl))) (by decide)),(λ _ _ _ _ _=>cg),(λ _ _ _ _ _=>(aS az (hr.mono (by decide)) (by rfl) (aa (au 1) (aa (au 2) ab))))⟩)
 (ae (aD (i:=5) ba.nd rfl (Or.inl rfl) (cx (aa (cR (aa ai (aa ai ab))) ab)))
 (ae (aD (i:=6) ba.nd rfl (Or.inl rfl) (cx ab))
 (ae (dQ u7 (aM lI (ay bV (by rfl) T.len (by decide+kernel) (aa (au 6) ab)) (ay bV (by rfl) T.len (by decide+kernel) (aa (au 5) ab)) (aH _))
 (ae (ek (a_ aV (au 5) (ay bV (by rfl) T.len (by decide+kernel) (aa (au 6) ab)) (λ _ _=>rfl)) (oi (n:=2) rfl (dm (bL (i:=9) ba.nd rfl (Or.inl rfl)) (dm (bL (i:=10) ba.nd rfl (Or.inl rfl)) jX))))
 (ae (aD (i:=7) ba.nd rfl (Or.inl rfl) (cx ab))
 (ae (dR u7 rfl (bt rfl T.range (aa (au 2) ab)) (bL (i:=8) ba.nd rfl (Or.inl rfl))
 (ae (aD (i:=11) ba.nd rfl (Or.inl rfl) (cR (aa (a_ aV (a_ aV (a_ aV (au 1) ai (λ _ _=>rfl)) (au 9) (λ _ _=>rfl)) (au 8) (λ _ _=>rfl)) (aa (bz iu (bz br (au 10) (a_ aV (au 4) (au 8) (λ _ _=>rfl))) (au 3)) ab))))
 (ae (cw (aM (fN hr.units) (au 11) (au 5) rfl)
 (ao (bK (dX g9 c8 g0 bO (au 5) (aa (au 11) ab))))
 bh)
 (ao (bK (dX g9 c8 g0 bO (au 7) (aa (dX g9 PySem.F.slot_list_index PySem.F.type_list_index (gp hr.units) (au 5) (aa (au 11) ab)) ab)))))))
 (ao (bK (dX g9 c8 g0 bO (au 6) (aa (bM bS (by rfl) T.tuple (by decide+kernel) (aa (au 7) ab)) ab))))))))
 (ao (aY (cR (aa (bM bS (by rfl) T.tuple (by decide+kernel) (aa (au 6) ab)) (aa (kN bS eG (by rfl) T.tuple (by decide+kernel) (tgs:=["_law_k","_law_state"]) (fr:=[1]) ⟨cb (by kernel_rfl),rfl,(λ _ _ h=>h),(oh rfl T.enumerate (aa (au 5) ab)),(qa (λ _ _ _ _ _=>(oF rfl (dv (bc (i:=0) (show(["_law_k","_law_state","_law_table_here"]:List Str).Nodup by decide+kernel) rfl (Or.inl rfl)) (dv (bc (i:=1) (show(["_law_k","_law_state","_law_table_here"]:List Str).Nodup by decide+kernel) rfl (Or.inl rfl)) kg)))) (by decide) (by decide)),(λ _ _ _ _ _=>(jW (aM (Kr hr.units) (a_ aV (au 1) ai (λ _ _=>rfl)) (a_ aV (au 2) ai (λ _ _=>rfl)) rfl))),(λ _ _ _ _ _=>(au 0))⟩) ab))))))))))),?_⟩
  walk_at "rx";refine bX Ez.1 ?_;walk_at "rx";rw[w6,Ez.2];refine⟨f,cc,2,rfl,hF,by decide,by decide,λ d1 o1 Jg K' Ak=>?_⟩;have F1:Fl f cc M _:=Fl.pick Ak;generalize ah M f o1=M1 at*;obtain⟨w,ew⟩:∃n:Nat,2+d1=(n:Int):=⟨(2+d1).toNat,by omega⟩;walk_at "rx";rw[ew];refine⟨cK (by omega) (by omega),?_⟩;rw[m9,c_];refine gW nD (λ ys M'=>Fl f cc M M') (by rw[n9];omega) F1 (λ i x ys M' N hx hl hI hN=>?_) (λ ws M4 hl F4=>?_)
  ·walk_at "rx";refine⟨f,cc,w,rfl,hI.bC,by omega,by omega,λ d o h0 h1 xa=>?_⟩;obtain⟨y,rfl⟩:∃n:Nat,d=(n:Int):=⟨d.toNat,by omega⟩;exact hN y _ (hI.trans (Fl.pick xa))
  rw[n9]at hl;intro mn sV;have F5:=F4.trans (Fl.put (o:=.lst (ws.map nD)) F4.bC sV);have Ex:ah M4 mn (.lst (ws.map nD)) mn=some (.lst (ws.map nD)):=af;generalize ah M4 mn (.lst (ws.map nD))=M5 at*;have Pk:0 < w:=by omega
  have C:=BH (ws:=ws) G Pk;have hz:((0,0):Nat×Nat)∈xm m w:=kj.mpr ⟨G.tb.pos,Pk⟩;have Mm:(xm m w).length<=18:=by rw[D5];exact A2 (Nat.mul_le_mul hm (show w<=3 by omega)) (by decide)
  walk_at "rx";intro p hp;walk_at "rx";intro q hq;have X0:Sx pD (IM eE w ws) (0,0) h (xm m w) p q [(0,0)] [] M5 (ah (ah M5 p (.lst [.tup [.int 0,.int 0]])) q (.lst [])):=by have iB:p≠q:=bJ (show ah M5 p (.lst [.tup [.int 0,.int 0]]) p=some _ from af) hq;refine⟨Ext.new (Ext.new Ext.rfl hp _) hq _,hp,Ext.free (Ext.new Ext.rfl hp _) hq,iB,?_,af,nY.start hz,by simp⟩;rw[av iB,af];rfl
  generalize ah (ah M5 p (.lst [.tup [.int 0,.int 0]])) q (.lst [])=M6 at*;walk_at "rx";refine dU ⟨λ m' δ M'=>∃(v7 v8 v9 v10 v11:Option D) (aK:List (Nat×Nat)) (rows:List Row),δ=[some (.ref f),some (.tup [.tup (eE.map row),row E3]),some (.int h),some (.int w),some (.ref mn),some (.ref p),some (.ref q),v7,v8,v9,v10,v11]/\Sx pD (IM eE w ws) (0,0) h (xm m w) p q aK rows M5 M'/\m'=20 - rows.length,⟨_,none,none,none,none,none,_,[],rfl,X0,rfl⟩,?_⟩;rintro m' δ M' ⟨v7,v8,v9,v10,v11,aK,rows,rfl,X,rfl⟩;have hfew:=X.dA;have hst:=X.st;have mr:=X.gN;walk_at "rx";rw[w6,w6];refine aI (λ eQ=>?_) (λ DH=>?_)
  ·obtain⟨s,hs⟩:∃s,aK[rows.length]?=some s:=⟨_,c9 (by omega)⟩;have DE:s∈xm m w:=X.ex.sub s (j4 hs);have HH:=(kj.mp DE).1;refine⟨λ δ' iT=>∃(v7 v8 v9 v10 v11:Option D) (aK:List (Nat×Nat)) (r:Row),δ'=[some (.ref f),some (.tup [.tup (eE.map row),row E3]),some (.int h),some (.int w),some (.ref mn),some (.ref p),some (.ref q),v7,v8,v9,v10,v11]/\Sx pD (IM eE w ws) (0,0) h (xm m w) p q aK (rows++[r]) M5 iT,?_,?_⟩
   ·rintro δ' iT ⟨v7,v8,v9,v10,v11,aK,r,rfl,X⟩;exact⟨_,by rw[k9,j0];omega,v7,v8,v9,v10,v11,aK,_,rfl,X,rfl⟩
   ·walk_at "rx";rw[w6];refine cZ X.st (d:=.tup [.int (s.1:Int),.int (s.2:Int)]) (bY (by rw[m8,hs];rfl)) ?_;walk_at "rx";intro pw Aa;have fw:=X.free Aa;have X1:=X.new Aa (.lst []);have HF:ah M' pw (.lst []) pw=some (.lst (([]:Row).map D.int)):=af;generalize ah M' pw (.lst [])=M7 at*;walk_at "rx";refine⟨cK (by omega) (by omega),?_⟩;rw[m9];refine jl (λ i δ M8=>∃(v8 v11:Option D) (aK:List (Nat×Nat)) (r:Row),δ=[some (.ref f),some (.tup [.tup (eE.map row),row E3]),some (.int h),some (.int w),some (.ref mn),some (.ref p),some (.ref q),some (.ref pw),v8,some (.int (s.1:Int)),some (.int (s.2:Int)),v11]/\Sx pD (IM eE w ws) (0,0) h (xm m w) p q aK rows M5 M8/\M8 pw=some (.lst (r.map D.int))/\cp (IM eE w ws) aK s i r/\aK[rows.length]?=some s) ⟨v8,v11,aK,[],rfl,X1,HF,cp.nil _ _ _,hs⟩ (λ i d δ M8 hd h=>?_) (λ δ M8 h=>?_)
    ·obtain⟨v8,v11,aK,r,rfl,X,hw,hr,hs⟩:=h;obtain⟨hi,rfl⟩:=cL hd;have ta:=r_ G.tb HH hi;walk_at "rx";refine bX (d:=.tup ((eE.getD s.1 []).map D.int)) ta.1 ?_;walk_at "rx";rw[y9];refine bX ta.2 ?_;walk_at "rx";refine cZ (X.ext _ _ Ex) (d:=.int (ws.getD i 0:Nat)) (bY (by rw[m8,c9 (by omega),c3,c9 (by omega)];rfl)) ?_;have NS:(0:Int) < (w:Int):=by omega
     refine qx (lD rfl (yx NS (iZ ⟨by show 2<=sizeLine;decide,dF ?_⟩)));have Ic:(1:Nat)<=60:=by decide
     have HG:(xm m w).length<=300:=by omega
     have sX:h<=12:=by omega
     have K8:=C.cl s i hi DE
     with_reducible refine j' Ax Ic X HG sX fw hw hr hs hi K8 ?_ ?_ ?_ (λ eT r' M' X' Ey z_ iR=>?_)
     ·show some (some (D.tup [.int (dE eE i s.1:Nat),.int (((s.2:Int)+(ws.getD i 0:Nat)) % (w:Int))]))=some (some (D.tup [.int (dE eE i s.1:Nat),.int (((s.2+ws.getD i 0) % w:Nat):Int)]));rw[Int.natCast_emod,Int.natCast_add]
     ·rfl
     ·rfl
     ·exact⟨_,_,eT,r',rfl,X',Ey,z_,iR⟩
    ·obtain⟨v8,v11,aK,r,rfl,X,hw,hr,hs⟩:=h;rw[bA]at hr;have hfew:=X.dA;have mr:=X.gN;walk_at "rx";refine⟨⟨rfl,_,mr⟩,?_⟩;walk_at "rx";refine bU hw ?_;walk_at "rx";refine fL mr (by rw[w6];exact l6 (show rows.length<=300 by omega) (by decide)) ?_;exact⟨_,_,_,_,_,aK,r,rfl,X.next hs hr⟩
  ·have el:rows.length=aK.length:=by have:=X.le;omega
   have TG:=X.ex.tb C hz el (by omega) (by omega);have F6:=F5.trans (jm X.ext F5.bC);walk_at "rx";refine bU mr ?_;walk_at "rx";refine AL (ds:=eK (aK.map pD)) (λ i acc M7=>M7=M'/\∃ls:Row,acc=ls.map D.int/\gG i ls) ⟨rfl,[],rfl,gG.nil 0⟩ (λ i acc M7 _ h=>?_) (λ i acc M7 hi h=>?_) (λ i d acc M7 hd h=>?_) (λ acc M7 h=>?_)
   ·obtain⟨rfl,_⟩:=h;show gJ (.ref p) M7=_;unfold gJ;rw[dq hst];rfl
   ·obtain⟨rfl,ls,rfl,L⟩:=h;rw[dg,w6]at hi;have:=L.dA;rw[w6];exact small (by omega)
   ·obtain⟨rfl,ls,rfl,L⟩:=h;obtain⟨hi,rfl⟩:=o_ hd;rw[w6]at hi;obtain⟨x,hx⟩:∃x,aK[i]?=some x:=⟨_,c9 hi⟩;rw[show(aK.map pD).getD i .bf=.tup [.int (x.1:Int),.int (x.2:Int)] by rw[c3,m8,hx];rfl];have y1:∃zE:Row,ls.map D.int++[.int (i:Int)]=zE.map D.int/\gG (i+1) zE:=⟨ls++[(i:Int)],by rw[x3];rfl,L.add⟩;have y2:∃zE:Row,ls.map D.int=zE.map D.int/\gG (i+1) zE:=⟨ls,rfl,L.up⟩;walk_at "rx";refine Ce (k:=0) (b:=decide ((x.1:Int)∈E3)) (ds:=E3.map D.int) rfl (gP 0 _) (oD λ x _=>gP 0 _) (by decide) (by rw[decide_eq_true_iff];exact(uG (enc:=D.int) (λ a b z=>D.int.inj z) _).symm) ?_;refine aI (λ _=>?_) (λ _=>?_)
    ·walk_at "rx";exact⟨rfl,y1⟩
    ·exact⟨rfl,y2⟩
   ·obtain⟨rfl,ls,rfl,L⟩:=h;rw[dg,w6]at L;walk_at "rx";exact aB (k _ rows ls _ TG (by omega) (by rw[el];exact L) F6)
end
def xY:gK:=λ ds M Q=>∃(f c a:Addr) (ns:List Nat),ds=[.ref f,.ref a]/\Flow M f c/\M a=some (.lst (ns.map nD))/\ns.length<=300/\∀(p:Addr) (gQ:List Nat) (M':Mem),gQ.Perm ns->M p=none->M' p=some (.lst (gQ.map nD))->Fl f c M M'->Q (.ref p) M'
def Ej:gK:=λ ds M Q=>∃(f c:Addr) (m h:Nat) (rows:List Row) (ls:Row),ds=[.ref f,cz rows ls]/\Flow M f c/\iS m h rows/\m<=60/\gG m ls/\∀(rows:List Row) (ls:Row) (M':Mem),iS m h rows->gG m ls->Fl f c M M'->Q (cz rows ls) M'
section
variable {P:Program}{w:World}{K:C0}{mg:Str->Option Value}{base:Heap}
theorem dB:aR ["_law_flow_here","_law_things","_law_left","_law_told"] ["_law_flow_here","_law_things"] (aq (top 9)):=⟨rfl,rfl,rfl,by decide+kernel,rfl,by decide+kernel,by decide+kernel⟩
theorem Dg{f:Addr}{fd:FuncData}(F:jH K "_law_shuffled" "_law_shuffled" (top 9) f fd)(T:mR K mg)(az:dj P w K mg base 1 "_law_pick" ["_law_flow_here","_law_many"] iV):cu P w K mg base fh 2 f fd ["_law_flow_here","_law_things"] (cW K xY):=by
 refine qE F dB (λ ds M Q h=>?_) (λ dD A outer s H E ds M Q hr h=>?_)
 ·obtain⟨f,c,a,ns,rfl,_⟩:=h;rfl
 ·obtain⟨f,cc,a,ns,rfl,hF,ha,hl,k⟩:=h;refine⟨_,(ae (aD (i:=2) dB.nd rfl (Or.inl rfl) (bM AO (by rfl) T.list (by decide+kernel) (aa (au 1) ab)))
 (ae (aD (i:=3) dB.nd rfl (Or.inl rfl) (cx ab))
 (ae (dQ u7 (aM (zr hr.units) (au 2) (cx ab) (aH _))
 (ao (bK (dX g9 c8 g0 bO (au 3) (aa (dX g9 PySem.F.slot_list_pop PySem.F.type_list_pop Kx (au 2) (aa (aS az (hr.mono (by decide)) (by rfl) (aa (au 0) (aa (ay bV (by rfl) T.len (by decide+kernel) (aa (au 2) ab)) ab))) ab)) ab)))))
 (ao (aY (au 3)))))),?_⟩
  walk_at "rx";refine yy ha λ p hp=>?_;walk_at "rx";intro q hq;have iB:p≠q:=bJ (show ah M p (.lst (ns.map nD)) p=some _ from af) hq;have KL:M q=none:=Ext.free (Ext.new Ext.rfl hp _) hq;have pf:=(hF.ne hp).1;have qf:=(hF.ne KL).1;have F0:Fl f cc M (ah (ah M p (.lst (ns.map nD))) q (.lst [])):=jm (Ext.new (Ext.new Ext.rfl hp _) hq _) hF;have h1:ah (ah M p (.lst (ns.map nD))) q (.lst []) p=some (.lst (ns.map nD)):=by rw[av iB,af]
  have h2:ah (ah M p (.lst (ns.map nD))) q (.lst []) q=some (.lst (([]:List Nat).map nD)):=af;generalize ah (ah M p (.lst (ns.map nD))) q (.lst [])=M2 at*;walk_at "rx";refine dU ⟨λ m δ M'=>∃(xs ys:List Nat),δ=[some (.ref f),some (.ref a),some (.ref p),some (.ref q)]/\M' p=some (.lst (xs.map nD))/\M' q=some (.lst (ys.map nD))/\(ys++xs).Perm ns/\Fl f cc M M'/\m=xs.length,⟨_,ns,[],rfl,h1,h2,.refl _,F0,rfl⟩,?_⟩;rintro m δ M' ⟨xs,ys,rfl,h1,h2,nG,F1,rfl⟩;have hlen:=nG.length_eq;rw[k9]at hlen;walk_at "rx";intro e he;refine BY (k:=0) (b:=decide (xs=[])) (by rw[av (bJ h1 he)];exact h1) af (oD λ x _=>gP 0 _) (λ e he=>by cases he) (by decide) (Hi (by rw[decide_eq_true_iff])) ?_;have h1:ah M' e (.lst []) p=some (.lst (xs.map nD)):=by rw[av (bJ h1 he)];exact h1
  have h2:ah M' e (.lst []) q=some (.lst (ys.map nD)):=by rw[av (bJ h2 he)];exact h2
  have F1:=F1.trans (Fl.put (o:=.lst []) F1.bC he);generalize ah M' e (.lst [])=M3 at*;refine uw (λ hn=>?_) (λ hn=>?_)
  ·have hn:xs≠[]:=by simpa using hn
   have KO:0 < xs.length:=length_pos_iff.mpr hn;refine⟨λ δ' M'=>∃(Ed LL:List Nat),δ'=[some (.ref f),some (.ref a),some (.ref p),some (.ref q)]/\M' p=some (.lst (Ed.map nD))/\M' q=some (.lst (LL.map nD))/\(LL++Ed).Perm ns/\Fl f cc M M'/\Ed.length < xs.length,?_,?_⟩
   ·rintro δ' M' ⟨Ed,LL,rfl,a1,a2,a3,a4,a5⟩;exact⟨_,a5,Ed,LL,rfl,a1,a2,a3,a4,rfl⟩
   ·walk_at "rx";refine⟨⟨rfl,_,h2⟩,?_⟩;walk_at "rx";refine⟨⟨rfl,_,h1⟩,?_⟩;walk_at "rx";rw[w6];refine⟨f,cc,xs.length,rfl,F1.bC,by omega,by omega,λ d o h0 Jg xa=>?_⟩;have P:=Fl.pick xa;have F2:=F1.trans P;have h1:=P.mv _ _ pf h1;have h2:=P.mv _ _ qf h2;generalize ah M3 f o=M4 at*;obtain⟨j,rfl⟩:∃n:Nat,d=(n:Int):=⟨d.toNat,by omega⟩;have hj:j < xs.length:=by omega
    walk_at "rx";refine yt h1 (y:=nD xs[j]) (by rw[m8,c9 hj];rfl) (by rw[w6];omega) ?_;walk_at "rx";refine fL (ds:=ys.map nD) (by rw[av (B7 iB)];exact h2) (by rw[w6];exact l6 (show ys.length<=300 by omega) (by decide)) ?_;refine⟨xs.eraseIdx j,ys++[xs[j]],rfl,?_,?_,?_,(F2.own hF hp).own hF KL,?_⟩
    ·rw[av iB,af,uJ]
    ·rw[af,x3];rfl
    ·refine List.Perm.trans ?_ nG;rw[append_assoc];refine List.Perm.append_left _ ?_;exact qC hj
    ·rw[length_eraseIdx_of_lt hj];omega
  ·have hn:xs=[]:=by simpa using hn
   subst hn;rw[q9]at nG;walk_at "rx";exact aB (k q ys _ nG KL h2 F1)
theorem cS:aR ["_law_flow_here","_law_table_here","_law_order","_law_rows"] ["_law_flow_here","_law_table_here"] (aq (top 13)):=⟨rfl,rfl,rfl,by decide+kernel,rfl,by decide+kernel,by decide+kernel⟩
theorem G8{f:Addr}{fd:FuncData}(F:jH K "_law_renumbered" "_law_renumbered" (top 13) f fd)(T:mR K mg)(l_:dj P w K mg base 2 "_law_shuffled" ["_law_flow_here","_law_things"] xY):cu P w K mg base fh 3 f fd ["_law_flow_here","_law_table_here"] (cW K Ej):=by
 refine qE F cS (λ ds M Q h=>?_) (λ dD A outer s H E ds M Q hr h=>?_)
 ·obtain⟨f,c,m,h,rows,ls,rfl,_⟩:=h;rfl
 ·obtain⟨f,cc,m,h,rows,ls,rfl,hF,G,hm,L,k⟩:=h;have Af:cz rows ls=.tup [.tup (rows.map row),row ls]:=rfl;rw[Af];have Bg:=G.tb.len;have KO:=G.tb.pos;refine⟨_,(ae (aD (i:=2) cS.nd rfl (Or.inr rfl) (bz br (cx (aa ai ab)) (aS l_ (hr.mono (by decide)) (by rfl) (aa (au 0) (aa (EW rfl (by rfl) T.list (by rfl) T.range (aa ai (aa (ay bV (by rfl) T.len (by decide+kernel) (aa (a_ aV (au 1) ai (λ _ _=>rfl)) ab)) ab))) ab)))))
 (ae (cJ (i:=3) cS.nd rfl (Or.inl rfl) (tgs:=["_law_x"]) (fr:=[2,1]) ⟨cb (by kernel_rfl),rfl,(λ _ _ h=>h),(dS (au 2)),(bI (λ _ _ _ _ _=>(bc (i:=0) (show(["_law_x","_law_order","_law_table_here"]:List Str).Nodup by decide+kernel) rfl (Or.inl rfl))) (by decide)),(λ _ _ _ _ _=>cg),(λ _ _ _ _ _=>(kN bS eG (by rfl) T.tuple (by decide+kernel) (tgs:=["_law_y"]) (fr:=[1]) ⟨cb (by kernel_rfl),rfl,(λ _ _ h=>h),(dS (a_ aV (a_ aV (au 2) ai (λ _ _=>rfl)) (au 0) (λ _ _=>rfl))),(bI (λ _ _ _ _ _=>(bc (i:=0) (show(["_law_y","_law_order"]:List Str).Nodup by decide+kernel) rfl (Or.inl rfl))) (by decide)),(λ _ _ _ _ _=>cg),(λ _ _ _ _ _=>(dX g9 PySem.F.slot_list_index PySem.F.type_list_index (gp hr.units) (au 1) (aa (au 0) ab)))⟩))⟩)
 (ao (aY (cR (aa (bM bS (by rfl) T.tuple (by decide+kernel) (aa (au 3) ab)) (aa (bM bS (by rfl) T.tuple (by decide+kernel) (aa (ay (D4 rfl) (by rfl) T.sorted (by decide+kernel) (aa (kQ (tgs:=["_law_x"]) (fr:=[2]) ⟨cb (by kernel_rfl),rfl,(λ _ _ h=>h),(dS (a_ aV (au 1) ai (λ _ _=>rfl))),(bI (λ _ _ _ _ _=>(bc (i:=0) (show(["_law_x","_law_order"]:List Str).Nodup by decide+kernel) rfl (Or.inl rfl))) (by decide)),(λ _ _ _ _ _=>cg),(λ _ _ _ _ _=>(dX g9 PySem.F.slot_list_index PySem.F.type_list_index (gp hr.units) (au 1) (aa (au 0) ab)))⟩) ab)) ab)) ab))))))),?_⟩
  walk_at "rx";intro p0 HK;have F0:=Fl.put (o:=.lst [.int 0]) hF HK;have h0:ah M p0 (.lst [.int 0]) p0=some (.lst [.int 0]):=af;have n0:=(hF.ne HK).1;generalize ah M p0 (.lst [.int 0])=M0 at*;walk_at "rx";rw[w6,Bg];refine⟨1,(m:Int),rfl,⟨by omega,by omega⟩,⟨by omega,by omega⟩,by omega,λ p1 mF=>?_⟩;have e1:cF 1 ((m:Int) - 1).toNat=((List.range (m - 1)).map (·+1)).map nD:=by unfold cF;rw[List.map_map,show((m:Int) - 1).toNat=m - 1 by omega];refine map_congr_left λ x _=>?_;show D.int (1+(x:Int))=D.int ((x+1:Nat):Int);rw[show(1:Int)+(x:Int)=((x+1:Nat):Int) by omega]
  rw[e1];have F1:=F0.trans (Fl.put (o:=.lst (((List.range (m - 1)).map (·+1)).map nD)) F0.bC mF);have h0:ah M0 p1 (.lst (((List.range (m - 1)).map (·+1)).map nD)) p0=some (.lst [.int 0]):=by rw[av (bJ h0 mF)];exact h0
  have h1:ah M0 p1 (.lst (((List.range (m - 1)).map (·+1)).map nD)) p1=some (.lst (((List.range (m - 1)).map (·+1)).map nD)):=af;generalize ah M0 p1 (.lst (((List.range (m - 1)).map (·+1)).map nD))=M1 at*;refine⟨f,cc,p1,_,rfl,F1.bC,h1,by simp;omega,λ p2 ns M2 nG eB h2 F2=>?_⟩;have F3:=F1.trans F2;have h0:=F2.mv _ _ n0 h0;have sW:=zg KO nG;have hz:(0::ns)[0]?=some 0:=rfl;have NZ:(0::ns).length=m:=by rw[sW.length_eq,n9]
  refine qw h0 h2 (by rw[w6];rw[p5]at NZ;exact small (by show 1+ns.length<=10000;omega)) λ po Rz=>?_;have e2:[D.int 0]++ns.map nD=(0::ns).map nD:=rfl;rw[e2];generalize 0::ns=ord at*;have F4:=F3.trans (Fl.put (o:=.lst (ord.map nD)) F3.bC Rz);have ho:ah M2 po (.lst (ord.map nD)) po=some (.lst (ord.map nD)):=af;generalize ah M2 po (.lst (ord.map nD))=M3 at*;have Pt:∀x∈ord,x < m:=λ x hx=>mem_range.mp (sW.mem_iff.mp hx);walk_at "rx";refine nQ nD (λ x=>row (dC ord (rows.getD x []))) (by omega) ho (λ i x N hx hN=>?_) ?_
  ·have Pj:=Pt x (j4 hx);have sT:x < rows.length:=by omega
   have Rr:gE (rows.map row) (x:Int)=some (.tup ((rows.getD x []).map D.int)):=bY (by rw[m8,c9 sT,c3,c9 sT];rfl);have Rt:(rows.getD x []).length=h/\∀y∈rows.getD x [],0<=y/\y < (m:Int):=by rw[c3,c9 sT];exact G.tb.row _ (p8 sT)
   have:=G.tb.DM;walk_at "rx";refine bX Rr ?_;walk_at "rx";refine pk (enc:=D.int) (λ y=>.int (ord.idxOf y.toNat:Nat)) (by omega) (λ j y N hy hN=>?_) ?_
   ·have wW:=Rt.2 y (j4 hy);walk_at "rx";refine⟨⟨rfl,_,ho⟩,?_⟩;walk_at "rx";rw[show D.int y=nD y.toNat by show _=D.int (y.toNat:Int);rw[show((y.toNat:Nat):Int)=y by omega]];refine lF nD dh.inj ho (sW.mem_iff.mpr (mem_range.mpr (by omega))) dh.pl (by decide) ?_;exact hN
   ·walk_at "rx";have e3:(rows.getD x []).map (λ y=>D.int (ord.idxOf y.toNat:Nat))=(dC ord (rows.getD x [])).map D.int:=by unfold dC;rw[List.map_map];rfl
    rw[e3];exact hN
  ·intro pr Md;have F5:=F4.trans (Fl.put (o:=.lst (ord.map λ x=>row (dC ord (rows.getD x [])))) F4.bC Md);have ho:ah M3 pr (.lst (ord.map λ x=>row (dC ord (rows.getD x [])))) po=some (.lst (ord.map nD)):=by rw[av (bJ ho Md)];exact ho
   have e4:(ord.map λ x=>row (dC ord (rows.getD x [])))=(ord.map λ x=>dC ord (rows.getD x [])).map row:=by rw[List.map_map];rfl
   have HI:ah M3 pr (.lst (ord.map λ x=>row (dC ord (rows.getD x [])))) pr=some (.lst ((ord.map λ x=>dC ord (rows.getD x [])).map row)):=by rw[af,e4]
   generalize ah M3 pr (.lst (ord.map λ x=>row (dC ord (rows.getD x []))))=M4 at*;have TG:iS m h (ord.map λ x=>dC ord (rows.getD x [])):=JH G sW hz (by rw[w6];exact NZ) λ d r hd=>by rw[m8]at hd;obtain⟨x,hx,rfl⟩:=Option.map_eq_some_iff.mp hd;exact⟨x,hx,BO G sW (Pt x (j4 hx))⟩
   generalize(ord.map λ x=>dC ord (rows.getD x []))=nv at*;have Td:=L.dA;walk_at "rx";refine bU HI ?_;walk_at "rx";refine pk (enc:=D.int) (λ y=>.int (ord.idxOf y.toNat:Nat)) (by omega) (λ j y N hy hN=>?_) ?_
   ·have wW:=L.2 y (j4 hy);walk_at "rx";refine⟨⟨rfl,_,ho⟩,?_⟩;walk_at "rx";rw[show D.int y=nD y.toNat by show _=D.int (y.toNat:Int);rw[show((y.toNat:Nat):Int)=y by omega]];refine lF nD dh.inj ho (sW.mem_iff.mpr (mem_range.mpr (by omega))) dh.pl (by decide) ?_;exact hN
   ·intro pl hpl;have e5:ls.map (λ y=>D.int (ord.idxOf y.toNat:Nat))=(dC ord ls).map D.int:=by unfold dC;rw[List.map_map];rfl
    rw[e5];have F6:=F5.trans (Fl.put (o:=.lst ((dC ord ls).map D.int)) F5.bC hpl);have h6:ah M4 pl (.lst ((dC ord ls).map D.int)) pl=some (.lst ((dC ord ls).map D.int)):=af;generalize ah M4 pl (.lst ((dC ord ls).map D.int))=M5 at*;walk_at "rx";refine we (dC ord ls) h6 (by unfold dC;rw[w6];omega) λ xs ps Ri NQ Mc=>?_;walk_at "rx";refine bU af ?_;walk_at "rx";exact aB (k nv xs _ TG (yp sW L Ri NQ) (F6.trans (Fl.put F6.bC Mc)))
end
section
variable {P:Program}{w:World}{K:C0}{mg:Str->Option Value}{base:Heap}
theorem bN:aR ["_law_flow_here","_law_many","_law_table_here","_law_sizes"] ["_law_flow_here"] (aq (top 17)):=⟨rfl,rfl,rfl,by decide+kernel,rfl,by decide+kernel,by decide+kernel⟩
theorem zi{f:Addr}{fd:FuncData}(F:jH K "_law_table" "_law_table" (top 17) f fd)(T:mR K mg)(az:dj P w K mg base 1 "_law_pick" ["_law_flow_here","_law_many"] iV)(jv:dj P w K mg base 2 "_law_long_table" ["_law_flow_here"] (ug 19 2))(jP:dj P w K mg base 2 "_law_any_table" ["_law_flow_here","_law_many"] yc)(jO:dj P w K mg base 1 "_law_nim_table" ["_law_sizes","_law_last"] xZ)(rk:dj P w K mg base 2 "_law_blown" ["_law_flow_here","_law_table_here"] uk)(ju:dj P w K mg base 3 "_law_renumbered" ["_law_flow_here","_law_table_here"] Ej):cu P w K mg base fh 4 f fd ["_law_flow_here"] (cW K (ug 19 6)):=by
 refine qE F bN (λ ds M Q h=>?_) (λ dD A outer s H E ds M Q hr h=>?_)
 ·obtain⟨f,c,rfl,_⟩:=h;rfl
 ·obtain⟨f,cc,rfl,hF,k⟩:=h;refine⟨_,(ae (cw (aM (cM hr.units) (aS az (hr.mono (by decide)) (by rfl) (aa (au 0) (aa ai ab))) ai (aH _))
 (ao (aY (aS jv (hr.mono (by decide)) (by rfl) (aa (au 0) ab))))
 bh)
 (ae (aD (i:=1) bN.nd rfl (Or.inl rfl) (aS az (hr.mono (by decide)) (by rfl) (aa (au 0) (aa ai ab))))
 (ae (cw (aM (cM hr.units) (aS az (hr.mono (by decide)) (by rfl) (aa (au 0) (aa ai ab))) ai (aH _))
 (ao (aD (i:=1) bN.nd rfl (Or.inl rfl) (aS az (hr.mono (by decide)) (by rfl) (aa (au 0) (aa ai ab)))))
 bh)
 (ae (aD (i:=2) bN.nd rfl (Or.inl rfl) (aS jP (hr.mono (by decide)) (by rfl) (aa (au 0) (aa (au 1) ab))))
 (ae (cw (aM (cM hr.units) (aS az (hr.mono (by decide)) (by rfl) (aa (au 0) (aa ai ab))) ai (aH _))
 (ae (cJ (i:=3) bN.nd rfl (Or.inl rfl) (tgs:=["_law_h"]) (fr:=[0]) ⟨cb (by kernel_rfl),rfl,(λ _ _ h=>h),(bt rfl T.range (aa (au 1) ab)),(bI (λ _ _ _ _ _=>(bc (i:=0) (show(["_law_h","_law_flow_here"]:List Str).Nodup by decide+kernel) rfl (Or.inl rfl))) (by decide)),(λ _ _ _ _ _=>cg),(λ _ _ _ _ _=>(aS az (hr.mono (by decide)) (by rfl) (aa (au 1) (aa ai ab))))⟩)
 (ao (aD (i:=2) bN.nd rfl (Or.inl rfl) (aS jO (hr.mono (by decide)) (by rfl) (aa (au 3) (aa (a_ aV (cx (aa tW (aa tW ab))) (aS az (hr.mono (by decide)) (by rfl) (aa (au 0) (aa ai ab))) (λ _ _=>rfl)) ab))))))
 bh)
 (ae (cw (og (aM (cM hr.units) (aS az (hr.mono (by decide)) (by rfl) (aa (au 0) (aa ai ab))) ai (aH _)) (og (aM lI (ay bV (by rfl) T.len (by decide+kernel) (aa (a_ aV (au 2) ai (λ _ _=>rfl)) ab)) ai (aH _)) (n_ (aM lI (au 1) ai (aH _))))).pt
 (ao (aD (i:=2) bN.nd rfl (Or.inl rfl) (aS rk (hr.mono (by decide)) (by rfl) (aa (au 0) (aa (au 2) ab)))))
 bh)
 (ae (cw (aM (cM hr.units) (aS az (hr.mono (by decide)) (by rfl) (aa (au 0) (aa ai ab))) ai (aH _))
 (ao (aD (i:=2) bN.nd rfl (Or.inl rfl) (aS ju (hr.mono (by decide)) (by rfl) (aa (au 0) (aa (au 2) ab)))))
 bh)
 (ao (aY (au 2)))))))))),?_⟩
  walk_at "rx";refine⟨f,cc,4,rfl,hF,by decide,by decide,λ d1 o1 Jg K' Ak=>?_⟩;have F1:Fl f cc M _:=Fl.pick Ak;generalize ah M f o1=M1 at*;walk_at "rx";refine aI (λ _=>?_) (λ _=>?_)
  ·walk_at "rx";refine⟨f,cc,rfl,F1.bC,λ m h rows ls M2 G hm hh L F2=>?_⟩;walk_at "rx";exact aB (k m h rows ls _ G hm (by omega) L (F1.trans F2))
  ·walk_at "rx";refine⟨f,cc,4,rfl,F1.bC,by decide,by decide,λ d2 o2 OC OB H9=>?_⟩;have F2:=F1.trans (Fl.pick H9);generalize ah M1 f o2=M2 at*;refine dF ?_
   with_reducible refine gO (λ δ' M'=>∃n:Nat,δ'=[some (.ref f),some (.int n),none,none]/\n<=6/\Fl f cc M M') (λ N hN=>?_) ?_
   ·walk_at "rx";refine⟨f,cc,6,rfl,F2.bC,by decide,by decide,λ d3 o3 Sf Se Ox=>?_⟩;have F3:=F2.trans (Fl.pick Ox);generalize ah M2 f o3=M3 at*;walk_at "rx";refine aI (λ _=>?_) (λ _=>?_)
    ·walk_at "rx";refine⟨f,cc,7,rfl,F3.bC,by decide,by decide,λ d4 o4 Tq Tp R'=>?_⟩;have F4:=F3.trans (Fl.pick R');generalize ah M3 f o4=M4 at*;walk_at "rx";obtain⟨n,rfl⟩:∃n:Nat,d4=(n:Int):=⟨d4.toNat,by omega⟩;exact hN _ _ ⟨n,rfl,by omega,F4⟩
    ·walk_at "rx";obtain⟨n,rfl⟩:∃n:Nat,d2=(n:Int):=⟨d2.toNat,by omega⟩;exact hN _ _ ⟨n,rfl,by omega,F3⟩
   rintro δ' M3 ⟨n,rfl,hn,F3⟩;walk_at "rx";refine⟨f,cc,n,rfl,F3.bC,hn,λ m rows ls M4 G hm L F4=>?_⟩;have Qo:=F3.trans F4;clear F4;have F4:=Qo;clear Qo;refine dF ?_
   with_reducible refine gO (λ δ' M'=>∃(v:Option D) (m:Nat) (rows:List Row) (ls:Row),δ'=[some (.ref f),some (.int n),some (cz rows ls),v]/\iS m n rows/\m<=16/\gG m ls/\Fl f cc M M') (λ N hN=>?_) ?_
   ·walk_at "rx";refine⟨f,cc,3,rfl,F4.bC,by decide,by decide,λ d5 o5 P0 PZ K9=>?_⟩;have F5:=F4.trans (Fl.pick K9);generalize ah M4 f o5=M5 at*;walk_at "rx";refine aI (λ _=>?_) (λ _=>?_)
    ·walk_at "rx";refine⟨cK (by omega) (by omega),?_⟩;rw[m9,c_];refine gW nD (λ ys M'=>Fl f cc M M'/\∀y∈ys,y < 5) (by rw[n9];omega) ⟨F5,λ y h=>by cases h⟩ (λ i x ys M' N hx hl hI hN=>?_) (λ sz M6 hl hI=>?_)
     ·walk_at "rx";refine⟨f,cc,5,rfl,hI.1.bC,by decide,by decide,λ d o h0 h1 xa=>?_⟩;obtain⟨y,rfl⟩:∃n:Nat,d=(n:Int):=⟨d.toNat,by omega⟩;refine hN y _ ⟨hI.1.trans (Fl.pick xa),λ z hz=>?_⟩;rcases w9.mp hz with e|e
      ·exact hI.2 z e
      ·rw[l8.mp e];omega
     ·obtain⟨F6,h5⟩:=hI;rw[n9]at hl;intro ps Mc;have nf:=(F6.bC.ne Mc).1;have F7:=F6.trans (Fl.put (o:=.lst (sz.map nD)) F6.bC Mc);have h7:ah M6 ps (.lst (sz.map nD)) ps=some (.lst (sz.map nD)):=af;generalize ah M6 ps (.lst (sz.map nD))=M7 at*;walk_at "rx";intro pl hpl;have h8:ah M7 pl (.lst [.str "loses",.str "wins"]) pl=some (.lst [.str "loses",.str "wins"]):=af;have h7:ah M7 pl (.lst [.str "loses",.str "wins"]) ps=some (.lst (sz.map nD)):=by rw[av (bJ h7 hpl)];exact h7
      have F8:=F7.trans (Fl.put (o:=.lst [.str "loses",.str "wins"]) F7.bC hpl);have nl:=(F7.bC.ne hpl).1;generalize ah M7 pl (.lst [.str "loses",.str "wins"])=M8 at*;walk_at "rx";refine⟨f,cc,2,rfl,F8.bC,by decide,by decide,λ d9 o9 To Tn R_=>?_⟩;have P:=Fl.pick R_;have F9:=F8.trans P;have h7:=P.mv _ _ nf h7;have h8:=P.mv _ _ nl h8;generalize ah M8 f o9=M9 at*;obtain⟨l,N9⟩:∃l:Str,gE [D.str "loses",D.str "wins"] d9=some (.str l):=by
       rcases(show d9=0\/d9=1 by omega)with rfl|rfl
       ·exact⟨_,rfl⟩
       ·exact⟨_,rfl⟩
      refine cZ h8 N9 ?_;walk_at "rx";refine⟨ps,sz,l,rfl,h7,h5,by omega,λ m rows ls M' G hm L hE=>?_⟩;refine dF ?_;rw[hl]at G;exact hN _ _ ⟨_,m,rows,ls,rfl,G,hm,L,F9.trans (jm hE F9.bC)⟩
    ·walk_at "rx";exact hN _ _ ⟨_,m,rows,ls,rfl,G,hm,L,F5⟩
   clear L hm G rows ls m F4 M4;rintro δ' M4 ⟨v,m,rows,ls,rfl,G,hm,L,F4⟩
   with_reducible refine gO (λ δ' M'=>∃(v:Option D) (m:Nat) (rows:List Row) (ls:Row),δ'=[some (.ref f),some (.int n),some (cz rows ls),v]/\iS m n rows/\m<=19/\gG m ls/\Fl f cc M M') (λ N hN=>?_) ?_
   ·have Bg:=G.tb.len;have I_:∀M',Fl f cc M M'->N [some (.ref f),some (.int n),some (cz rows ls),v] M':=λ M' F'=>hN _ _ ⟨_,m,rows,ls,rfl,G,by omega,L,F'⟩;have Af:cz rows ls=.tup [.tup (rows.map row),row ls]:=rfl;rw[Af]at I_ ⊢;walk_at "rx";refine⟨f,cc,3,rfl,F4.bC,by decide,by decide,λ d5 o5 P0 PZ K9=>?_⟩;have F5:=F4.trans (Fl.pick K9);generalize ah M4 f o5=M5 at*;walk_at "rx";refine aI (λ _=>?_) (λ _=>?_)
    ·walk_at "rx";rw[w6,Bg];refine aI (λ Ta=>?_) (λ _=>?_)
     ·walk_at "rx";refine aI (λ Pw=>?_) (λ _=>?_)
      ·walk_at "rx";refine⟨f,cc,m,n,rows,ls,rfl,F5.bC,G,by omega,by omega,λ m rows ls M6 G hm L F6=>?_⟩;refine dF ?_;exact hN _ _ ⟨_,m,rows,ls,rfl,G,by omega,L,F5.trans F6⟩
      ·walk_at "rx";exact I_ _ F5
     ·walk_at "rx";exact I_ _ F5
    ·walk_at "rx";exact I_ _ F5
   clear L hm G rows ls m F4 M4 v;rintro δ' M4 ⟨v,m,rows,ls,rfl,G,hm,L,F4⟩;walk_at "rx";refine⟨f,cc,2,rfl,F4.bC,by decide,by decide,λ d5 o5 P0 PZ K9=>?_⟩;have F5:=F4.trans (Fl.pick K9);generalize ah M4 f o5=M5 at*;walk_at "rx";refine aI (λ _=>?_) (λ _=>?_)
   ·walk_at "rx";refine⟨f,cc,m,n,rows,ls,rfl,F5.bC,G,by omega,L,λ rows ls M6 G L F6=>?_⟩;walk_at "rx";exact aB (k m n rows ls _ G hm hn L (F5.trans F6))
   ·walk_at "rx";exact aB (k m n rows ls _ G hm hn L F5)
end
def sg(k:Nat):gK:=λ ds M Q=>∃(n t:Nat),ds=[.int n,.int t]/\n < k/\n<=6/\t<=19/\∀(p:Addr) (M':Mem),M p=none->M' p=some (.lst ((bj n t).map dk))->Ext M M'->Q (.ref p) M'
theorem xX:∀ds M Q,¬sg 0 ds M Q:=λ ds M Q ⟨n,t,_,h,_⟩=>by omega
section
variable {P:Program}{w:World}{K:C0}{mg:Str->Option Value}{base:Heap}
theorem fH:aR ["_law_many","_law_total","_law_found","_law_n"] ["_law_many","_law_total"] (aq (top 18)):=⟨rfl,rfl,rfl,by decide+kernel,rfl,by decide+kernel,by decide+kernel⟩
theorem zj{f:Addr}{fd:FuncData}(F:jH K "_law_sums" "_law_sums" (top 18) f fd)(T:mR K mg)(N6:mg "_law_sums"=some (.ref f))(HX:Binds K fd ["_law_many","_law_total"] []):∀k,cu P w K mg base fh (k+1) f fd ["_law_many","_law_total"] (cW K (sg k)):=by
 intro k
 induction k with
 |zero=>exact uY xX
 |succ k ih=>
 have gU:=bW.of F ih N6 HX;rw[show k+1+1=k+1+1 by omega];clear ih;refine qE F fH (λ ds M Q h=>?_) (λ dD A outer s H E ds M Q hr h=>?_)
 ·obtain⟨n,t,rfl,_⟩:=h;rfl
 ·obtain⟨n,t,rfl,S_,hn,ht,kk⟩:=h;refine⟨_,(ae (cw (aM (cM hr.units) (au 0) ai (aH _))
 (ao (aY (bz fO (cx (aa (cR ab) ab)) (bM pE (by rfl) T.int (by decide+kernel) (aa (gI (cM hr.units) (au 1) ai (aH _)) ab)))))
 bh)
 (ae (cw (aM (cM hr.units) (au 0) ai (aH _))
 (ao (aY (cx (aa (cR (aa (au 1) ab)) ab))))
 bh)
 (ae (aD (i:=2) fH.nd rfl (Or.inl rfl) (cx ab))
 (ae (dR u7 rfl (vR rfl T.range (aa (au 1) (aa (Jp Ef ai) (aa (Jp Ef ai) ab)))) (bL (i:=3) fH.nd rfl (Or.inr rfl))
 (ao (bK (dX g9 PySem.F.slot_list_extend PySem.F.type_list_extend zC (au 2) (aa (kQ (tgs:=["_law_rest"]) (fr:=[3]) ⟨cb (by kernel_rfl),rfl,(λ _ _ h=>h),(dS (aS gU (hr.mono (by omega)) (by rfl) (aa (bz zo (au 0) ai) (aa (bz zo (au 1) (au 3)) ab)))),(bI (λ _ _ _ _ _=>(bc (i:=0) (show(["_law_rest","_law_n"]:List Str).Nodup by decide+kernel) rfl (Or.inl rfl))) (by decide)),(λ _ _ _ _ _=>cg),(λ _ _ _ _ _=>(bz br (cR (aa (au 1) ab)) (au 0)))⟩) ab)))))
 (ao (aY (au 2))))))),?_⟩
  walk_at "rx";refine aI (λ h0=>?_) (λ h0=>?_)
  ·have h0:n=0:=by omega
   subst h0;walk_at "rx";intro p hp;walk_at "rx";have hE:Ext M (ah M p (.lst [.tup []])):=Ext.new Ext.rfl hp _;have h2:ah M p (.lst [.tup []]) p=some (.lst [.tup []]):=af;generalize ah M p (.lst [.tup []])=M1 at*;have e:∃j:Nat,(if decide ((t:Int)=0)=true then(1:Int)else 0)=(j:Int)/\j<=1/\List.replicate j (D.tup [])=(bj 0 t).map dk:=by
    by_cases z:t=0
    ·subst z;exact⟨1,rfl,by omega,rfl⟩
    ·refine⟨0,by rw[B9];rfl;rw[decide_eq_true_iff];omega,by omega,?_⟩;unfold bj;rw[B9 z];rfl
   obtain⟨j,ej,hj,e2⟩:=e;rw[ej];refine qu h2 (by omega) (by omega) λ r hr=>?_;rw[m9,e2];exact aB (kk r _ (hE.free hr) af (hE.new hr _))
  ·walk_at "rx";refine aI (λ h1=>?_) (λ h1=>?_)
   ·have h1:n=1:=by omega
    subst h1;walk_at "rx";intro p hp;refine aB (kk p _ hp ?_ (Ext.new Ext.rfl hp _));rw[af,ua];rfl
   ·obtain⟨q,rfl⟩:∃q,n=q+1:=⟨n - 1,by omega⟩;walk_at "rx";intro p hp;have hE:Ext M (ah M p (.lst [])):=Ext.new Ext.rfl hp _;have h2:ah M p (.lst []) p=some (.lst ((eX q t 0).map dk)):=af;generalize ah M p (.lst [])=M1 at*;walk_at "rx";refine Cj ?_;walk_at "rx";refine⟨(t:Int),-1,rfl,⟨by omega,by omega,by omega,by omega⟩,?_⟩;rw[show((t:Int) - -1).toNat=t+1 by omega];refine jl (λ i δ M'=>∃v:Option D,δ=[some (.int ((q+1:Nat):Int)),some (.int t),some (.ref p),v]/\M' p=some (.lst ((eX q t i).map dk))/\Ext M M') ⟨none,rfl,h2,hE⟩ (λ i d δ M' hd h=>?_) (λ δ M' h=>?_)
    ·obtain⟨v,rfl,h2,hE⟩:=h;obtain⟨hi,rfl⟩:=Ay hd;have R9:=hp;walk_at "rx";refine⟨⟨rfl,_,h2⟩,?_⟩;walk_at "rx";refine⟨q,t - (t - i),?_,by omega,by omega,by omega,λ r M2 hr jh EB=>?_⟩
     ·rw[show((q+1:Nat):Int) - 1=(q:Int) by omega,show(t:Int) - ((t:Int) - (i:Int))=((t - (t - i):Nat):Int) by omega]
     ·have hsz:=sf (q:=q) (t:=t - (t - i)) (by omega) (by omega);refine ig jh ?_;refine tJ dk (λ c=>dk ((t - i)::c)) hsz jh (λ j c N hc hN=>?_) ?_
      ·walk_at "rx";have w_:=(bH.mp (j4 hc)).1;unfold dk;refine lG (by rw[w6,w_];exact small (by show 1+q<=10000;omega)) ?_;rw[show[D.int ((t:Int) - (i:Int))]++c.map nD=((t - i)::c).map nD by rw[show(t:Int) - (i:Int)=((t - i:Nat):Int) by omega];rfl];exact hN
      ·intro u hu;have h2:=EB _ _ h2;have e3:(bj q (t - (t - i))).map (λ c=>dk ((t - i)::c))=((bj q (t - (t - i))).map ((t - i)::·)).map dk:=by rw[List.map_map];rfl
       rw[e3];have hL:=m_ (q:=q) (t:=t) (i:=i+1) (by omega) (by omega) (by omega);rw[lg hi,k9]at hL;walk_at "rx";refine FJ (ds:=(eX q t i).map dk) (by rw[av (bJ h2 hu)];exact h2) af (by rw[w6,w6];exact hL) ?_;refine⟨_,rfl,?_,?_⟩
       ·rw[af,lg hi,x3]
       ·exact((hE.trans EB).new hu _).own R9
    ·obtain⟨v,rfl,h2,hE⟩:=h;rw[jn,gh]at h2;walk_at "rx";exact aB (kk p _ hp h2 hE)
end
def ya:gK:=λ ds M Q=>∃(m h x:Nat) (rows:List Row) (ls:Row) (p:Cs),ds=[cz rows ls,.int x,dk p]/\iS m h rows/\x < m/\p.length=h/\(∀c∈p,c<=1000)/\Q (.int (df (dE rows) 0 x p:Nat)) M
def uh:gK:=λ ds M Q=>∃(m h:Nat) (rows:List Row) (ls:Row),ds=[cz rows ls]/\iS m h rows/\m<=19/\h<=6/\∀(p:Addr) (g:Nat->Cs) (M':Mem),M p=none->IH m h rows g->M' p=some (.lst ((List.range m).map λ x=>dk (g x)))->Ext M M'->Q (.ref p) M'
section
variable {P:Program}{w:World}{K:C0}{mg:Str->Option Value}{base:Heap}
theorem du:aR ["_law_table_here","_law_x","_law_counts","_law_h","_law_n","_law_k"] ["_law_table_here","_law_x","_law_counts"] (aq (top 19)):=⟨rfl,rfl,rfl,by decide+kernel,rfl,by decide+kernel,by decide+kernel⟩
theorem Dl{f:Addr}{fd:FuncData}(F:jH K "_law_from" "_law_from" (top 19) f fd)(T:mR K mg):cu P w K mg base fh 1 f fd ["_law_table_here","_law_x","_law_counts"] (cW K ya):=by
 refine qE F du (λ ds M Q h=>?_) (λ dD A outer s H E ds M Q hr h=>?_)
 ·obtain⟨m,h,x,rows,ls,p,rfl,_⟩:=h;rfl
 ·obtain⟨m,h,x,rows,ls,p,rfl,G,hx,hp,hc,k⟩:=h;refine⟨_,(ae (dR u7 rfl (oh rfl T.enumerate (aa (au 2) ab)) (oi (n:=2) rfl (dm (bL (i:=3) du.nd rfl (Or.inl rfl)) (dm (bL (i:=4) du.nd rfl (Or.inl rfl)) jX)))
 (ao (dR u7 rfl (bt rfl T.range (aa (au 4) ab)) (bL (i:=5) du.nd rfl (Or.inl rfl))
 (ao (aD (i:=1) du.nd rfl (Or.inl rfl) (a_ aV (a_ aV (a_ aV (au 0) ai (λ _ _=>rfl)) (au 1) (λ _ _=>rfl)) (au 3) (λ _ _=>rfl)))))))
 (ao (aY (au 1)))),?_⟩
  have hh:=G.tb.DM;unfold dk;have Af:cz rows ls=.tup [.tup (rows.map row),row ls]:=rfl;rw[Af];walk_at "rx";refine jl (λ i δ M'=>M'=M/\∃v3 v4 v5:Option D,δ=[some (.tup [.tup (rows.map row),row ls]),some (.int (df (dE rows) 0 x (p.take i):Nat)),some (.tup (p.map nD)),v3,v4,v5]) ⟨rfl,none,none,none,rfl⟩ (λ i d δ M' hd h=>?_) (λ δ M' h=>?_)
  ·obtain⟨rfl,v3,v4,v5,rfl⟩:=h;obtain⟨hi,rfl⟩:=o_ hd;rw[w6]at hi;have IZ:p[i]?=some p[i]:=c9 hi;rw[show(p.map nD).getD i .bf=.int (p[i]:Nat) by rw[c3,m8,IZ];rfl];have Tf:=hc _ (j4 IZ);have hy:df (dE rows) 0 x (p.take i) < m:=G.vq.df _ 0 x (by rw[length_take];omega) hx;have hst:df (dE rows) 0 x (p.take (i+1))=iQ (dE rows i) p[i] (df (dE rows) 0 x (p.take i)):=by rw[take_one IZ,qU,length_take,Nat.min_eq_left (by omega),Nat.zero_add]
   generalize p[i]=c at*;generalize df (dE rows) 0 x (p.take i)=y at*;walk_at "rx";refine⟨cK (by omega) (by omega),?_⟩;rw[m9];refine jl (λ j δ iT=>iT=M'/\∃v5:Option D,δ=[some (.tup [.tup (rows.map row),row ls]),some (.int (iQ (dE rows i) j y:Nat)),some (.tup (p.map nD)),some (.int (i:Int)),some (.int (c:Int)),v5]) ⟨rfl,_,rfl⟩ (λ j d δ iT hd h=>?_) (λ δ iT h=>?_)
   ·obtain⟨rfl,v5,rfl⟩:=h;obtain⟨hj,rfl⟩:=cL hd;have hz:iQ (dE rows i) j y < m:=G.vq.iQ (by omega) j y hy;have ta:=r_ G.tb hz (i:=i) (by omega);have hs:=lP (dE rows i) j y;generalize iQ (dE rows i) j y=z at*;walk_at "rx";refine bX (d:=.tup ((rows.getD z []).map D.int)) ta.1 ?_;walk_at "rx";refine bX ta.2 ?_;walk_at "rx";exact⟨rfl,_,by rw[hs];rfl⟩
   ·obtain⟨rfl,v5,rfl⟩:=h;rw[bA];exact⟨rfl,_,_,_,by rw[hst]⟩
  ·obtain⟨rfl,v3,v4,v5,rfl⟩:=h;rw[dg,w6,take_length];walk_at "rx";exact aB k
theorem bu:aR ["_law_table_here","_law_many","_law_found","_law_total","_law_counts"] ["_law_table_here"] (aq (top 20)):=⟨rfl,rfl,rfl,by decide+kernel,rfl,by decide+kernel,by decide+kernel⟩
theorem zk{f:Addr}{fd:FuncData}(F:jH K "_law_first_sums" "_law_first_sums" (top 20) f fd)(T:mR K mg)(gU:dj P w K mg base 8 "_law_sums" ["_law_many","_law_total"] (sg 7))(tw:dj P w K mg base 1 "_law_from" ["_law_table_here","_law_x","_law_counts"] ya):cu P w K mg base fh 9 f fd ["_law_table_here"] (cW K uh):=by
 refine qE F bu (λ ds M Q h=>?_) (λ dD A outer s H E ds M Q hr h=>?_)
 ·obtain⟨m,h,rows,ls,rfl,_⟩:=h;rfl
 ·obtain⟨m,h,rows,ls,rfl,G,hm,hh,k⟩:=h;obtain⟨g,hg⟩:=G.fst;have Ez:=Fs G.tb;have Bg:=G.tb.len;have Af:cz rows ls=.tup [.tup (rows.map row),row ls]:=rfl;refine⟨_,(ae (aD (i:=1) bu.nd rfl (Or.inl rfl) (ay jz (by rfl) T.len (by decide+kernel) (aa (a_ (hW hr.units) (a_ (hW hr.units) (au 0) ai (λ _ _=>rfl)) ai (λ _ _=>rfl)) ab)))
 (ae (aD (i:=2) bu.nd rfl (Or.inr rfl) (EX false))
 (ae (aD (i:=3) bu.nd rfl (Or.inl rfl) ai)
 (ae (dQ u7 (aM lI (ay jz (by rfl) T.len (by decide+kernel) (aa (au 2) ab)) (ay jz (by rfl) T.len (by decide+kernel) (aa (a_ (hW hr.units) (au 0) ai (λ _ _=>rfl)) ab)) (aH _))
 (ae (dR u7 rfl (dS (aS gU (hr.mono (by decide)) (by rfl) (aa (au 1) (aa (au 3) ab)))) (bL (i:=4) bu.nd rfl (Or.inl rfl))
 (ao (bK (xJ (au 2) (aa (aS tw (hr.mono (by decide)) (by rfl) (aa (au 0) (aa ai (aa (au 4) ab)))) (aa (au 4) ab))))))
 (ao (aD (i:=3) bu.nd rfl (Or.inl rfl) (bz br (au 3) ai)))))
 (ao (aY (kQ (tgs:=["_law_x"]) (fr:=[2]) ⟨cb (by kernel_rfl),rfl,(λ _ _ h=>h),(bt rfl T.range (aa (ay jz (by rfl) T.len (by decide+kernel) (aa (a_ (hW hr.units) (au 0) ai (λ _ _=>rfl)) ab)) ab)),(bI (λ _ _ _ _ _=>(bc (i:=0) (show(["_law_x","_law_found"]:List Str).Nodup by decide+kernel) rfl (Or.inl rfl))) (by decide)),(λ _ _ _ _ _=>cg),(λ _ _ _ _ _=>(a_ (hW hr.units) (au 1) (au 0) (λ _ _=>rfl)))⟩))))))),?_⟩
  rw[Af];walk_at "rx";refine dZ (bX (d:=.tup (rows.map row)) rfl ?_);walk_at "rx";refine dZ (bX Ez.1 ?_);walk_at "rx";refine fK (ka ?_);rw[w6,Ez.2];walk_at "rx";intro q hq;walk_at "rx";have Ia:Ext M (ah M q (.cE false [])):=Ext.new Ext.rfl hq _;have Ry:ah M q (.cE false []) q=some (.cE false (jE nD ((([]:List (Nat×Cs)).map λ e=>(e.1,dk e.2))))):=af;generalize ah M q (.cE false [])=M0 at*;refine dU ⟨λ m' δ M'=>∃(v4:Option D) (es:List (Nat×Cs)) (t:Nat),δ=[some (.tup [.tup (rows.map row),row ls]),some (.int (h:Int)),some (.ref q),some (.int (t:Int)),v4]/\Ext M M'/\M' q=some (.cE false (jE nD (es.map λ e=>(e.1,dk e.2))))/\pO rows m h (fX h t 0) es/\m'=m+1 - t,⟨_,none,[],0,rfl,Ia,Ry,by show pO rows m h (mM h 0++[]) [];rw[q9];exact pO.nil rows m h,rfl⟩,?_⟩;rintro m' δ M1 ⟨v4,es,t,rfl,hE,hd,hf,rfl⟩;have Py:∀{es:List (Nat×Cs)},(jE nD (es.map λ e=>(e.1,dk e.2))).length=es.length:=λ{es}=>by simp[jE]
  have hfew:=hf.dA;walk_at "rx";refine Cb hd ?_;walk_at "rx";refine dZ (bX (d:=.tup (rows.map row)) rfl ?_);walk_at "rx";refine fK (ka ?_);walk_at "rx";rw[w6,Bg,Py];refine aI (λ eQ=>?_) (λ DH=>?_)
  ·have S6:t < m:=Nat.lt_of_not_le λ z=>by have:=hf.full G z;omega
   refine⟨λ δ' M'=>∃(v4:Option D) (es:List (Nat×Cs)),δ'=[some (.tup [.tup (rows.map row),row ls]),some (.int (h:Int)),some (.ref q),some (.int ((t+1:Nat):Int)),v4]/\Ext M M'/\M' q=some (.cE false (jE nD (es.map λ e=>(e.1,dk e.2))))/\pO rows m h (fX h (t+1) 0) es,?_,?_⟩
   ·rintro δ' M' ⟨v4,es,rfl,a1,a2,a3⟩;exact⟨_,by omega,v4,es,t+1,rfl,a1,a2,a3,rfl⟩
   ·walk_at "rx";refine⟨h,t,rfl,by omega,by omega,by omega,λ r M2 hr jh EB=>?_⟩;refine ig jh ?_;have Rv:q≠r:=bJ hd hr;refine qX (ds:=(bj h t).map dk) (λ i δ M'=>∃(v4:Option D) (es:List (Nat×Cs)),δ=[some (.tup [.tup (rows.map row),row ls]),some (.int (h:Int)),some (.ref q),some (.int (t:Int)),v4]/\Ext M M'/\M' r=some (.lst ((bj h t).map dk))/\M' q=some (.cE false (jE nD (es.map λ e=>(e.1,dk e.2))))/\pO rows m h (fX h t i) es) ⟨v4,es,rfl,hE.trans EB,jh,EB _ _ hd,hf⟩ (λ i δ M' _ h=>?_) (λ i d δ M' hd2 h=>?_) (λ δ M' h=>?_)
    ·obtain⟨_,_,_,_,h2,_⟩:=h;exact h2
    ·obtain⟨v4,es,rfl,hE,jh,hd,hf⟩:=h;rw[m8]at hd2;obtain⟨p,hp,rfl⟩:=Option.map_eq_some_iff.mp hd2;have Ab:=bH.mp (j4 hp);walk_at "rx";refine⟨⟨q,_,rfl,hd⟩,?_⟩;walk_at "rx";refine⟨m,h,0,rows,ls,p,rfl,G,G.tb.pos,Ab.1,λ c hc=>?_,?_⟩
     ·have:=zF hc;omega
     ·walk_at "rx";have Ml:=hf.dA;have gC:(es.map λ e=>(e.1,dk e.2)).map (·.1)=es.map (·.1):=by rw[List.map_map];rfl
      refine⟨q,_,nD (df (dE rows) 0 0 p),dk p,rfl,rfl,hd,sP _,by rw[Py];exact l6 (show es.length<=100 by omega) (by decide),λ u hu=>?_,λ hu=>?_⟩
      ·have rN:df (dE rows) 0 0 p∈es.map (·.1):=Decidable.byContradiction λ hn=>by rw[jc dh.inj (by rw[gC];exact hn)]at hu;cases hu
       exact⟨_,es,rfl,hE,jh,hd,hf.old hp rN⟩
      ·have rN:df (dE rows) 0 0 p∉es.map (·.1):=λ hn=>by obtain⟨e,he,ee⟩:=A1.mp hn;rw[<- ee,jb (x:=e.1) (d:=dk e.2) dh.inj (by rw[gC];exact hf.nd) (A1.mpr ⟨e,he,rfl⟩)]at hu;cases hu
       rw[uD dh.inj _ (by rw[gC];exact rN)];refine⟨_,es++[(df (dE rows) 0 0 p,p)],rfl,hE.own hq,?_,?_,hf.new G hp rN⟩
       ·rw[av (B7 Rv)];exact jh
       ·rw[af,x3];rfl
    ·obtain⟨v4,es,rfl,hE,jh,hd,hf⟩:=h;rw[w6,Am]at hf;walk_at "rx";exact⟨_,es,rfl,hE,hd,hf⟩
  ·walk_at "rx";refine dZ (bX (d:=.tup (rows.map row)) rfl ?_);walk_at "rx";refine fK (ka ?_);walk_at "rx";rw[w6,Bg];refine⟨cK (by omega) (by omega),?_⟩;rw[m9,c_];refine pk (λ x=>dk (g x)) (by rw[n9];omega) (λ i x N hx hN=>?_) ?_
   ·have Pj:x < m:=mem_range.mp (j4 hx);rw[Fu];walk_at "rx";refine FH hd (sP x) (jb (x:=x) (d:=dk (g x)) dh.inj (by rw[List.map_map];exact hf.nd) (A1.mpr ⟨_,hf.get (by omega) hg Pj,rfl⟩)) ?_;exact hN
   ·intro u hu;exact aB (k u g _ (hE.free hu) hg af (hE.new hu _))
end
def x_:gK:=λ ds M Q=>∃(p:Cs) (i:Nat),ds=[dk p,.int i]/\i < p.length/\p.length<=1000/\Q (dk (inc p i)) M
def uj(P:Program)(w:World)(K:C0)(mg:Str->Option Value)(base:Heap):gK:=λ ds M Q=>∃(α:Type) (_:DecidableEq α) (enc:α->D) (t:Bool) (S:α->Prop) (F:Nat->α->α) (s0:α) (h m:Nat) (f:Addr) (U:List α) (L:jG) (ps fv:List Str) (sp:rG) (cs:List D) (C:CM),
 ds=[.int h,enc s0,.ref f,.int m]/\(∀a b,enc a=enc b->a=b)/\(∀s,fe t (enc s))/\jK S h F/\S s0/\(∀s,S s->s∈U)/\U.length<=1000/\h<=12/\xw P w K mg base 5 L ps fv sp/\xu M f L fv cs C/\
 (∀M1 s i Q',Ext M M1->S s->i < h->(∀M',Ext (f_ M1 C) M'->Q' (enc (F i s)) M')->sp [enc s,.int i] cs (f_ M1 C) Q')/\
 ∀(p:Addr) (told:List (Cs×α)) (M':Mem),M p=none->M' p=some (.lst ((told.take m).map (iG enc)))->tS F s0 h m told->Ext M M'->Q (.ref p) M'
section
variable {P:Program}{w:World}{K:C0}{mg:Str->Option Value}{base:Heap}
theorem ql:aR ["counts","heap"] ["counts","heap"] (aq (top 1)):=⟨rfl,rfl,rfl,by decide+kernel,rfl,by decide+kernel,by decide+kernel⟩
theorem Dj{f:Addr}{fd:FuncData}(F:jH K "one_more" "one_more" (top 1) f fd)(T:mR K mg):cu P w K mg base fh 1 f fd ["counts","heap"] (cW K x_):=by
 refine qE F ql (λ ds M Q h=>?_) (λ dD A outer s H E ds M Q hr h=>?_)
 ·obtain⟨p,i,rfl,_⟩:=h;rfl
 ·obtain⟨p,i,rfl,hi,hp,k⟩:=h;have IZ:p[i]?=some p[i]:=c9 hi;refine⟨_,(ao (aY (bz br (bz br (jY um (au 0) jV (jU (au 1))) (cR (aa (bz br (a_ aV (au 0) (au 1) (λ _ _=>rfl)) ai) ab))) (jY um (au 0) (jU (bz br (au 1) ai)) jV)))),?_⟩;unfold dk at k ⊢;walk_at "rx";refine yq (by omega) ?_;walk_at "rx";refine bX (d:=.int (p[i]:Nat)) (bY (by rw[m8,IZ];rfl)) ?_;walk_at "rx";refine lG (small (by simp;omega)) ?_;walk_at "rx";refine sr (by omega) ?_;refine lG (small (by simp;omega)) ?_;refine aB ?_;rw[show((i:Int)).toNat=i by omega,show((i:Int)+1).toNat=i+1 by omega];rw[<- zQ IZ,x3,x3,map_take,map_drop]at k;exact k
theorem bE:aR ["heaps","start","gone","most","told","known","done","counts","heap","there"] ["heaps","start","gone","most"] (aq (top 2)):=⟨rfl,rfl,rfl,by decide+kernel,rfl,by decide+kernel,by decide+kernel⟩
theorem zl{f:Addr}{fd:FuncData}(F:jT K "first_sums" "first_sums" (top 2) (.ref 22) 28 f fd)(T:mR K mg)(tu:dj P w K mg base 1 "one_more" ["counts","heap"] x_):cu P w K mg base fh 7 f fd ["heaps","start","gone","most"] (cW K (uj P w K mg base)):=by
 refine O_ F bE (λ ds M Q h=>?_) (λ A outer s H E ds M Q hr h=>?_)
 ·obtain⟨α,_,enc,t,S,F,s0,h,m,f,U,L,ps,fv,sp,cs,C,rfl,_⟩:=h;rfl
 ·obtain⟨α,_,enc,t,S,F,s0,h,m,f,U,L,ps,fv,sp,cs,C,rfl,inj,gC,CM,Bf,hU,RZ,hh,hL,Ov,RM,k⟩:=h;refine⟨_,(ae (aD (i:=4) bE.nd rfl (Or.inl rfl) (cx (aa (cR (aa (bz fO (cR (aa ai ab)) (au 0)) (aa (au 1) ab))) ab)))
 (ae (aD (i:=5) bE.nd rfl (Or.inl rfl) (Bu hr.units (au 1) xK))
 (ae (aD (i:=6) bE.nd rfl (Or.inl rfl) ai)
 (ae (dQ u7 (og (aM lI (au 6) (ay jz (by rfl) T.len (by decide+kernel) (aa (au 4) ab)) (aH _)) (n_ (xG (aM zt (au 3) tX (aH _)) (rW (aM lI (ay jz (by rfl) T.len (by decide+kernel) (aa (au 4) ab)) (au 3) (aH _)))).pt)).pt
 (ae (aD (i:=7) bE.nd rfl (Or.inl rfl) (a_ (hW hr.units) (a_ (hW hr.units) (au 4) (au 6) (λ _ _=>rfl)) ai (λ _ _=>rfl)))
 (ae (dR u7 rfl (bt rfl T.range (aa (au 0) ab)) (bL (i:=8) bE.nd rfl (Or.inl rfl))
 (ae (aD (i:=9) bE.nd rfl (Or.inl rfl) (Bv (k:=5) (i:=2) (hr.mono (by decide)) (by rfl) (by first|exact Or.inl rfl|exact Or.inr (Or.inl rfl)|exact Or.inr (Or.inr rfl)) (aa (a_ (hW hr.units) (a_ (hW hr.units) (au 4) (au 6) (λ _ _=>rfl)) ai (λ _ _=>rfl)) (aa (au 8) ab))))
 (ao (cw (aM (zq hr.units) (au 9) (au 5) rfl)
 (ae (ek xK (fB (au 5) (au 9) (Fe hr.units)))
 (ao (bK (dX g9 c8 g0 bO (au 4) (aa (cR (aa (aS tu (hr.mono (by decide)) (by rfl) (aa (au 7) (aa (au 8) ab))) (aa (au 9) ab))) ab)))))
 bh))))
 (ao (Bt (i:=6) bE.nd rfl (Or.inl rfl) ai)))))
 (ao (aY (jY um (au 4) jV (jU (au 3))))))))),?_⟩
  walk_at "rx";refine qt (by omega) (by omega) ?_;rw[m9];walk_at "rx";intro p hp;have Ia:Ext M (ah M p (.lst [.tup [.tup (List.replicate h (.int 0)),enc s0]])):=Ext.new Ext.rfl hp _;have HK:ah M p (.lst [.tup [.tup (List.replicate h (.int 0)),enc s0]]) p=some (.lst ([(fA h,s0)].map (iG enc))):=by rw[af];show _=some (MO.lst [.tup [dk (fA h),enc s0]]);unfold dk fA;rw[map_replicate];rfl
  generalize ah M p (.lst [.tup [.tup (List.replicate h (.int 0)),enc s0]])=M0 at*;walk_at "rx";refine yG t λ q hq=>?_;have KL:M q=none:=Ia.free hq;have iB:p≠q:=bJ HK hq;walk_at "rx";refine⟨af,gC s0,?_⟩;rw[dM];have H_:Ext M (ah M0 q (.cE t [(enc s0,.bl true)])):=Ia.new hq _;have mF:ah M0 q (.cE t [(enc s0,.bl true)]) p=some (.lst ([(fA h,s0)].map (iG enc))):=by rw[av iB];exact HK
  have Rx:ah M0 q (.cE t [(enc s0,.bl true)]) q=some (.cE t (jE enc ([(fA h,s0)].map λ e=>(e.2,.bl true)))):=af;generalize ah M0 q (.cE t [(enc s0,.bl true)])=M1 at*;have RI:∀{told:List (Cs×α)},(jE enc (told.map λ e=>(e.2,D.bl true))).length=told.length:=λ{told}=>by simp[jE]
  have N':∀{told:List (Cs×α)},(told.map λ e=>(e.2,D.bl true)).map (·.1)=told.map (·.2):=λ{told}=>by rw[List.map_map];rfl
  have hS:∀{told:List (Cs×α)},IG F s0 h told->(∀e∈told,S e.2)/\told.length<=U.length:=λ{told} hi=>by
   have h1:∀e∈told,S e.2:=λ e he=>by have:=hi.ent e he;rw[<- this.2];exact CM.df e.1 0 s0 (by rw[this.1.1];omega) Bf
   refine⟨h1,?_⟩;have:=List.Nodup.length_le_of_subset hi.nd (l₂:=U) λ x hx=>by obtain⟨e,he,rfl⟩:=A1.mp hx;exact hU _ (h1 e he)
   rwa [w6]at this
  walk_at "rx";refine dU ⟨λ m' δ M'=>∃(v7 v8 v9:Option D) (told:List (Cs×α)) (d:Nat),δ=[some (.int h),some (enc s0),some (.ref f),some (.int m),some (.ref p),some (.ref q),some (.int d),v7,v8,v9]/\Ext M M'/\M' p=some (.lst (told.map (iG enc)))/\M' q=some (.cE t (jE enc (told.map λ e=>(e.2,.bl true))))/\pQ F s0 h told d 0/\d<=told.length/\m'=U.length+1 - d,⟨_,none,none,none,_,0,rfl,H_,mF,Rx,pQ.start F s0 h,by omega,rfl⟩,?_⟩;rintro m' δ M' ⟨v7,v8,v9,told,d,rfl,hE,eB,IY,hB,Oi,rfl⟩;have hlen:=(hS hB.iz).2;have fin:tS F s0 h m told->∀(r:Addr),M' r=none->fin2 Q (.ref r) (ah M' r (.lst ((told.take m).map (iG enc)))):=λ hf r hr=>aB (k r told _ (hE.free hr) af hf (hE.new hr _));walk_at "rx";refine fK (oB eB ?_);rw[w6];walk_at "rx";refine aI (λ eQ=>?_) (λ DH=>?_)
  ·walk_at "rx";refine gj (by simp[kY]) ?_;walk_at "rx";refine fK (oB eB ?_);rw[w6];walk_at "rx";refine aI (λ RE=>?_) (λ Te=>?_)
   ·obtain⟨⟨a,s⟩,hs⟩:∃e,told[d]?=some e:=⟨_,c9 (by omega)⟩;have HY:gE (told.map (iG enc)) (d:Int)=some (.tup [dk a,enc s]):=bY (by rw[m8,hs];rfl);refine⟨λ δ' M'=>∃(v7 v8 v9:Option D) (told:List (Cs×α)),δ'=[some (.int h),some (enc s0),some (.ref f),some (.int m),some (.ref p),some (.ref q),some (.int ((d:Int)+1)),v7,v8,v9]/\Ext M M'/\M' p=some (.lst (told.map (iG enc)))/\M' q=some (.cE t (jE enc (told.map λ e=>(e.2,.bl true))))/\pQ F s0 h told (d+1) 0/\d+1<=told.length,?_,?_⟩
    ·rintro δ' M2 ⟨v7,v8,v9,Ju,rfl,a1,a2,a3,a4,a5⟩;exact⟨_,by omega,v7,v8,v9,Ju,d+1,rfl,a1,a2,a3,a4,a5,rfl⟩
    ·walk_at "rx";refine dZ (cZ eB HY ?_);walk_at "rx";refine dZ (bX (d:=dk a) rfl ?_);walk_at "rx";refine⟨cK (by omega) (by omega),?_⟩;rw[m9];refine jl (λ i δ M2=>∃(v8 v9:Option D) (told:List (Cs×α)),δ=[some (.int h),some (enc s0),some (.ref f),some (.int m),some (.ref p),some (.ref q),some (.int d),some (dk a),v8,v9]/\Ext M M2/\M2 p=some (.lst (told.map (iG enc)))/\M2 q=some (.cE t (jE enc (told.map λ e=>(e.2,.bl true))))/\pQ F s0 h told d i/\told[d]?=some (a,s)) ⟨v8,v9,told,rfl,hE,eB,IY,hB,hs⟩ (λ i y δ M2 hd2 Oc=>?_) (λ δ M2 Oc=>?_)
     ·clear eB IY hE hB hs HY fin eQ RE hlen Oi;obtain⟨v8,v9,told,rfl,hE,eB,IY,hB,hs⟩:=Oc;obtain⟨hi,rfl⟩:=cL hd2;have HY:gE (told.map (iG enc)) (d:Int)=some (.tup [dk a,enc s]):=bY (by rw[m8,hs];rfl);obtain⟨R6,hlen⟩:=hS hB.iz;have R5:S s:=R6 _ (j4 hs);have Mn:a.length=h:=(hB.iz.ent _ (j4 hs)).1.1;have Mj:M2 f=M2 f:=rfl;walk_at "rx";have HZ:=zH Ov hE;obtain⟨cl,w_,_⟩:=HZ.ex;refine JN rfl ⟨L,cl,w_⟩ ?_;walk_at "rx";refine dZ (cZ eB HY ?_);walk_at "rx";refine dZ (bX (d:=enc s) rfl ?_);walk_at "rx";refine⟨L,ps,fv,sp,cs,C,hL,HZ,?_⟩;rw[y9];refine RM M2 s i _ hE R5 hi λ M3 Sa=>?_;have Oz:=Ext.vC HZ.vC Sa;have Me:=Oz _ _ eB;have KN:=Oz _ _ IY;have PX:=hE.trans Oz;generalize gF M3 C=M4 at*;walk_at "rx";refine wj KN (gC _) ?_;by_cases rN:F i s∈told.map (·.2)
      ·rw[show(!(cO (jE enc (told.map λ e=>(e.2,D.bl true))) (enc (F i s))).isSome)=false by
        obtain⟨e,he,ee⟩:=A1.mp rN;rw[<- ee,jb (x:=e.2) (d:=.bl true) inj (by rw[N'];exact hB.iz.nd) (A1.mpr ⟨e,he,rfl⟩)];rfl]
       walk_at "rx";exact⟨_,_,told,rfl,PX,Me,KN,hB.old CM Bf hi hs rN,hs⟩
      ·rw[show(!(cO (jE enc (told.map λ e=>(e.2,D.bl true))) (enc (F i s))).isSome)=true by
        rw[jc inj (by rw[N'];exact rN)];rfl]
       walk_at "rx";refine BS KN (gC _) (by rw[RI];exact l6 (show told.length<=1000 by omega) (by decide)) ?_;rw[uD inj _ (by rw[N'];exact rN)];have Pr:ah M4 q (.cE t (jE enc (told.map (λ e=>(e.2,D.bl true))++[(F i s,.bl true)]))) p=some (.lst (told.map (iG enc))):=by rw[av iB];exact Me
       have Rw:ah M4 q (.cE t (jE enc (told.map (λ e=>(e.2,D.bl true))++[(F i s,.bl true)]))) q=some (.cE t (jE enc ((told++[(inc a i,F i s)]).map λ e=>(e.2,.bl true)))):=by rw[af,x3];rfl
       have Oy:Ext M (ah M4 q (.cE t (jE enc (told.map (λ e=>(e.2,D.bl true))++[(F i s,.bl true)])))):=PX.own KL;generalize ah M4 q (.cE t (jE enc (told.map (λ e=>(e.2,D.bl true))++[(F i s,.bl true)])))=M5 at*;walk_at "rx";refine⟨⟨rfl,_,Pr⟩,?_⟩;walk_at "rx";refine⟨a,i,rfl,by omega,by omega,?_⟩;walk_at "rx";refine fL Pr (by rw[w6];exact l6 (show told.length<=1000 by omega) (by decide)) ?_;refine⟨_,_,told++[(inc a i,F i s)],rfl,Oy.own hp,?_,?_,hB.new CM Bf hi hs rN,?_⟩
       ·rw[af,x3];rfl
       ·rw[av (B7 iB)];exact Rw
       ·rw[c4 (c6.mp hs).1];exact hs
     ·obtain⟨v8,v9,told,rfl,hE,eB,IY,hB,hs⟩:=Oc;rw[bA]at hB;have:=(c6.mp hs).1;walk_at "rx";exact⟨1,rfl,_,_,_,told,rfl,hE,eB,IY,hB.turn,by omega⟩
   ·walk_at "rx";refine iY eB (by omega) ?_;rw[m9,<- map_take];exact fin ⟨hB.iz,.inl (by omega)⟩
  ·walk_at "rx";refine iY eB (by omega) ?_;rw[m9,<- map_take];exact fin ⟨hB.iz,.inr λ x hx=>hB.all CM Bf (by omega) _ x (Nat.lt_succ_self _) hx⟩
end
def x':rG:=λ ds cs M Q=>∃(m h x i:Nat) (rows:List Row),ds=[.int x,.int i]/\cs=[.tup (rows.map row)]/\Tb m h rows/\x < m/\i < h/\Q (.int (dE rows i x:Nat)) M
def IA(M:Mem):Prop:=M 31=some (.g_ (.j_ "first_things.<locals>.<lambda>"))
def qi:gK:=λ ds M Q=>∃(m h:Nat) (rows:List Row),ds=[.tup (rows.map row)]/\IA M/\iS m h rows/\∀(p:Addr) (told:List (Cs×Nat)) (M':Mem),M p=none->M' p=some (.lst (told.map (iG nD)))->tS (dE rows) 0 h m told->told.length=m->Ext M M'->Q (.ref p) M'
section
variable {P:Program}{w:World}{K:C0}{mg:Str->Option Value}{base:Heap}
theorem sO(T:mR K mg):xw P w K mg base 1 (zG (top 3) 2 "first_things.<locals>.<lambda>" mg) ["thing","heap"] ["steps"] x':=by
 refine NG (Ky (by kernel_rfl) (by decide+kernel)) (λ ds cs M Q h=>?_) (λ _ _ _=>ln2 λ _ _=>rfl) (λ A outer s H f c cl ds cs M Q hr h=>?_)
 ·obtain⟨m,h,x,i,rows,rfl,_⟩:=h;rfl
 ·obtain⟨m,h,x,i,rows,rfl,rfl,T,hx,hi,k⟩:=h;have ta:=r_ T hx hi;refine⟨_,(a_ aV (a_ aV (au 2) (au 0) (λ _ _=>rfl)) (au 1) (λ _ _=>rfl)),?_⟩;walk_at "rx";refine bX (d:=.tup ((rows.getD x []).map D.int)) ta.1 ?_;walk_at "rx";refine bX ta.2 ?_;exact k
theorem eY:aR ["steps"] ["steps"] (aq (top 3)):=⟨rfl,rfl,rfl,by decide+kernel,rfl,by decide+kernel,by decide+kernel⟩
theorem wA{f:Addr}{fd:FuncData}(F:jT K "first_things" "first_things" (top 3) .none 35 f fd)(T:mR K mg)(B:Eb mg base 35 31)(pe:dj P w K mg base 7 "first_sums" ["heaps","start","gone","most"] (uj P w K mg base)):cu P w K mg base fh 8 f fd ["steps"] (cW K qi):=by
 refine O_ F eY (λ ds M Q h=>?_) (λ A outer s H E ds M Q hr h=>?_)
 ·obtain⟨m,h,rows,rfl,_⟩:=h;rfl
 ·obtain⟨m,h,rows,rfl,hT,G,k⟩:=h;have Ez:=Fs G.tb;have Bg:=G.tb.len;have RD:iy ["thing","heap"] ["steps"] ((zG (top 3) 2 "first_things.<locals>.<lambda>" mg)).scope=true:=by kernel_rfl
  have Ou:=(sO (P:=P) (w:=w) (base:=base) T).mono (show 1<=5 by decide);refine⟨_,(ao (aY (Bw (cn:=[("steps",0)]) pe (hr.mono (by decide)) (by rfl) (Lo (by kernel_rfl)) eY.nd (aa (ay bV (by rfl) T.len (by decide+kernel) (aa (a_ aV (au 0) ai (λ _ _=>rfl)) ab)) (aa ai (aa (Jq (L:=zG (top 3) 2 "first_things.<locals>.<lambda>" mg) rfl B rfl rfl (by kernel_rfl) (La (by kernel_rfl))) (aa (ay bV (by rfl) T.len (by decide+kernel) (aa (au 0) ab)) ab))))))),?_⟩;walk_at "rx";refine bX Ez.1 ?_;walk_at "rx";rw[w6,Ez.2];refine FG hT λ lf Mg w_=>?_;walk_at "rx";rw[w6,Bg];refine⟨λ x j hx=>?_,λ C hC hn=>?_⟩
  ·rw[l8]at hx;cases hx;exact⟨_,rfl⟩
  have Ov:=Dv (cs:=[.tup (rows.map row)]) RD rfl rfl (λ i x j d h1 h2=>?_) hC af hn
  ·refine⟨Nat,inferInstance,nD,false,(· < m),dE rows,0,h,m,lf,List.range m,_,_,_,x',[.tup (rows.map row)],C,rfl,dh.inj,sP,G.vq,G.tb.pos,λ s hs=>mem_range.mpr hs,by rw[n9];have:=G.tb.dA;omega,G.tb.DM,Ou,Ov,λ M1 s i Q' hE hs hi hq=>?_,λ p told M' hp eB hF hE=>?_⟩
   ·exact⟨m,h,s,i,rows,rfl,rfl,G.tb,hs,hi,hq _ Ext.rfl⟩
   ·have hl:=hF.len G;rw[take_of_length_le (by omega)]at eB;have PY:C p=none:=by
     rcases cV C p with z|⟨d,z⟩
     ·exact z
     ·rw[kI z]at hp;cases hp
    rw[iJ PY]at hp;refine aB (k p told _ ((Ext.new Ext.rfl Mg _).free hp) (Ik eB PY) hF hl ((Ext.new Ext.rfl Mg _).trans (Ext.Jt hE hn)))
  ·cases i with
   |zero=>cases h1;cases h2;rfl
   |succ i=>cases h1
end
def qk:gK:=λ ds M Q=>∃(m h:Nat) (rows:List Row) (ls:Row),ds=[cz rows ls]/\IA M/\iS m h rows/\∀(p:Addr) (g:Nat->Cs) (M':Mem),M p=none->IH m h rows g->M' p=some (.lst ((List.range m).map λ x=>dk (g x)))->Ext M M'->Q (.ref p) M'
section
variable {P:Program}{w:World}{K:C0}{mg:Str->Option Value}{base:Heap}
theorem gi:aR ["table","told","counts","thing"] ["table"] (aq (top 5)):=⟨rfl,rfl,rfl,by decide+kernel,rfl,by decide+kernel,by decide+kernel⟩
theorem wB{f:Addr}{fd:FuncData}(F:jH K "firsts" "firsts" (top 5) f fd)(T:mR K mg)(ma:dj P w K mg base 8 "first_things" ["steps"] qi):cu P w K mg base fh 9 f fd ["table"] (cW K qk):=by
 refine qE F gi (λ ds M Q h=>?_) (λ dD A outer s H E ds M Q hr h=>?_)
 ·obtain⟨m,h,rows,ls,rfl,_⟩:=h;rfl
 ·obtain⟨m,h,rows,ls,rfl,hT,G,k⟩:=h;obtain⟨g,hg⟩:=G.fst;have Bg:=G.tb.len;have hfew:=G.tb.dA;have Af:cz rows ls=.tup [.tup (rows.map row),row ls]:=rfl;rw[Af];refine⟨_,(ae (aD (i:=1) gi.nd rfl (Or.inl rfl) (bz fO (cx (aa tX ab)) (ay bV (by rfl) T.len (by decide+kernel) (aa (a_ aV (au 0) ai (λ _ _=>rfl)) ab))))
 (ae (dR u7 rfl (dS (aS ma (hr.mono (by decide)) (by rfl) (aa (a_ aV (au 0) ai (λ _ _=>rfl)) ab))) (oi (n:=2) rfl (dm (bL (i:=2) gi.nd rfl (Or.inl rfl)) (dm (bL (i:=3) gi.nd rfl (Or.inl rfl)) jX)))
 (ao (ek (au 2) (fB (au 1) (au 3) jA))))
 (ao (aY (au 1))))),?_⟩
  walk_at "rx";intro p0 HK;walk_at "rx";rw[w6,Bg];refine qu af (by omega) (by omega) λ p hp=>?_;rw[m9];have Ia:Ext M (ah M p0 (.lst [.bf])):=Ext.new Ext.rfl HK _;have Pq:=Ia.free hp;have H_:=Ia.new hp (.lst (List.replicate m .bf));have mF:ah (ah M p0 (.lst [.bf])) p (.lst (List.replicate m .bf)) p=some (.lst (oj m g [])):=by rw[af];unfold oj;rw[show(λ x=>if x∈([]:List Nat)then dk (g x)else D.bf)=λ _=>D.bf from funext λ x=>by simp,map_const',n9]
  generalize ah (ah M p0 (.lst [.bf])) p (.lst (List.replicate m .bf))=M1 at*;walk_at "rx";refine⟨m,h,rows,rfl,H_ _ _ hT,G,λ r told M2 hr jh hF hl EB=>?_⟩;refine ig jh ?_;have Md:p≠r:=bJ mF hr;have S9:=H_.free hr;refine qX (ds:=told.map (iG nD)) (λ i δ M'=>∃v2 v3:Option D,δ=[some (.tup [.tup (rows.map row),row ls]),some (.ref p),v2,v3]/\Ext M M'/\M' r=some (.lst (told.map (iG nD)))/\M' p=some (.lst (oj m g ((told.take i).map (·.2))))) ⟨_,_,rfl,H_.trans EB,jh,EB _ _ mF⟩ (λ i δ M' _ h=>?_) (λ i d δ M' hd h=>?_) (λ δ M' h=>?_)
  ·obtain⟨_,_,_,_,h2,_⟩:=h;exact h2
  ·obtain⟨v2,v3,rfl,hE,jh,eB⟩:=h;rw[m8]at hd;obtain⟨e,he,rfl⟩:=Option.map_eq_some_iff.mp hd;have Oh:=hF.ent G hg (j4 he);have Og:iG nD e=.tup [dk e.1,.int (e.2:Int)]:=rfl;rw[Og];walk_at "rx";refine yr eB (j:=e.2) (by unfold oj;rw[w6,n9];rw[HC (by omega) (by have:=Oh.1;omega),m9]) ?_;refine⟨_,_,rfl,hE.own Pq,?_,?_⟩
   ·rw[av (B7 Md)];exact jh
   ·rw[af,Oh.2,xR Oh.1,take_one he,x3];rfl
  ·obtain⟨v2,v3,rfl,hE,jh,eB⟩:=h;rw[w6,take_length,xS (Hh hF.iz.nd (λ x hx=>by obtain⟨e,he,rfl⟩:=A1.mp hx;exact(hF.ent G hg he).1) (by rw[w6];omega))]at eB;walk_at "rx";exact aB (k p g _ Pq hg eB hE)
theorem lA:aR ["_law_script","_law_flow_here","_law_tables","_law_table_here","_law_found"] ["_law_script"] (aq (top 21)):=⟨rfl,rfl,rfl,by decide+kernel,rfl,by decide+kernel,by decide+kernel⟩
theorem G9{f:Addr}{fd:FuncData}(F:jH K "law" "law" (top 21) f fd)(T:mR K mg)(tx:dj P w K mg base 1 "_law_flow" ["_law_script"] ui)(rj:dj P w K mg base 4 "_law_table" ["_law_flow_here"] (ug 19 6))(AE:dj P w K mg base 9 "firsts" ["table"] qk)(f':dj P w K mg base 6 "_law_alike" ["_law_found","_law_due"] (yd 5))(jw:dj P w K mg base 9 "_law_first_sums" ["_law_table_here"] uh):cu P w K mg base fh 10 f fd ["_law_script"] (cW K qj):=by
 refine qE F lA (λ ds M Q h=>?_) (λ dD A outer s H E ds M Q hr h=>?_)
 ·obtain⟨ns,rfl,_⟩:=h;rfl
 ·obtain⟨ns,rfl,hT,k⟩:=h;refine⟨_,(ae (aD (i:=1) lA.nd rfl (Or.inr rfl) (aS tx (hr.mono (by decide)) (by rfl) (aa (au 0) ab)))
 (ae (cJ (i:=2) lA.nd rfl (Or.inl rfl) (tgs:=["_law_k"]) (fr:=[1]) ⟨cb (by kernel_rfl),rfl,(λ _ _ h=>h),(bt rfl T.range (aa ai ab)),(bI (λ _ _ _ _ _=>(bc (i:=0) (show(["_law_k","_law_flow_here"]:List Str).Nodup by decide+kernel) rfl (Or.inl rfl))) (by decide)),(λ _ _ _ _ _=>cg),(λ _ _ _ _ _=>(aS rj (hr.mono (by decide)) (by rfl) (aa (au 1) ab)))⟩)
 (ae (dR u7 rfl (dS (bz br (au 2) (jY um (au 2) jV (jU ai)))) (bL (i:=3) lA.nd rfl (Or.inl rfl))
 (ae (aD (i:=4) lA.nd rfl (Or.inl rfl) (aS AE (hr.mono (by decide)) (by rfl) (aa (au 3) ab)))
 (ae (cw (ET (kM (aS f' (hr.mono (by decide)) (by rfl) (aa (au 4) (aa (aS jw (hr.mono (by decide)) (by rfl) (aa (au 3) ab)) ab)))))
 (ao (aY xK))
 bh)
 (ao (bK (Jr g9 PySem.F.slot_list_clear PySem.F.type_list_clear Dt (au 4)))))))
 (ao (aY xK))))),?_⟩
  walk_at "rx";refine⟨ns,rfl,λ f cc M1 hF H_=>?_⟩;have hT:IA M1:=H_ _ _ hT;walk_at "rx";refine⟨cK (by omega) (by omega),?_⟩;rw[c_];refine gW (β:=List Row×Row) (λ t=>cz t.1 t.2) (λ ys M'=>Fl f cc M1 M'/\∀t∈ys,∃m h,iS m h t.1/\m<=19/\h<=6) (by decide) ⟨jm Ext.rfl hF,λ y h=>by cases h⟩ (λ i x ys M' N hx hl hI hN=>?_) (λ ys M2 hl hI=>?_)
  ·walk_at "rx";refine⟨f,cc,rfl,hI.1.bC,λ m h rows ls M2 G hm hh L F2=>?_⟩;refine hN (rows,ls) _ ⟨hI.1.trans F2,λ t ht=>?_⟩;rcases w9.mp ht with e|e
   ·exact hI.2 t e
   ·rw[l8.mp e];exact⟨m,h,G,hm,hh⟩
  ·obtain⟨F2,oX⟩:=hI;have hl:ys.length=2:=hl;have R4:IA M2:=GS F2 hT hF;intro p hp;have R3:IA (ah M2 p (.lst (ys.map λ t=>cz t.1 t.2))):=Ext.new Ext.rfl hp _ _ _ R4;have HJ:ah M2 p (.lst (ys.map λ t=>cz t.1 t.2)) p=some (.lst (ys.map λ t=>cz t.1 t.2)):=af;generalize ah M2 p (.lst (ys.map λ t=>cz t.1 t.2))=M3 at*;walk_at "rx";refine iY HJ (by decide) λ q hq=>?_;rw[show Int.toNat 1=1 from rfl];have R1:IA (ah M3 q (.lst ((ys.map λ t=>cz t.1 t.2).take 1))):=Ext.new Ext.rfl hq _ _ _ R3;have Me:ah M3 q (.lst ((ys.map λ t=>cz t.1 t.2).take 1)) p=some (.lst (ys.map λ t=>cz t.1 t.2)):=by rw[av (bJ HJ hq)];exact HJ
   have KN:ah M3 q (.lst ((ys.map λ t=>cz t.1 t.2).take 1)) q=some (.lst ((ys.map λ t=>cz t.1 t.2).take 1)):=af;generalize ah M3 q (.lst ((ys.map λ t=>cz t.1 t.2).take 1))=M4 at*;refine qw Me KN (small (by simp;omega)) λ r hr=>?_;rw[<- map_take,<- x3];have Rb:∀t∈ys++ys.take 1,∃m h,iS m h t.1/\m<=19/\h<=6:=λ t ht=>by
    rcases w9.mp ht with e|e
    ·exact oX t e
    ·exact oX t (mem_of_mem_take e)
   generalize ys++ys.take 1=zs at*;have R0:IA (ah M4 r (.lst (zs.map λ t=>cz t.1 t.2))):=Ext.new Ext.rfl hr _ _ _ R1;have Po:ah M4 r (.lst (zs.map λ t=>cz t.1 t.2)) r=some (.lst (zs.map λ t=>cz t.1 t.2)):=af;generalize ah M4 r (.lst (zs.map λ t=>cz t.1 t.2))=M5 at*;refine ig Po ?_;refine qX (ds:=zs.map λ t=>cz t.1 t.2) (λ i δ M'=>∃v3 v4:Option D,δ=[some (.fl (ns.map D.int)),some (.ref f),some (.ref p),v3,v4]/\Ext M5 M') ⟨_,_,rfl,Ext.rfl⟩ (λ i δ M' _ h=>?_) (λ i d δ M' hd h=>?_) (λ δ M' h=>?_)
   ·obtain⟨_,_,_,hE⟩:=h;exact hE _ _ Po
   ·obtain⟨v3,v4,rfl,hE⟩:=h;rw[m8]at hd;obtain⟨t,ht,rfl⟩:=Option.map_eq_some_iff.mp hd;obtain⟨m,h,G,hm,hh⟩:=Rb t (j4 ht);walk_at "rx";refine⟨m,h,t.1,t.2,rfl,hE _ _ R0,G,λ a g M6 ha hg RY Oy=>?_⟩;walk_at "rx";refine⟨m,h,t.1,t.2,rfl,G,hm,hh,λ b g2 M7 hb PC PJ PV=>?_⟩;walk_at "rx";have RO:((List.range m).map λ x=>dk (g2 x))=(List.range m).map λ x=>dk (g x):=map_congr_left λ x hx=>by have hx:=mem_range.mp hx;rw[(hg x hx).1.uniq (PC x hx).1 (by rw[(hg x hx).2,(PC x hx).2])]
    rw[RO]at PJ;have Mp:=PV _ _ RY;refine⟨_,_,rfl,yf Mp PJ (by rw[w6,n9];omega) (λ d hd=>?_),?_⟩
    ·obtain⟨x,hx,rfl⟩:=A1.mp hd;rw[DX];exact ye _ _ (by rw[w6,(hg x (mem_range.mp hx)).1.1];omega)
    ·walk_at "rx";refine⟨⟨rfl,_,Mp⟩,?_⟩;refine yI Mp ?_;exact⟨_,_,rfl,((hE.trans Oy).trans PV).own (hE.free ha)⟩
   ·obtain⟨v3,v4,rfl,hE⟩:=h;walk_at "rx";exact aB (k _)
end
theorem zP(K:C0):ff K "bool":=⟨by kernel_rfl,by kernel_rfl,by kernel_rfl,by kernel_rfl,by kernel_rfl,by kernel_rfl⟩
theorem DA(K:C0):ff K "int":=⟨by kernel_rfl,by kernel_rfl,by kernel_rfl,by kernel_rfl,by kernel_rfl,by kernel_rfl⟩
theorem zO(K:C0):ff K "list":=⟨by kernel_rfl,by kernel_rfl,by kernel_rfl,by kernel_rfl,by kernel_rfl,by kernel_rfl⟩
theorem Dz(K:C0):ff K "str":=⟨by kernel_rfl,by kernel_rfl,by kernel_rfl,by kernel_rfl,by kernel_rfl,by kernel_rfl⟩
theorem wU(K:C0):ff K "tuple":=⟨by kernel_rfl,by kernel_rfl,by kernel_rfl,by kernel_rfl,by kernel_rfl,by kernel_rfl⟩
theorem Hn{K:C0}{H:Hp}{a:Addr}{ns:List Int}(hO:vH H [31])(hS:eA K H a (ns.map V.int)):cW K qj [.ref a] H (λ v _=>v=.bl true) λ _ _ _=>False:=by
 have uV:Bn K H a (ns.map V.int):=by
  rcases hS with(h|⟨o,h⟩)|h
  ·rcases hO.1 a with z|⟨o,xs,z⟩|z
   ·rw[z]at h;cases h
   ·rw[z]at h;cases h
   ·rw[z]at h;cases h
  ·exact .inl ⟨o,h⟩
  ·exact .inr h
 refine⟨[.fl (ns.map D.int)],λ b=>if b=31 then some (.g_ (.j_ "first_things.<locals>.<lambda>"))else none,λ d _=>d=.bl true,ax.one (gT.mpr ⟨a,_,rfl,uV,jo ns⟩),λ a o e=>?_,⟨ns,rfl,B8 rfl,λ _=>rfl⟩,λ v H' d M' hd hm t e=>?_⟩
 ·by_cases z0:a=31
  ·subst z0;have e:=(B8 rfl).symm.trans e;cases e;exact⟨[],hO.2 _ (by simp),λ p hp=>nomatch hp⟩
  ·have e:=(B9 z0).symm.trans e;cases e
 ·subst e;exact aP.mp hd
structure TopC(K:C0)(mg:Str->Option Value)(x:Str)(i:Nat)(dV:Value)(c f:Addr)(d:FuncData):Prop where
 m:mg x=some (.ref f)
 F:jT K x x (top i) dV c f d
theorem Du{A:Type}{P:List A->Prop}{n:Nat}(h:∀a t,t.length=n->P (a::t)):∀us:List A,us.length=n+1->P us
 |[],e=>nomatch e
 |a::t,e=>h a t (Nat.succ.inj e)
theorem sN{A:Type}{P:List A->Prop}(h:∀a,P [a]):∀us:List A,us.length=1->P us:=Du λ a t e=>by rw[a6 e];exact h a
theorem mC{A:Type}{P:List A->Prop}(h:∀a b,P [a,b]):∀us:List A,us.length=2->P us:=Du λ a=>sN (P:=λ t=>P (a::t)) (h a)
theorem Hm{A:Type}{P:List A->Prop}(h:∀a b c,P [a,b,c]):∀us:List A,us.length=3->P us:=Du λ a=>mC (P:=λ t=>P (a::t)) (h a)
theorem NF{A:Type}{P:List A->Prop}(h:∀a b c d,P [a,b,c,d]):∀us:List A,us.length=4->P us:=Du λ a=>Hm (P:=λ t=>P (a::t)) (h a)
structure fu(K:C0)(mg:Str->Option Value)(x:Str)(i:Nat)(f:Addr)(d:FuncData):Prop where
 m:mg x=some (.ref f)
 F:jH K x x (top i) f d
theorem all_mk{l:PySem.W.OpenLaw}{w:World}{K:C0}{mg:Str->Option Value}{f0 f1 f2 f3 f4 f5 f6 f7 f8 f9 Sv Su Ss So Sn Sm Sl Sk Qa:Addr}{d0 d1 d2 d3 d4 d5 d6 d7 d8 d9 SJ SI SH SG SF SE SD SA:FuncData}{kV dc pm cd ct:Value}{an:Option Addr}
  (T:mR K mg)
  (t0:fu K mg "one_more" 1 f0 d0)
  (t1:TopC K mg "first_sums" 2 (.ref 22) 28 f1 d1)
  (e1:K.lookup 22=some {cls:=.type "tuple",data:=.seq #[.none] 0})
  (t2:TopC K mg "first_things" 3 .none 35 f2 d2)
  (t3:fu K mg "firsts" 5 f3 d3)
  (t4:fu K mg "_law_flow" 7 f4 d4)
  (t5:fu K mg "_law_pick" 8 f5 d5)
  (t6:fu K mg "_law_shuffled" 9 f6 d6)
  (t7:fu K mg "_law_alike" 10 f7 d7)
  (t8:fu K mg "_law_nim_table" 11 f8 d8)
  (t9:fu K mg "_law_blown" 12 f9 d9)
  (LZ:fu K mg "_law_renumbered" 13 Sv SJ)
  (LY:fu K mg "_law_counted" 14 Su SI)
  (LX:fu K mg "_law_any_table" 15 Ss SH)
  (LW:fu K mg "_law_long_table" 16 So SG)
  (LV:fu K mg "_law_table" 17 Sn SF)
  (JD:fu K mg "_law_sums" 18 Sm SE)
  (LU:fu K mg "_law_from" 19 Sl SD)
  (LS:fu K mg "_law_first_sums" 20 Sk SA)
  (QF:fu K mg "law" 21 Qa (PySem.W.fnOf "law" "law" (bR (top 21)) (bx (top 21)) (aq (top 21)) .none kV dc pm an cd ct)):
  ∃fd:FuncData,(∀(s:Shared) (v:Value),BindsTo s fd ⟨[v],[]⟩ [("_law_script",v)])/\∀base:Heap,K.In base->(∀q∈([(35,31)]:List (Addr×Addr)),Eb mg base q.1 q.2)->cu l.prog w K mg base fh 10 Qa fd ["_law_script"] (cW K qj):=by
 refine⟨PySem.W.fnOf "law" "law" (bR (top 21)) (bx (top 21)) (aq (top 21)) .none kV dc pm an cd ct,λ s v=>.of_eq rfl,λ base _ Ot=>?_⟩;have b0:=t0.F.binds (ps:=["counts","heap"]) λ _ _ _ _ _ _=>mC λ _ _=>rfl;have b1:=t1.F.AS (ps:=["heaps","start","gone","most"]) λ _ _ _ _ _ s hk=>NF λ _ _ _ _=>Iw hk rfl e1 rfl rfl rfl;have b2:=t2.F.AS (ps:=["steps"]) λ _ _ _ _ _ s hk=>sN λ _=>.of_eq rfl;have b3:=t3.F.binds (ps:=["table"]) λ _ _ _ _ _ _=>sN λ _=>rfl;have b4:=t4.F.binds (ps:=["_law_script"]) λ _ _ _ _ _ _=>sN λ _=>rfl;have b5:=t5.F.binds (ps:=["_law_flow_here","_law_many"]) λ _ _ _ _ _ _=>mC λ _ _=>rfl;have b6:=t6.F.binds (ps:=["_law_flow_here","_law_things"]) λ _ _ _ _ _ _=>mC λ _ _=>rfl;have b7:=t7.F.binds (ps:=["_law_found","_law_due"]) λ _ _ _ _ _ _=>mC λ _ _=>rfl;have b8:=t8.F.binds (ps:=["_law_sizes","_law_last"]) λ _ _ _ _ _ _=>mC λ _ _=>rfl;have b9:=t9.F.binds (ps:=["_law_flow_here","_law_table_here"]) λ _ _ _ _ _ _=>mC λ _ _=>rfl;have SV:=LZ.F.binds (ps:=["_law_flow_here","_law_table_here"]) λ _ _ _ _ _ _=>mC λ _ _=>rfl;have SU:=LY.F.binds (ps:=["_law_value","_law_low","_law_wide"]) λ _ _ _ _ _ _=>Hm λ _ _ _=>rfl;have SS:=LX.F.binds (ps:=["_law_flow_here","_law_many"]) λ _ _ _ _ _ _=>mC λ _ _=>rfl;have SR:=LW.F.binds (ps:=["_law_flow_here"]) λ _ _ _ _ _ _=>sN λ _=>rfl;have SQ:=LV.F.binds (ps:=["_law_flow_here"]) λ _ _ _ _ _ _=>sN λ _=>rfl;have Qk:=JD.F.binds (ps:=["_law_many","_law_total"]) λ _ _ _ _ _ _=>mC λ _ _=>rfl;have SO:=LU.F.binds (ps:=["_law_table_here","_law_x","_law_counts"]) λ _ _ _ _ _ _=>Hm λ _ _ _=>rfl;have SN:=LS.F.binds (ps:=["_law_table_here"]) λ _ _ _ _ _ _=>sN λ _=>rfl;have eD:=bW.of t5.F (Dh t5.F T (P:=l.prog) (w:=w) (base:=base)) t5.m b5;have vP:=bW.of t4.F (Dm t4.F T (P:=l.prog) (w:=w) (base:=base)) t4.m b4;have xF:=bW.of t7.F (G' t7.F T t7.m b7 (P:=l.prog) (w:=w) (base:=base) 5) t7.m b7;have p_:=bW.of LY.F (G_ LY.F T (P:=l.prog) (w:=w) (base:=base)) LY.m SU;have vN:=bW.of LW.F (Dk LW.F T eD p_ (P:=l.prog) (w:=w) (base:=base)) LW.m SR;have vQ:=bW.of LX.F (Dn LX.F T eD p_ (P:=l.prog) (w:=w) (base:=base)) LX.m SS;have vL:=bW.of t8.F (Di t8.F T (P:=l.prog) (w:=w) (base:=base)) t8.m b8;have rV:=bW.of t9.F (zm t9.F T eD (P:=l.prog) (w:=w) (base:=base)) t9.m b9;have vK:=bW.of t6.F (Dg t6.F T eD (P:=l.prog) (w:=w) (base:=base)) t6.m b6;have xE:=bW.of LZ.F (G8 LZ.F T vK (P:=l.prog) (w:=w) (base:=base)) LZ.m SV;have rR:=bW.of LV.F (zi LV.F T eD vN vQ vL rV xE (P:=l.prog) (w:=w) (base:=base)) LV.m SQ;have vJ:=bW.of JD.F (zj JD.F T JD.m Qk (P:=l.prog) (w:=w) (base:=base) 7) JD.m Qk;have vO:=bW.of LU.F (Dl LU.F T (P:=l.prog) (w:=w) (base:=base)) LU.m SO;have rS:=bW.of LS.F (zk LS.F T vJ vO (P:=l.prog) (w:=w) (base:=base)) LS.m SN;have vM:=bW.of t0.F (Dj t0.F T (P:=l.prog) (w:=w) (base:=base)) t0.m b0;have rT:=bW.O' t1.F (zl t1.F T vM (P:=l.prog) (w:=w) (base:=base)) t1.m b1;have pY:=bW.O' t2.F (wA t2.F T (Ot (35,31) (by simp)) rT (P:=l.prog) (w:=w) (base:=base)) t2.m b2;have pZ:=bW.of t3.F (wB t3.F T pY (P:=l.prog) (w:=w) (base:=base)) t3.m b3;exact G9 QF.F T vP rR pZ xF rS
theorem walk{l:PySem.W.OpenLaw}{q:Program}{loose:List Str}{XP:(Str->Option Value)->Heap->Prop}{YP:World->Heap->Prop}{d:DefRec}{K:Params->C0}(hn:l.most=some 63)(K3:d.params.defaults=[])
  (hY:∀(w:World) (h:Heap),YP w h->(K w.params).In h/\∀q∈([(35,31)]:List (Addr×Addr)),h.get? q.2=some (PySem.W.tabObj #[])/\(K w.params).lookup q.2=none/\PySem.W.CodeHd h q.1 q.2)
  (F:∀(w:World) (mg:Str->Option Value) (fa:Addr) (h:Heap),(K w.params).In h->h.Ns mainGlobals mg->mg d.name=some (.ref fa)->
   ∃fd:FuncData,(∀(s:Shared) (u:Value),BindsTo s fd ⟨[u],[]⟩ [("_law_script",u)])/\∀base:Heap,(K w.params).In base->(∀q∈([(35,31)]:List (Addr×Addr)),Eb mg base q.1 q.2)->cu l.prog w (K w.params) mg base fh 10 fa fd ["_law_script"] (cW (K w.params) qj)):
  PySem.W.WalkO q loose XP YP l.row.toRowW d [] (λ f vs=>PySem.call f vs):=
 L2.xI (n:=63) (k:=10) (x:="_law_script") (CX:=λ _=>fh) (sp:=λ w=>cW (K w.params) qj) hn (by decide) K3 ⟨rfl,by decide,by decide⟩ hY F (λ _ _ a ns hl hO hS=>Hn hO hS) λ _ _ _ _ _ z=>z
end KK
open PySem PySem.W PyProof.Rows
def PySem.W.Fast.tw3424524214572439076:Program:=PySem.Challenge.pw_lastloser_k29_first_sums
theorem PySem.W.Fast.te3424524214572439076 : PySem.Challenge.pw_lastloser_k29_first_sums = PySem.W.Fast.tw3424524214572439076 := rfl
def PySem.W.Fast.tw5597149773816509226:Nat:=0
def PySem.W.Fast.tw17389258389358423757:Nat:=0
def PySem.W.Fast.tw8989427101026456309:Nat:=0
def PySem.W.Fast.tw18407823861670236765:Nat:=0
def PySem.W.Fast.tw340943301801174815:Nat:=0
namespace KK
open L2
noncomputable def kE (P:Params)(x:Str)(t:Nat)(v:Value):DictEntry:={hash:=PyData.keyHash P x,key:=.str x t,val:=v}
noncomputable def kO (x:Str)(t l n r s u:Nat)(v w:Value):Obj:={cls:=.type "code",data:=.fields #[.str x t,.str x (t+1),.str "/claim/cut.py" (t+2),.int l 0,.int n 0,.int 0 0,.int 0 0,.int 3 0,.ref r,.bool true,.int 181 0,.ref (r+1),.none,v,w,.ref s,.int u 0,.int l 0,.str "/claim/cut.py" (u+1)]}
noncomputable def kF (x:Str)(i:Nat)(m:Str×Nat)(c:Nat)(d:Value:=.none):Obj:={cls:=.type "function",data:=.func (PySem.W.fnOf x x (bR (top i)) (bx (top i)) (aq (top i)) d .none .none (.str m.1 m.2) none (.ref c) .none)}
noncomputable def kP (x:Str)(a i:Nat)(m:Str×Nat)(t l n u q:Nat)(d:Value:=.none):List (Nat×Obj):=[(a,if q=0 then kO x t l n (a - 3) (a - 1) u .none .none else kO x t l n (a - 5) (a - 1) u (.ref (a - 3)) (.ref (a - 2))),(a+1,kF x i m a d)]
noncomputable def m0:Str×Nat:=("lastloser.firsts",221)
noncomputable def m1:Str×Nat:=("lastloser.seeking",187)
noncomputable def m2:Str×Nat:=("law_lastloser_k29_first_sums",233)
noncomputable def kD (P:Params):Obj:={cls:=.type "dict",data:=.dict #[kE P "__name__" 165 (.str "law_lastloser_k29_first_sums" 233),kE P "__doc__" 166 .none,kE P "__package__" 167 .none,kE P "__loader__" 168 (.builtin "__main__.__loader__#opaque"),kE P "__spec__" 169 .none,kE P "__annotations__" 170 (.ref 6),kE P "__builtins__" 171 (.ref 4),kE P "__file__" 173 (.str "/claim/cut.py" 172),kE P "__cached__" 174 .none,kE P "one_more" 196 (.ref 21),kE P "first_sums" 212 (.ref 29),kE P "first_things" 220 (.ref 36),kE P "firsts" 232 (.ref 43),kE P "_law_flow" 241 (.ref 50),kE P "_law_pick" 251 (.ref 57),kE P "_law_shuffled" 261 (.ref 64),kE P "_law_alike" 267 (.ref 69),kE P "_law_nim_table" 273 (.ref 74),kE P "_law_blown" 279 (.ref 79),kE P "_law_renumbered" 285 (.ref 84),kE P "_law_counted" 294 (.ref 91),kE P "_law_any_table" 300 (.ref 96),kE P "_law_long_table" 306 (.ref 101),kE P "_law_table" 312 (.ref 106),kE P "_law_sums" 318 (.ref 111),kE P "_law_from" 330 (.ref 118),kE P "_law_first_sums" 336 (.ref 123),kE P "law" 342 (.ref 128)] 28}
noncomputable def kT (vs:List Value)(n:Nat):Obj:={cls:=.type "tuple",data:=.seq vs.toArray n}
noncomputable def kK (P:Params):C0:=(3,kD P)::[(22,kT [.none] 0)]++[kP "one_more" 20 1 m1 189 2 2 194 1,kP "first_sums" 28 2 m1 197 4 4 210 1 (.ref 22),kP "first_things" 35 3 m1 213 17 1 218 1,kP "firsts" 42 5 m0 223 20 1 230 1,kP "_law_flow" 49 7 m2 235 26 1 239 1,kP "_law_pick" 56 8 m2 242 28 2 249 1,kP "_law_shuffled" 63 9 m2 252 43 2 259 1,kP "_law_alike" 68 10 m2 262 49 2 265 0,kP "_law_nim_table" 73 11 m2 268 61 2 271 0,kP "_law_blown" 78 12 m2 274 75 2 277 0,kP "_law_renumbered" 83 13 m2 280 91 2 283 0,kP "_law_counted" 90 14 m2 286 95 3 292 1,kP "_law_any_table" 95 15 m2 295 99 2 298 0,kP "_law_long_table" 100 16 m2 301 116 1 304 0,kP "_law_table" 105 17 m2 307 131 1 310 0,kP "_law_sums" 110 18 m2 313 146 2 316 0,kP "_law_from" 117 19 m2 319 155 3 328 1,kP "_law_first_sums" 122 20 m2 331 160 1 334 0,kP "law" 127 21 m2 337 169 1 340 0].flatten
noncomputable def kA:List Addr:=[3,22,20,21,28,29,35,36,42,43,49,50,56,57,63,64,68,69,73,74,78,79,83,84,90,91,95,96,100,101,105,106,110,111,117,118,122,123,127,128]
theorem tF{K:C0}{h:Heap}{mg:Str->Option Value}{x:Str}{i:Nat}(X:K.In h)(G:h.Ns mainGlobals mg)(m:Str×Nat)(c:Nat)(a:PySem.W.nsIn K mainGlobals x=some (some (.ref (c+1))):=by kernel_rfl)(l:K.lookup (c+1)=some (kF x i m c):=by kernel_rfl)(e:PySem.W.codeIn K (.ref c) x=true:=by kernel_rfl):fu K mg x i (c+1) (PySem.W.fnOf x x (bR (top i)) (bx (top i)) (aq (top i)) .none .none .none (.str m.1 m.2) none (.ref c) .none):=
 ⟨PySem.W.mg_of X G a,Ie (st:=top i) l e (by unfold PySem.W.keepIn;dsimp only;rw[l];rfl)⟩
theorem kn{K:C0}{h:Heap}{mg:Str->Option Value}{x:Str}(X:K.In h)(G:h.Ns mainGlobals mg)(e:PySem.W.nsIn K mainGlobals x=some none:=by kernel_rfl):mg x=none:=PySem.W.mg_none_of X G e
theorem tC{K:C0}{h:Heap}{mg:Str->Option Value}{x:Str}{i:Nat}{d:Value}(X:K.In h)(G:h.Ns mainGlobals mg)(m:Str×Nat)(c:Nat)(a:PySem.W.nsIn K mainGlobals x=some (some (.ref (c+1))):=by kernel_rfl)(l:K.lookup (c+1)=some (kF x i m c d):=by kernel_rfl)(e:PySem.W.codeIn K (.ref c) x=true:=by kernel_rfl):TopC K mg x i d c (c+1) (PySem.W.fnOf x x (bR (top i)) (bx (top i)) (aq (top i)) d .none .none (.str m.1 m.2) none (.ref c) .none):=
 ⟨PySem.W.mg_of X G a,DJ (st:=top i) l e (by unfold PySem.W.keepIn;dsimp only;rw[l];rfl)⟩
noncomputable def NJ (P:Params):C0:=[(31,PySem.W.tabObj #[])]++kK P
noncomputable def Q7:List Addr:=[31]++kA
theorem cH{K:C0}{h:Heap}(X:K.In h)(c P:Addr)(o:Obj)(vs:Array Value)(file:Str)(tf:Nat)(flags:Int)(tg:Nat)(Ma:Bool)(text:Int)(tt:Nat)(l:K.lookup c=some o)(e1:o.cls=.type "code")(e2:o.data=.fields vs)(e3:vs[11]?=some (.ref P))(e4:vs.getD 11 .none=.ref P)(e5:vs.getD 18 .none=.str file tf)(e6:vs.getD 7 .none=.int flags tg)(e7:vs.getD 9 .none=.bool Ma)(e8:vs.getD 10 .none=.int text tt)(e9:c≠P):PySem.W.CodeHd h c P:=⟨o,vs,file,tf,flags,tg,Ma,text,tt,X _ _ l,e1,e2,e3,e4,e5,e6,e7,e8,e9⟩
theorem k0{P:Params}{h:Heap}(X:(NJ P).In h):(kK P).In h/\∀q∈([(35,31)]:List (Addr×Addr)),h.get? q.2=some (PySem.W.tabObj #[])/\(kK P).lookup q.2=none/\PySem.W.CodeHd h q.1 q.2:=by
 have n0:(kK P).lookup 31=none:=by kernel_rfl
 have Y:(kK P).In h:=λ b o e=>by
  refine X b o ?_;unfold NJ;by_cases z0:b=31
  ·rw[z0,n0]at e;cases e
  simp only[cons_append,nil_append,p4,beq_false_of_ne z0];exact e
 refine⟨Y,λ q hq=>?_⟩;simp only[y8,not_mem_nil,or_false]at hq;rcases hq with rfl
 ·exact⟨X _ _ (by kernel_rfl),n0,cH Y 35 31 (kO "first_things" 213 17 1 30 34 218 (.ref 32) (.ref 33)) _ _ _ _ _ _ _ _ (by kernel_rfl) rfl rfl rfl rfl rfl rfl rfl rfl (by decide)⟩
def pg:Program:={PySem.Challenge.pw_lastloser_k29_first_sums with main:={PySem.Challenge.pw_lastloser_k29_first_sums.main with body:=[top 0,top 1,top 2,top 3,top 4,top 5,top 6,top 7,top 8,top 9,top 10,top 11,top 12,top 13,top 14,top 15,top 16,top 17,top 18,top 19,top 20,top 21]}}
def lw:PySem.W.OpenLaw:={PySem.Challenge.rw_lastloser_k29_first_sums with prog:=pg}
end KK
set_option maxRecDepth 100000 in
set_option maxHeartbeats 0 in
theorem KK.pre:KK.lw.Holds:=by
 w_on;o_law;o_head (PySem.W.kHook KK.NJ KK.Q7 (λ _=>by kernel_rfl));(case hw=>w_witness2)
 refine KK.walk (l:=KK.lw) rfl rfl (K:=KK.kK) (λ w h Y=>KK.k0 (PySem.W.kIn_of Y)) ?F
 case F=>
  intro w mg fa h KX G KY;have hm:mg "law"=some (.ref fa):=KY;have e:=hm.symm.trans (PySem.W.mg_of KX G (v:=.ref (127+1)) (by kernel_rfl));cases e;exact KK.all_mk ⟨KK.kn KX G,KK.kn KX G,KK.kn KX G,KK.kn KX G,KK.kn KX G,KK.kn KX G,KK.kn KX G,KK.kn KX G,KK.kn KX G,KK.kn KX G,KK.kn KX G,KK.kn KX G,KK.kn KX G,KK.zP _,KK.DA _,KK.zO _,KK.Dz _,KK.wU _⟩ (KK.tF KX G KK.m1 20) (KK.tC KX G KK.m1 28) (by kernel_rfl) (KK.tC KX G KK.m1 35) (KK.tF KX G KK.m0 42) (KK.tF KX G KK.m2 49) (KK.tF KX G KK.m2 56) (KK.tF KX G KK.m2 63) (KK.tF KX G KK.m2 68) (KK.tF KX G KK.m2 73) (KK.tF KX G KK.m2 78) (KK.tF KX G KK.m2 83) (KK.tF KX G KK.m2 90) (KK.tF KX G KK.m2 95) (KK.tF KX G KK.m2 100) (KK.tF KX G KK.m2 105) (KK.tF KX G KK.m2 110) (KK.tF KX G KK.m2 117) (KK.tF KX G KK.m2 122) (KK.tF KX G KK.m2 127)
theorem PySem.Challenge.cw_lastloser_k29_first_sums_holds : PySem.Challenge.rw_lastloser_k29_first_sums.Holds :=
 KK.pre
